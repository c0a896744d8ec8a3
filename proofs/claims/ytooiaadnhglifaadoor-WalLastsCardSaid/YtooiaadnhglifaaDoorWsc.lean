/-
  Contract: wal.Scan.
-/
import Derived.Test.YtooiaadnhglifaaDoorWpl
import Derived.ScopeJumps
import Derived.WalkMore
set_option linter.unusedVariables false
set_option linter.unusedSimpArgs false
namespace Go.Proofs.YtooiaadnhglifaaDoor
open Go.RowKit

theorem Acc.far {w : World} {base n d : Nat} {p : Option Addr} {xs : List UInt8} (h : Acc w base (.slice p n d) xs) {g : Nat} (hg : g < base) : xs = [] ∨ ∀ b, p = some b → b.block ≠ g := by
  by_cases h0 : xs = []
  · exact .inl h0
  · refine .inr fun b hb => ?_
    rcases h.2 with ⟨h1, _⟩ | ho
    · exact absurd h1 h0
    · have := (ho.lt b.block (by rw [hb]; rfl)).1
      omega
/-- a scope with one label that the run jumps back to -/
theorem wp_scope_one {P : Program} {rest : Code} {l : Nat} {Q : Exit → Act → World → Prop} {a : Act} {w : World} (J : Act → World → Prop) (μ : Act → World → Nat)
    (first : J a w)
    (pass : ∀ a w, J a w → rest.wp P (Exit.jump l (fun a' w' => J a' w' ∧ μ a' w' < μ a w) Q) a w) : (Code.scope ((Code.label l).seq rest)).wp P Q a w :=
  wp_scope_jumps (rest := .seq .skip rest) l J μ (by simp [findLabel]) (by
    refine wp_seq (wp_label ?_)
    exact Code.wp_mono (fun e a w h => by cases e <;> first | exact h | exact ⟨h.1, h.2.1⟩) (pass a w first)) (fun a w h => wp_seq (wp_skip (pass a w h)))

theorem jump_ret {l : Nat} {J : Act → World → Prop} {Q : Exit → Act → World → Prop} {a : Act} {w : World} : Exit.jump l J Q .ret a w = Q .ret a w := rfl
def FrS (a : Act) (q : Option Addr) (n c first e : Nat) (v : Value) : Prop := a = ⟨#[.slice q n c, a.tmps.getD 1 undef, .int .i64 (first : Int), v, .int .i64 (e : Int), a.tmps.getD 5 undef, a.tmps.getD 6 undef, a.tmps.getD 7 undef, a.tmps.getD 8 undef, a.tmps.getD 9 undef, a.tmps.getD 10 undef, a.tmps.getD 11 undef, a.tmps.getD 12 undef, a.tmps.getD 13 undef, a.tmps.getD 14 undef, a.tmps.getD 15 undef, a.tmps.getD 16 undef, a.tmps.getD 17 undef, a.tmps.getD 18 undef, a.tmps.getD 19 undef, a.tmps.getD 20 undef, a.tmps.getD 21 undef, a.tmps.getD 22 undef, a.tmps.getD 23 undef, a.tmps.getD 24 undef, a.tmps.getD 25 undef, a.tmps.getD 26 undef, a.tmps.getD 27 undef, a.tmps.getD 28 undef, a.tmps.getD 29 undef, a.tmps.getD 30 undef, a.tmps.getD 31 undef, a.tmps.getD 32 undef, a.tmps.getD 33 undef, a.tmps.getD 34 undef, a.tmps.getD 35 undef, a.tmps.getD 36 undef, a.tmps.getD 37 undef, a.tmps.getD 38 undef, a.tmps.getD 39 undef, a.tmps.getD 40 undef, a.tmps.getD 41 undef, a.tmps.getD 42 undef, a.tmps.getD 43 undef, a.tmps.getD 44 undef, a.tmps.getD 45 undef, a.tmps.getD 46 undef, a.tmps.getD 47 undef], []⟩
theorem FrS.open {a : Act} {q : Option Addr} {n c first e : Nat} {v : Value} (h : FrS a q n c first e v) : ∃ u : Nat → Value, a = ⟨#[.slice q n c, u 1, .int .i64 (first : Int), v, .int .i64 (e : Int), u 5, u 6, u 7, u 8, u 9, u 10, u 11, u 12, u 13, u 14, u 15, u 16, u 17, u 18, u 19, u 20, u 21, u 22, u 23, u 24, u 25, u 26, u 27, u 28, u 29, u 30, u 31, u 32, u 33, u 34, u 35, u 36, u 37, u 38, u 39, u 40, u 41, u 42, u 43, u 44, u 45, u 46, u 47], []⟩ := ⟨fun i => a.tmps.getD i undef, h⟩
theorem jump_goto {l : Nat} {J : Act → World → Prop} {Q : Exit → Act → World → Prop} {a : Act} {w : World} (h : J a w) : Exit.jump l J Q (.goto l) a w := ⟨rfl, h⟩
/-- bytes of a list's own -/
def Low (base : Nat) (l : List SlA) : Prop := ∀ x ∈ l, x.m = [] ∨ ∀ a, x.q = some a → base ≤ a.block
theorem Acc.off {w : World} {base n d : Nat} {p : Option Addr} {xs : List UInt8} (h : Acc w base (.slice p n d) xs) {B : Nat} (hB : B ≤ base) : xs = [] ∨ ∀ b, p = some b → B ≤ b.block := by
  by_cases h0 : xs = []
  · exact .inl h0
  · refine .inr fun b hb => ?_
    rcases h.2 with ⟨h1, _⟩ | ho
    · exact absurd h1 h0
    · exact Nat.le_trans hB (ho.lt b.block (by rw [hb]; rfl)).1
theorem Low.snoc {base : Nat} {l : List SlA} (h : Low base l) {y : SlA} (hy : y.m = [] ∨ ∀ a, y.q = some a → base ≤ a.block) : Low base (l ++ [y]) := fun x hx => by
  rcases List.mem_append.1 hx with h1 | h1
  · exact h x h1
  · obtain rfl := List.mem_singleton.1 h1; exact hy
def JScan (b : List UInt8) (q : Option Addr) (n c : Nat) (w : World) (a : Act) (wr : World) : Prop :=
  ∃ (first e : Nat) (l : List SlA) (v : Value), scanG b first (l.map (·.m)) e = scanG b 0 [] 0 ∧ e ≤ b.length ∧ 2 * l.length ≤ e ∧ (Pl wr w.heap.size v l ∧ Low w.heap.size l) ∧ first ≤ 1099511627776 ∧ Below w.heap.size w wr ∧ FrS a q n c first e v

set_option maxRecDepth 100000 in
set_option maxHeartbeats 4000000 in
theorem scan_low (q : Option Addr) (n c : Nat) (b : List UInt8) (hn : n = b.length) (w : World) (hR : Rd0 w q b) (hc : b.length ≤ c) (hE : Env w) (hz : b.length ≤ 2000000) :
    Calls Tryd.prog 12 #[.slice q n c] w fun r w' => (∃ v l, r = .returned (.tuple #[.int .i64 ((scanG b 0 [] 0).1 : Int), v, .int .i64 ((scanG b 0 [] 0).2.2 : Int)]) ∧ Pl w' w.heap.size v l ∧ l.map (·.m) = (scanG b 0 [] 0).2.1 ∧ Low w.heap.size l) ∧ Below w.heap.size w w' := by
  have HN := Lib.hid hn
  have HC := Lib.hid hc
  have HZ := Lib.hid hz
  have HE := Lib.hid hE
  have HR := Lib.hid hR
  clear hR hc hE hz hn
  go_enter Tryd.func12, Tryd.ntmps12
  go_wp2_with fail
  refine wp_scope_one (JScan b q n c w) (fun a _ => b.length - (intOf (a.tmps.getD 4 undef)).toNat) ?first ?pass
  case first =>
    refine ⟨0, 0, [], .slice none 0 0, rfl, by omega, by simp, ⟨pl_nil _ _, fun x hx => by cases hx⟩, by omega, Below.refl _ _, rfl⟩
  case pass =>
    intro a wr hJ
    obtain ⟨first, e, l, v, hsg, he, hle, ⟨hP, hlow⟩, hf, hb, hfr⟩ := hJ
    have HLOW := Lib.hid hlow
    clear hlow
    obtain ⟨u, rfl⟩ := hfr.open
    have HSG := Lib.hid hsg
    have HE2 := Lib.hid he
    have HF := Lib.hid hf
    have HB := Lib.hid hb
    obtain ⟨p, d, rfl, hd⟩ := hP.form
    obtain ⟨K, hK⟩ : ∃ K, l.length = K := ⟨_, rfl⟩
    rw [hK] at hP hle hd ⊢
    have HK := Lib.hid hK
    have HLE := Lib.hid hle
    clear hK
    have HP := Lib.hid hP
    have hsl := fun wx => run_slice_fromQ (P := Tryd.prog) 22 5 Tryd.underlying22 (by kernel_rfl) q n c .i64 (e : Int) e rfl (by have := HN.out; omega) wx
    have HC1 := Lib.hid (whole_any (fromQ q c e) (n - e) (c - e) (b.drop e) (by rw [List.length_drop, HN.out]) wr ((HR.out.on HB.out).drop e c HC.out) (by rw [List.length_drop]; have := HC.out; omega) (HE.out.on HB.out HE.out.size) (by rw [List.length_drop]; have := HZ.out; omega))
    clear hsg he hle hP hf hb hfr
    cases hw : wholeS (b.drop e) with
    | none =>
      have HW := Lib.hid (scanG_none (first := first) (out := l.map (·.m)) hw)
      rw [hw] at HC1
      clear hw
      go_wp2_with (go_at_call 27; refine HC1.out.mono ?_; rintro r w1 ⟨⟨q1, k1, c1, j1, rfl, _⟩, hb1⟩; have HP1 := Lib.hid (HP.out.on hb1); have HB1 := Lib.hid (HB.out.trans (hb1.mono HB.out.size)); clear hb1)
      rw [jump_ret]
      refine bodyPost_ret (results_tmp3 rfl _ _ _) rfl ⟨⟨_, l, ?_, HP1.out, ?_, HLOW.out⟩, HB1.out⟩
      · rw [← HSG.out, HW.out]; rfl
      · rw [← HSG.out, HW.out]
    | some m =>
      have hml := wholeS_len hw
      rw [List.length_drop] at hml
      have HML := Lib.hid hml
      have HW := Lib.hid hw
      rw [hw] at HC1
      clear hw hml
      go_upto_region 2 with (go_at_call 27; refine HC1.out.mono ?_; rintro r w1 ⟨⟨q1, k1, c1, j1, rfl, hm1⟩, hb1⟩; have HP1 := Lib.hid (HP.out.on hb1); have HB1 := Lib.hid (HB.out.trans (hb1.mono HB.out.size)); clear hb1)
      obtain ⟨rfl, rfl, hrm, hcm⟩ := hm1 m rfl
      have HRM := Lib.hid hrm
      have HCM := Lib.hid hcm
      obtain ⟨bb, oo, rfl⟩ : ∃ bb oo, q1 = some ⟨bb, oo, none⟩ := by
        rcases hrm with h | ⟨bb, oo, h, _⟩
        · subst h; have := HML.out; simp at this
        · exact ⟨bb, oo, h⟩
      clear hm1 hrm hcm HC1 HP
      have hs0 := fun wx => run_slice_to (P := Tryd.prog) 22 5 Tryd.underlying22 (by kernel_rfl) (some ⟨bb, oo, none⟩) m.length c1 .i64 8 8 rfl (by have := HML.out; have := HCM.out; omega) wx
      have HT8 := Lib.hid (show (m.take 8).length = 8 by rw [List.length_take]; have := HML.out; omega)
      obtain ⟨o2, ho2⟩ := fromQ_some bb oo c1 8
      have hs8 := fun wx => run_slice_fromQ (P := Tryd.prog) 22 5 Tryd.underlying22 (by kernel_rfl) (some ⟨bb, oo, none⟩) m.length c1 .i64 8 8 rfl (by have := HML.out; omega) wx
      have hR8 := HRM.out.drop 8 c1 HCM.out
      rw [ho2] at hs8 hR8
      obtain ⟨mm, hmm⟩ : ∃ mm, m.drop 8 = mm := ⟨_, rfl⟩
      have HD8 := Lib.hid (show m.length - 8 = mm.length by rw [← hmm, List.length_drop])
      rw [hmm] at hR8
      have HMM := Lib.hid hmm
      clear hmm
      have HR8 := Lib.hid hR8
      have HPF := Lib.hid (show ∀ g, (Value.slice p K d).ownBlock = some g → g < w1.heap.size from fun g hg => (HP1.out.own.lt g hg).2)
      have s9 : IntKind.i64.wrap ((e : Int) + ((m.length : Int) + 9)) = ((e + (m.length + 9) : Nat) : Int) := by rw [IntWalk.i64_in _ (by have := HML.out; have := HZ.out; omega)]; omega
      have hl0 : (0 : Int) ≤ (K : Int) := by omega
      obtain ⟨J9, hJ9⟩ : ∃ J9 : Int, J9 = (m.length : Int) + 9 := ⟨_, rfl⟩
      rw [← hJ9] at s9 ⊢
      clear hJ9 hR8 ho2
      cases hok : okN (beS (m.take 8)) first K with
      | false =>
        have HW2 := Lib.hid (scanG_bad (first := first) (out := l.map (·.m)) HW.out (by rw [List.length_map, HK.out]; exact hok))
        have HFO := Lib.hid (fun wx => follows_any (beS (m.take 8)) first K HF.out (by have := HLE.out; have := HE2.out; have := HZ.out; omega) wx)
        rw [hok] at HFO
        clear hok
        go_wp2_with (first
          | (go_at_call 28; refine (num_any _ 8 _ (m.take 8) HT8.out.symm _ (HRM.out.take 8) (by rw [HT8.out]; omega)).mono ?_; rintro r w2 ⟨rfl, rfl⟩)
          | (go_at_call 29; refine (HFO.out _).mono ?_; rintro r w2 ⟨rfl, rfl⟩))
        rw [jump_ret]
        refine bodyPost_ret (results_tmp3 rfl _ _ _) rfl ⟨⟨_, l, ?_, HP1.out, ?_, HLOW.out⟩, HB1.out⟩
        · rw [← HSG.out, HW2.out]; rfl
        · rw [← HSG.out, HW2.out]
      | true =>
        have HST := Lib.hid (scanG_step (first := first) (out := l.map (·.m)) HW.out (by rw [List.length_map, HK.out]; exact hok))
        rw [List.length_map, HK.out, HMM.out] at HST
        have HFO := Lib.hid (fun wx => follows_any (beS (m.take 8)) first K HF.out (by have := HLE.out; have := HE2.out; have := HZ.out; omega) wx)
        rw [hok] at HFO
        by_cases h0 : K = 0
        · subst h0
          have h0 : (0 : Nat) = 0 := rfl
          have jf : beS (m.take 8) ≤ 1099511627776 := by
            unfold okN at hok; rw [if_pos h0] at hok; simp at hok; exact hok.2
          have s8 : IntKind.i64.wrap (beS (m.take 8) : Int) = (beS (m.take 8) : Int) := IntWalk.i64_in _ (by omega)
          rw [if_pos h0] at HST
          have HNU := Lib.hid (fun wx (h : Rd0 wx (some ⟨bb, oo, none⟩) (m.take 8)) => num_any _ 8 c1 (m.take 8) HT8.out.symm wx h (by rw [HT8.out]; omega))
          have JF := Lib.hid jf
          clear hok jf h0
          generalize beS (m.take 8) = NB at *
          go_upto_region 9 with (first
            | (go_at_call 28; refine (HNU.out _ (HRM.out.take 8)).mono ?_; rintro r w2 ⟨rfl, rfl⟩)
            | (go_at_call 29; refine (HFO.out _).mono ?_; rintro r w2 ⟨rfl, rfl⟩))
          go_wp2_with (first
            | (go_at_call 30; refine (clone_any bb o2 (m.length - 8) _ mm HD8.out _ HR8.out (by rw [← HD8.out]; have := HML.out; omega)).mono ?_; rintro r w3 ⟨v3, rfl, hA3, hb3⟩; have HP3 := Lib.hid (HP1.out.on hb3); have HB3 := Lib.hid (HB1.out.trans (hb3.mono HB1.out.size)); obtain ⟨p3, d3, rfl, hd3, hr3⟩ := hA3.rd; have HR3 := Lib.hid hr3; have HD3 := Lib.hid hd3; have HFAR := Lib.hid (show ∀ g, (Value.slice p 0 d).ownBlock = some g → mm = [] ∨ ∀ b, p3 = some b → b.block ≠ g from fun g hg => hA3.far (HPF.out g hg)); have HNW := Lib.hid (show mm = [] ∨ ∀ a, p3 = some a → w.heap.size ≤ a.block from hA3.off HB1.out.size); clear hA3 hb3 hd3 hr3)
            | (refine wpList_pl rfl _ _ rfl w.heap.size _ l rfl (HP3.out.on (below1 _ _)) ⟨p3, d3, mm⟩ w3.heap.size 1 1 rfl rfl ((Bk.new w3 22 #[.slice p3 mm.length d3]).cell 0 _ rfl) (HR3.out.on (below1 _ _)) HD3.out HFAR.out (by rw [HK.out]; have := HLE.out; have := HE2.out; have := HZ.out; omega) (by have := HB3.out.size; simp; omega) ?_; intro v4 w4 hP4 hb4; have HP4 := Lib.hid hP4; have HB4 := Lib.hid (HB3.out.trans (((below1 w3 _).mono HB3.out.size).trans hb4)); clear hP4 hb4))
          go_step3
          refine jump_goto ⟨⟨NB, e + (m.length + 9), l ++ [⟨p3, d3, mm⟩], v4, ?_, by have := HML.out; omega, by rw [List.length_append, HK.out]; simp; have := HLE.out; omega, ⟨HP4.out, HLOW.out.snoc HNW.out⟩, JF.out, HB4.out, rfl⟩, ?_⟩
          · rw [List.map_append, ← HSG.out, HST.out]; rfl
          · simp [intOf]; have := HML.out; omega
        · have w9 : ¬ (K : Int) = 0 := by omega
          have w8 : ((K : Int) == 0) = false := by rw [beq_eq_false_iff_ne]; exact w9
          rw [if_neg h0] at HST
          have HNU := Lib.hid (fun wx (h : Rd0 wx (some ⟨bb, oo, none⟩) (m.take 8)) => num_any _ 8 c1 (m.take 8) HT8.out.symm wx h (by rw [HT8.out]; omega))
          clear hok
          generalize beS (m.take 8) = NB at *
          go_upto_region 9 with (first
            | (go_at_call 28; refine (HNU.out _ (HRM.out.take 8)).mono ?_; rintro r w2 ⟨rfl, rfl⟩)
            | (go_at_call 29; refine (HFO.out _).mono ?_; rintro r w2 ⟨rfl, rfl⟩))
          go_wp2_with (first
            | (go_at_call 30; refine (clone_any bb o2 (m.length - 8) _ mm HD8.out _ HR8.out (by rw [← HD8.out]; have := HML.out; omega)).mono ?_; rintro r w3 ⟨v3, rfl, hA3, hb3⟩; have HP3 := Lib.hid (HP1.out.on hb3); have HB3 := Lib.hid (HB1.out.trans (hb3.mono HB1.out.size)); obtain ⟨p3, d3, rfl, hd3, hr3⟩ := hA3.rd; have HR3 := Lib.hid hr3; have HD3 := Lib.hid hd3; have HFAR := Lib.hid (show ∀ g, (Value.slice p K d).ownBlock = some g → mm = [] ∨ ∀ b, p3 = some b → b.block ≠ g from fun g hg => hA3.far (HPF.out g hg)); have HNW := Lib.hid (show mm = [] ∨ ∀ a, p3 = some a → w.heap.size ≤ a.block from hA3.off HB1.out.size); clear hA3 hb3 hd3 hr3)
            | (refine wpList_pl rfl _ _ rfl w.heap.size _ l rfl (HP3.out.on (below1 _ _)) ⟨p3, d3, mm⟩ w3.heap.size 1 1 rfl rfl ((Bk.new w3 22 #[.slice p3 mm.length d3]).cell 0 _ rfl) (HR3.out.on (below1 _ _)) HD3.out HFAR.out (by rw [HK.out]; have := HLE.out; have := HE2.out; have := HZ.out; omega) (by have := HB3.out.size; simp; omega) ?_; intro v4 w4 hP4 hb4; have HP4 := Lib.hid hP4; have HB4 := Lib.hid (HB3.out.trans (((below1 w3 _).mono HB3.out.size).trans hb4)); clear hP4 hb4))
          go_step3
          refine jump_goto ⟨⟨first, e + (m.length + 9), l ++ [⟨p3, d3, mm⟩], v4, ?_, by have := HML.out; omega, by rw [List.length_append, HK.out]; simp; have := HLE.out; omega, ⟨HP4.out, HLOW.out.snoc HNW.out⟩, HF.out, HB4.out, rfl⟩, ?_⟩
          · rw [List.map_append, ← HSG.out, HST.out]; rfl
          · simp [intOf]; have := HML.out; omega
theorem scan_any (q : Option Addr) (n c : Nat) (b : List UInt8) (hn : n = b.length) (w : World) (hR : Rd0 w q b) (hc : b.length ≤ c) (hE : Env w) (hz : b.length ≤ 2000000) :
    Calls Tryd.prog 12 #[.slice q n c] w fun r w' => (∃ v l, r = .returned (.tuple #[.int .i64 ((scanG b 0 [] 0).1 : Int), v, .int .i64 ((scanG b 0 [] 0).2.2 : Int)]) ∧ Pl w' w.heap.size v l ∧ l.map (·.m) = (scanG b 0 [] 0).2.1) ∧ Below w.heap.size w w' :=
  (scan_low q n c b hn w hR hc hE hz).mono fun r w' ⟨⟨v, l, h1, h2, h3, _⟩, h4⟩ => ⟨⟨v, l, h1, h2, h3⟩, h4⟩
end Go.Proofs.YtooiaadnhglifaaDoor
