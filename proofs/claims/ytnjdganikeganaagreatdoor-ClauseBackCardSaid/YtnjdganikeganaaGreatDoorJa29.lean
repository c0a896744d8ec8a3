/-
  Joined of: RdrF, LitW.
-/
import Derived.Test.YtnjdganikeganaaGreatDoorJa25
import Derived.Test.YtnjdganikeganaaGreatDoorJa28
import Derived.Test.YtnjdganikeganaaGreatDoorJa23
set_option linter.unusedVariables false
set_option linter.unusedSimpArgs false
/-
  Contracts: the reference's open and ParseLit.
-/
namespace Go.Proofs.YtnjdganikeganaaGreatDoor
open Go.RowKit

set_option maxHeartbeats 4000000 in
theorem ropen_any (s : ByteArray) (w : World) (hm : s.size ≤ 140737488351232) :
    Calls Tryz.prog 32 #[.string s] w fun e w' => ∃ rb q c, e = .returned (.tuple #[.pointer (some ⟨rb, 0, none⟩), .int .i64 (allL s.data.toList).pl, .int .i64 (allL s.data.toList).err]) ∧ w.heap.size ≤ rb ∧ rb < w'.heap.size ∧ ((allL s.data.toList).err = 0 → Rr w' rb s q c (allL s.data.toList).toks 0 0 0) ∧ Below w.heap.size w w' := by
  have HA := Lib.hid (show Calls Tryz.prog 65 #[.string s] w fun e w' => ∃ q c, e = .returned (.tuple #[.slice q (allL s.data.toList).toks.length c, .int .i64 (allL s.data.toList).pl, .int .i64 (allL s.data.toList).err]) ∧ Rd encT 3 w' w'.heap.size q (allL s.data.toList).toks ∧ Below w.heap.size w w' from (refall_any s w hm).mono fun e w' ⟨v, h1, h2, h3⟩ => by
    obtain ⟨q, c, rfl, hr⟩ := tokrow_rd h2
    exact ⟨q, c, h1, hr, h3⟩)
  have HS := Lib.hid (src_of s)
  generalize (allL s.data.toList).err = er at *
  generalize (allL s.data.toList).pl = pl at *
  generalize (allL s.data.toList).toks = ts at *
  go_enter Tryz.func32, Tryz.ntmps32
  go_wp2_with (go_at_call 65; refine (HA.out).mono ?_; rintro e w1 ⟨q, c, rfl, hr1, hb1⟩; have HR1 := Lib.hid hr1; have HB1 := Lib.hid hb1; clear hr1 hb1)
  go_ret3
  exact ⟨w1.heap.size, q, c, rfl, HB1.out.size, by simp, fun h0 => ⟨Bk.new w1 _ _, HR1.out.below (below1 w1 _) (Nat.le_refl _), Nat.zero_le _, HS.out h0⟩, HB1.out.trans ((below1 w1 _).mono HB1.out.size)⟩

theorem rd_only {α : Type} {enc : α → List Value} {m : Nat} {w w' : World} {pb : Nat} {p : Option Addr} {l : List α} (h : Rd enc m w w.heap.size p l) (ho : Only pb w w') (hp : ∀ b, p = some b → b.block ≠ pb) : Rd enc m w' w'.heap.size p l := by
  rcases h with h | ⟨b, off, rfl, hl, hc⟩
  · exact .inl h
  · exact .inr ⟨b, off, rfl, Nat.lt_of_lt_of_le hl ho.size, fun i hi r u hu => (ho.cell hl (hp _ rfl)).trans (hc i hi r u hu)⟩
theorem ended_sum {α : Type} {s : ByteArray} {ts : List Tok} {SR : Except (Int × Int) (α × Nat)} {R : Except (Int × Int) α} (hp : R = wholeR s ts SR) {x : α} {k : Nat} {er fr : Int} (hd : (er = 0 ∧ SR = .ok (x, k)) ∨ (er ≠ 0 ∧ SR = .error (er, fr))) (P : Nat → Int → Int → Prop)
    (h : if er = 0 then (if ts.length ≤ k then P k 0 fr else P k 6 (placeAt s ts k)) else P k er fr) : ∃ k3 e3 f3, P k3 e3 f3 ∧ ((e3 = 0 ∧ R = .ok x) ∨ (e3 ≠ 0 ∧ R = .error (e3, f3))) := by
  rcases hd with ⟨rfl, rfl⟩ | ⟨he, rfl⟩
  · rw [if_pos rfl] at h
    by_cases hk : ts.length ≤ k
    · rw [if_pos hk] at h; exact ⟨_, _, _, h, .inl ⟨rfl, by rw [hp]; simp [wholeR, hk]⟩⟩
    · rw [if_neg hk] at h; exact ⟨_, _, _, h, .inr ⟨by decide, by rw [hp]; simp [wholeR, hk]⟩⟩
  · rw [if_neg he] at h
    exact ⟨_, _, _, h, .inr ⟨he, by rw [hp]; rfl⟩⟩
theorem read_state {w : World} {rb : Nat} {s : ByteArray} {q : Option Addr} {c : Nat} {ts : List Tok} {α : Type} {fr : Int} {SR : Except (Int × Int) (α × Nat)} {x : α} (h : (∃ k', SR = .ok (x, k') ∧ Rr w rb s q c ts k' 0 fr) ∨ (∃ k' n p, n ≠ 0 ∧ SR = .error (n, p) ∧ Rr w rb s q c ts k' n p)) :
    ∃ k er f2, Rr w rb s q c ts k er f2 ∧ ((er = 0 ∧ SR = .ok (x, k)) ∨ (er ≠ 0 ∧ SR = .error (er, f2))) := by
  rcases h with ⟨k', h1, h2⟩ | ⟨k', n, p, h0, h1, h2⟩
  · exact ⟨_, _, _, h2, .inl ⟨rfl, h1⟩⟩
  · exact ⟨_, _, _, h2, .inr ⟨h0, h1⟩⟩

set_option maxHeartbeats 8000000 in
set_option maxRecDepth 100000 in
theorem refParseLit_any (s : ByteArray) (w : World) (hm : s.size ≤ 140737488351232) :
    Calls Tryz.prog 16 #[.string s] w (ParseLitPost w (parseLitR s)) := by
  have HB := Lib.hid (below1 w)
  have HO := Lib.hid (show ∀ o, _ from fun o => ropen_any s (w.alloc o) hm)
  by_cases hx : (allL s.data.toList).err = 0
  · have HP := Lib.hid (show parseLitR s = wholeR s (allL s.data.toList).toks (saidR s (allL s.data.toList).toks 1 0) by unfold parseLitR; rw [if_pos hx])
    generalize parseLitR s = R at *
    rw [hx] at HO
    generalize (allL s.data.toList).toks = ts at *
    generalize (allL s.data.toList).pl = pl at *
    have HSD := Lib.hid (show ∀ wx rb q c, Rr wx rb s q c ts 0 0 0 → _ from fun wx rb q c hx' => rsaid_any wx rb s q c ts 0 1 0 hx')
    have HEN := Lib.hid (show ∀ wx rb q c k er fr, Rr wx rb s q c ts k er fr → _ from fun wx rb q c k er fr hx' => rended_any wx rb s q c ts k er fr hx')
    generalize saidR s ts 1 0 = SR at *
    clear hx
    go_enter Tryz.func16, Tryz.ntmps16
    go_wp2_with (first
      | (go_at_call 38; refine (HEN.out _ _ _ _ _ _ _ (HR2.out.on (below1 w2 _))).mono ?_; rintro e w3 ⟨rfl, ho3, hs3⟩; obtain ⟨k3, er3, fr3, hr3, hd3⟩ := ended_sum HP.out HD2.out (fun k e f => Rr w3 rb s q c ts k e f) hs3; have HR3 := Lib.hid hr3; have HD3 := Lib.hid hd3; have hrl := HR2.out.lt; have HL3 := Lib.hid ((Bk.new w2 _ _).only ho3 (by omega)); have HZ3 := Lib.hid ((HZ2.out.on (below1 w2 _)).only ho3 (by omega)); have HT3 := Lib.hid ho3; obtain ⟨c0, c1, c2', c3, c4⟩ := hr3.five; obtain ⟨z0, z1, z2, z3, z4, z5⟩ := HZ3.out.six; obtain ⟨t0, t1, t2, t3, t4, t5, t6⟩ := HZ3.out.softs; obtain ⟨y0, y1, y2, y3, y4, y5⟩ := HL3.out.six; clear ho3 hs3 hr3 hd3)
      | (go_at_call 42; refine (HSD.out _ _ _ _ HR1.out).mono ?_; rintro e w2 ⟨L, q2, c2, rfl, ht2, hf2, ho2, hs2⟩; have HT2 := Lib.hid ht2; have HF2 := Lib.hid hf2; have HO2 := Lib.hid ho2; obtain ⟨k2, er2, fr2, hr2, hd2⟩ := read_state hs2; have HR2 := Lib.hid hr2; have HD2 := Lib.hid hd2; have HZ2 := Lib.hid (HZ1.out.only ho2 (by omega)); unfold Lp.agg; clear ht2 hf2 ho2 hs2 hr2 hd2)
      | (go_at_call 32; refine (HO.out _).mono ?_; rintro e w1 ⟨rb, q, c, rfl, hge, hlt, hr1, hb1⟩; have HR1 := Lib.hid (hr1 trivial); have HZ1 := Lib.hid ((Bk.new w _ _).on hb1); have HB1 := Lib.hid ((HB.out _).trans (hb1.mono (HB.out _).size)); have hgw : w.heap.size < rb := Nat.lt_of_succ_le (by simpa using hge); clear hb1 hr1 hge))
    · have he3 : er3 ≠ 0 := by simpa using (by assumption : (er3 != 0) = true)
      have HRE := Lib.hid ((HD3.out.resolve_left (fun h => he3 h.1)).2)
      have hwl : w.heap.size < w3.heap.size := HZ3.out.lt
      have HW := Lib.hid (((HB1.out.trans ((HO2.out.below (Nat.le_of_lt hlt)).mono (Nat.le_of_lt hgw))).trans ((below1 w2 _).mono (Nat.le_trans (Nat.le_of_lt (Nat.lt_trans hgw hlt)) HO2.out.size))).trans ((HT3.out.below (by simp; omega)).mono (Nat.le_of_lt hgw)))
      clear HD3 HD2 HT3 HO2 HR2 HZ2 HL3 y0 y1 y2 y3 y4 y5 HT2 HF2 HR1 HZ1 HEN HSD HO HP hlt hrl c0 c1 c2' HB1
      have hne : w.heap.size ≠ rb := Nat.ne_of_lt hgw
      go_region_held3 (fun X => X.cell? ⟨rb, 3, none⟩ = some (.int .i64 er3) ∧ X.cell? ⟨rb, 4, none⟩ = some (.int .i64 fr3)) (go_keep) (fail)
      go_wp2_with fail
      have HQ := load6 HZ3.out (.int .u8 0) (.string ⟨#[]⟩) (.string ⟨#[]⟩) (.int .i64 0) (.string ⟨#[]⟩) (.slice none 0 0)
      have HC := set6 (w := w3) (Nat.le_refl w.heap.size) (.int .u8 0) (.string ⟨#[]⟩) (.string ⟨#[]⟩) (.int .i64 0) (.string ⟨#[]⟩) (.slice none 0 0)
      generalize (((((w3.setCell ⟨w.heap.size, 0, none⟩ (.int .u8 0)).setCell ⟨w.heap.size, 1, none⟩ (.string ⟨#[]⟩)).setCell ⟨w.heap.size, 2, none⟩ (.string ⟨#[]⟩)).setCell ⟨w.heap.size, 3, none⟩ (.int .i64 0)).setCell ⟨w.heap.size, 4, none⟩ (.string ⟨#[]⟩)).setCell ⟨w.heap.size, 5, none⟩ (.slice none 0 0) = W6 at *
      obtain ⟨q0, q1, q2', q3, q4, q5⟩ := (show Bk W6.drew w.heap.size _ _ from HQ).six
      refine bodyPost_ret (v := .tuple #[lpZ.agg, .int .i64 fr3, .int .i64 er3]) ?_ rfl ?_
      · simp [results, Tryz.results16, go_sem, q0, q1, q2', q3, q4, q5, lpZ, Lp.agg, tmZ]
      · rw [HRE.out]
        exact ⟨rfl, (HW.out.trans HC).trans (below_drewN' (Below.refl w.heap.size W6) 1)⟩
    · have he3 : er3 = 0 := by simpa using (by assumption : (er3 != 0) = false)
      have HRE := Lib.hid ((HD3.out.resolve_right (fun h => h.1 he3)).2)
      have HW := Lib.hid (((HB1.out.trans ((HO2.out.below (Nat.le_of_lt hlt)).mono (Nat.le_of_lt hgw))).trans ((below1 w2 _).mono (Nat.le_trans (Nat.le_of_lt (Nat.lt_trans hgw hlt)) HO2.out.size))).trans ((HT3.out.below (by simp; omega)).mono (Nat.le_of_lt hgw)))
      have HTT := Lib.hid (rd_only (rd_only HT2.out (Only.of (pb := rb) (below1 w2 _)) (fun b hb => Nat.ne_of_gt (Nat.lt_of_lt_of_le hlt (HF2.out b hb)))) HT3.out (fun b hb => Nat.ne_of_gt (Nat.lt_of_lt_of_le hlt (HF2.out b hb))))
      obtain ⟨q0, q1, q2', q3, q4, q5⟩ := (load6 HZ3.out (.int .u8 L.kind) (.string L.who.v) (.string L.who.s) (.int .i64 L.who.n) (.string L.pred) (.slice q2 L.args.length c2)).six
      refine bodyPost_ret (v := .tuple #[(L.at q2 c2).agg, .int .i64 0, .int .i64 0]) ?_ rfl ?_
      · simp [results, Tryz.results16, go_sem, q0, q1, q2', q3, q4, q5, Lp.agg, Lq.at]
      · rw [HRE.out]
        exact ⟨q2, c2, rfl, ((Above.refl (w.heap.size + 1) _).set6 (by omega) _ _ _ _ _ _).rd HTT.out (fun b hb => Nat.le_trans (by omega) (HF2.out b hb)) ((set6 (Nat.le_refl w.heap.size) _ _ _ _ _ _).size), fun b hb => Nat.le_trans (by omega) (HF2.out b hb), HW.out.trans (set6 (Nat.le_refl _) _ _ _ _ _ _)⟩
  · have HR := Lib.hid (show parseLitR s = .error ((allL s.data.toList).err, (allL s.data.toList).pl) by unfold parseLitR; rw [if_neg hx])
    generalize parseLitR s = R at *
    generalize (allL s.data.toList).err = er at *
    generalize (allL s.data.toList).toks = ts at *
    generalize (allL s.data.toList).pl = pl at *
    have hx' : (er != 0) = true := by simpa using hx
    go_enter Tryz.func16, Tryz.ntmps16
    go_wp2_with (go_at_call 32; refine (HO.out _).mono ?_; rintro e w1 ⟨rb, q, c, rfl, hge, hlt, hr1, hb1⟩; have HZ1 := Lib.hid ((Bk.new w _ _).on hb1); have HB1 := Lib.hid ((HB.out _).trans (hb1.mono (HB.out _).size)); obtain ⟨z0, z1, z2, z3, z4, z5⟩ := HZ1.out.six; obtain ⟨t0, t1, t2, t3, t4, t5, t6⟩ := HZ1.out.softs; clear hb1 hr1 hge)
    obtain ⟨q0, q1, q2', q3, q4, q5⟩ := (load6 HZ1.out (.int .u8 0) (.string ⟨#[]⟩) (.string ⟨#[]⟩) (.int .i64 0) (.string ⟨#[]⟩) (.slice none 0 0)).six
    refine bodyPost_ret (v := .tuple #[lpZ.agg, .int .i64 pl, .int .i64 er]) ?_ rfl ?_
    · simp [results, Tryz.results16, go_sem, q0, q1, q2', q3, q4, q5, lpZ, Lp.agg, tmZ]
    · rw [HR.out]
      exact ⟨rfl, HB1.out.trans (set6 (Nat.le_refl w.heap.size) _ _ _ _ _ _)⟩
end Go.Proofs.YtnjdganikeganaaGreatDoor

/-
  The walk of mandatelaw06.ClauseLits: it answers true.
-/
namespace Go.Proofs.YtnjdganikeganaaGreatDoor
open Go.RowKit

def litOf (R : Except (Int × Int) Lq) : Lq := match R with | .ok x => x | .error _ => lpZ.q
def errOf {α : Type} (R : Except (Int × Int) α) : Int := match R with | .ok _ => 0 | .error e => e.1
def plOf {α : Type} (R : Except (Int × Int) α) : Int := match R with | .ok _ => 0 | .error e => e.2
theorem lit_sum {w : World} {R : Except (Int × Int) Lq} {e : Ending} {w' : World} (h : ParseLitPost w R e w') :
    ∃ q c, e = .returned (.tuple #[((litOf R).at q c).agg, .int .i64 (plOf R), .int .i64 (errOf R)]) ∧ Tms w' w'.heap.size q (litOf R).args ∧ Below w.heap.size w w' := by
  cases R with
  | ok x => obtain ⟨q, c, h1, h2, _, h3⟩ := h; exact ⟨q, c, h1, h2, h3⟩
  | error x => obtain ⟨n, p⟩ := x; obtain ⟨h1, h2⟩ := h; exact ⟨none, 0, h1, .inl rfl, h2⟩
theorem litOf_len (s : ByteArray) : (litOf (parseLitR s)).args.length ≤ 1000 := by
  cases h : parseLitR s with
  | ok x => exact (parseLitR_sm h).len
  | error x => simp [litOf, lpZ, Lp.q]

set_option maxHeartbeats 16000000 in
set_option maxRecDepth 100000 in
theorem lits_walk (s : ByteArray) (w : World) (he : Env w) (hm : s.size ≤ 140737488351232) :
    Calls Tryz.prog 4 #[.string s] w fun e w' => e = .returned (.bool true) ∧ Below w.heap.size w w' := by
  have HE := Lib.hid he
  have hlen := litOf_len s
  have HP := Lib.hid (show ∀ wx, Env wx → _ from fun wx hx => (parseLit_any s wx hm hx).mono fun e w' h => lit_sum h)
  have HR := Lib.hid (show ∀ wx, _ from fun wx => (refParseLit_any s wx hm).mono fun e w' h => lit_sum h)
  have HF := Lib.hid (show ∀ wx, Env wx → _ from fun wx hx => fixed_any wx hx)
  generalize litOf (parseLitR s) = L at *
  generalize plOf (parseLitR s) = pl at *
  generalize errOf (parseLitR s) = er at *
  have HS := Lib.hid (show ∀ wx q c q2 c2, Tms wx wx.heap.size q L.args → Tms wx wx.heap.size q2 L.args → Calls Tryz.prog 17 #[.agg #[.int .u8 L.kind, .string L.who.v, .string L.who.s, .int .i64 L.who.n, .string L.pred, .slice q L.args.length c], .agg #[.int .u8 L.kind, .string L.who.v, .string L.who.s, .int .i64 L.who.n, .string L.pred, .slice q2 L.args.length c2]] wx fun e w' => e = .returned (.bool true) ∧ Below wx.heap.size wx w' from fun wx q c q2 c2 h1 h2 => (sameLit_any (L.at q c) (L.at q2 c2) wx h1 h2 (by show L.args.length ≤ _; omega)).mono fun e w' ⟨h3, h4⟩ => ⟨by rw [h3, (sameL_iff (a := L.at q c) (b := L.at q2 c2)).2 rfl], h4⟩)
  unfold Lp.agg Lq.at at HP HR
  simp only at HP HR
  clear he hlen hm
  go_enter Tryz.func4, Tryz.ntmps4
  go_wp2_with (first
    | (go_at_call 17; refine (HS.out _ q1 c1 q2 c2 HT5.out HU5.out).mono ?_; rintro e w4 ⟨rfl, hb4⟩; have HB4 := Lib.hid (HB3.out.trans (hb4.mono HB3.out.size)); clear hb4)
    | (go_at_call 13; refine (HF.out _ (HE.out.on HB2'.out)).mono ?_; rintro e w3 ⟨rfl, hb3⟩; have HB3 := Lib.hid (HB2'.out.trans (hb3.mono HB2'.out.size)); have HX5 := Lib.hid ((HX2.out.on (below1 w2 _)).on hb3); have HY5 := Lib.hid ((Bk.new w2 _ _).on hb3); have HT5 := Lib.hid ((HT2.out.grow (below1 w2 _)).grow hb3); have HU5 := Lib.hid ((HU2.out.grow (below1 w2 _)).grow hb3); obtain ⟨x0, x1, x2, x3, x4, x5⟩ := HX5.out.six; obtain ⟨y0, y1, y2, y3, y4, y5⟩ := HY5.out.six; clear hb3)
    | (go_at_call 16; refine (HR.out _).mono ?_; rintro e w2 ⟨q2, c2, rfl, ht2, hb2⟩; have HU2 := Lib.hid ht2; have HX2 := Lib.hid ((Bk.new w1 _ _).on hb2); have HT2 := Lib.hid ((HT1.out.grow (below1 w1 _)).grow hb2); have HB2 := Lib.hid ((HB1.out.trans ((below1 w1 _).mono HB1.out.size)).trans (hb2.mono (Nat.le_trans HB1.out.size (by simp)))); have HB2' := Lib.hid (HB2.out.trans ((below1 w2 (.cells #[.int .u8 L.kind, .string L.who.v, .string L.who.s, .int .i64 L.who.n, .string L.pred, .slice q2 L.args.length c2] 28)).mono HB2.out.size)); clear ht2 hb2)
    | (go_at_call 15; refine (HP.out _ HE.out).mono ?_; rintro e w1 ⟨q1, c1, rfl, ht1, hb1⟩; have HT1 := Lib.hid ht1; have HB1 := Lib.hid hb1; clear ht1 hb1))
  go_ret
  exact ⟨rfl, HB4.out⟩
end Go.Proofs.YtnjdganikeganaaGreatDoor
