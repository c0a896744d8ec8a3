/-
  Contracts: chain.Head, chain.Verify, of any entries.
-/
import Derived.Test.YtammglimobninaaDoorHhd
import Derived.Test.YtammglimobninaaDoorHeq
set_option linter.unusedVariables false
set_option linter.unusedSimpArgs false
namespace Go.Proofs.YtammglimobninaaDoor
open Go.RowKit Nm

def okS (cut : Int) (l : List En) : Bool := (decide (1 ≤ cut) && decide (cut ≤ 32)) && l.all goodB
/-- the head of entries, an error's number -/
def headS (cut : Int) (l : List En) : List UInt8 := if okS cut l = true then (linkS cut.toNat l l.length).take cut.toNat else []
def headE (cut : Int) (l : List En) : Int := if okS cut l = true then 0 else 1
def verS (cut : Int) (l : List En) (m : List UInt8) : Int := if okS cut l = true then (if (headS cut l == m) = true then 0 else 23) else 1

set_option maxRecDepth 100000 in
theorem chead_bad (cut : Int) (q : Option Addr) (l : List En) (c : Nat) (w : World) (hL : Ens w q l) (hn : l.length ≤ 9223372036854775807) (h : okS cut l = false) :
    Calls Tryd.prog 16 #[.int .i64 cut, .slice q l.length c] w fun r w' => r = .returned (.tuple #[.slice none 0 0, .int .i64 1]) ∧ Below w.heap.size w w' := by
  have HL := Lib.hid hL
  clear hL
  unfold okS at h
  rcases Bool.eq_false_or_eq_true (decide (1 ≤ cut) && decide (cut ≤ 32)) with hc | hc
  · have hg : l.all goodB = false := by rw [hc] at h; simpa using h
    have HC := Lib.hid hc
    have HG := Lib.hid hg
    clear h hc hg
    go_enter Tryd.func16, Tryd.ntmps16
    go_wp2_with (first
      | (go_at_call 36; refine (iscut_any cut _).mono ?_; rw [HC.out]; rintro r w1 ⟨rfl, rfl⟩)
      | (go_at_call 37; refine (allgood_any q l c _ HL.out hn).mono ?_; rw [HG.out]; rintro r w2 ⟨rfl, hb⟩; have HB := Lib.hid hb; clear hb))
    exact bodyPost_ret (results_tmp2 rfl _ _ _) rfl ⟨rfl, HB.out⟩
  · have HC := Lib.hid hc
    clear h hc
    go_enter Tryd.func16, Tryd.ntmps16
    go_wp2_with (go_at_call 36; refine (iscut_any cut _).mono ?_; rw [HC.out]; rintro r w1 ⟨rfl, rfl⟩)
    exact bodyPost_ret (results_tmp2 rfl _ _ _) rfl ⟨rfl, Below.refl _ _⟩
theorem chead_both (cut : Int) (q : Option Addr) (l : List En) (c : Nat) (w : World) (hE : Env w) (hL : Ens w q l) (hn : l.length < 1000000000000) :
    Calls Tryd.prog 16 #[.int .i64 cut, .slice q l.length c] w fun r w' => ∃ q' c', r = .returned (.tuple #[.slice q' (headS cut l).length c', .int .i64 (headE cut l)]) ∧ Rd0 w' q' (headS cut l) ∧ Below w.heap.size w w' := by
  unfold headS headE
  cases h : okS cut l with
  | true =>
    have h2 := h
    simp only [okS, Bool.and_eq_true, decide_eq_true_eq] at h2
    obtain ⟨n, rfl⟩ : ∃ n : Nat, cut = (n : Int) := ⟨cut.toNat, by omega⟩
    refine (chead_good n q l c w hE hL hn (by omega) (by omega) h2.2).mono ?_
    rintro r w' ⟨v', base, rfl, _, hA, hb⟩
    obtain ⟨q', c', rfl, _, hR⟩ := hA.rd
    exact ⟨q', c', rfl, hR, hb⟩
  | false =>
    refine (chead_bad cut q l c w hL (by omega) h).mono ?_
    rintro r w' ⟨rfl, hb⟩
    exact ⟨none, 0, rfl, .inl rfl, hb⟩

set_option maxRecDepth 100000 in
theorem cverify_any (cut : Int) (q : Option Addr) (l : List En) (c : Nat) (p : Option Addr) (m : List UInt8) (d : Nat) (w : World) (hE : Env w) (hL : Ens w q l) (hn : l.length < 1000000000000) (hm : Rd0 w p m) :
    Calls Tryd.prog 18 #[.int .i64 cut, .slice q l.length c, .slice p m.length d] w fun r w' => r = .returned (.int .i64 (verS cut l m)) ∧ Below w.heap.size w w' := by
  have HE := Lib.hid hE
  have HL := Lib.hid hL
  have HM := Lib.hid hm
  have HN := Lib.hid hn
  have B1 := chead_both cut q l c
  unfold headE at B1
  unfold verS
  cases h : okS cut l with
  | false =>
    simp only [h, Bool.false_eq_true, if_false] at B1
    have HB1 := Lib.hid B1
    clear hE hL hm hn B1 h
    generalize headS cut l = L at *
    go_enter Tryd.func18, Tryd.ntmps18
    go_wp2_with (go_at_call 16; refine (HB1.out _ HE.out HL.out HN.out).mono ?_; rintro r w1 ⟨q1, c1, rfl, hR, hb⟩; have HB := Lib.hid hb; clear hb hR)
    go_ret
    exact ⟨by rfl, HB.out⟩
  | true =>
    simp only [h, if_true] at B1
    have HB1 := Lib.hid B1
    clear hE hL hm hn B1 h
    generalize headS cut l = L at *
    cases hq : L == m with
    | true =>
      have HQ := Lib.hid hq
      clear hq
      go_enter Tryd.func18, Tryd.ntmps18
      go_wp2_with (first
        | (go_at_call 16; refine (HB1.out _ HE.out HL.out HN.out).mono ?_; rintro r w1 ⟨q1, c1, rfl, hR, hb⟩; have HB := Lib.hid hb; have HR := Lib.hid hR; clear hb hR)
        | (go_at_call 42; refine (equal_any q1 p L m c1 d _ HR.out (HM.out.on HB.out)).mono ?_; rw [HQ.out]; rintro r w2 ⟨rfl, rfl⟩))
      go_ret
      exact ⟨by rfl, HB.out⟩
    | false =>
      have HQ := Lib.hid hq
      clear hq
      go_enter Tryd.func18, Tryd.ntmps18
      go_wp2_with (first
        | (go_at_call 16; refine (HB1.out _ HE.out HL.out HN.out).mono ?_; rintro r w1 ⟨q1, c1, rfl, hR, hb⟩; have HB := Lib.hid hb; have HR := Lib.hid hR; clear hb hR)
        | (go_at_call 42; refine (equal_any q1 p L m c1 d _ HR.out (HM.out.on HB.out)).mono ?_; rw [HQ.out]; rintro r w2 ⟨rfl, rfl⟩))
      go_ret
      exact ⟨by rfl, HB.out⟩
end Go.Proofs.YtammglimobninaaDoor
