/-
  Joined of: Rpz.
-/
import Derived.Test.YtfmkfabbiifolaaGreatDoorJf04
import Derived.Test.YtfmkfabbiifolaaGreatDoorJf05
import Derived.Test.YtfmkfabbiifolaaGreatDoorJa32
set_option linter.unusedVariables false
set_option linter.unusedSimpArgs false
/-
  The walk of mandatelaw22.RequestPrints: it answers true.
-/
set_option linter.unusedVariables false
set_option linter.unusedSimpArgs false
namespace Go.Proofs.YtfmkfabbiifolaaGreatDoor
open Go.RowKit

theorem refprintreq_any (kd : Int) (lb : ByteArray) (lf : Int) (k : Kp) (no : Int) (l : Lp) (w : World) (ha : RqArg kd lb lf k no l w) :
    Calls Tryz.prog 13 #[.agg (rqC kd lb lf k no l)] w fun e w' => e = .returned (printV kd lb lf k no l) ∧ Below w.heap.size w w' := by
  by_cases h1 : kd = 1
  · subst h1
    by_cases h0 : 0 < lf
    · exact refprint1p lb lf k no l w ha h0
    · exact refprint1z lb lf k no l w ha h0
  by_cases h2 : kd = 2
  · subst h2; exact refprint2 lb lf k no l w ha
  by_cases h3 : kd = 3
  · subst h3; exact refprint3 lb lf k no l w ha
  by_cases h4 : kd = 4
  · subst h4; exact refprint4 lb lf k no l w ha
  by_cases h5 : kd = 5
  · subst h5; exact refprint5 lb lf k no l w ha
  exact refprinto kd lb lf k no l w ha h1 h2 h3 h4 h5

/-! What is asked of a request hangs on what it says. -/
theorem check_bare {kd : Int} {lb : ByteArray} {lf : Int} {k k' : Kp} {no : Int} {l l' : Lp} (hk : k'.q = k.q) (hl : l'.q = l.q) : checkB kd lb lf k' no l' = checkB kd lb lf k no l := by
  have e1 : isLitB l' = isLitB l := by rw [isLit_q l', isLit_q l, hl]
  have e2 : isClauseB k' = isClauseB k := by
    have h1 : isLitB k'.head = isLitB k.head := by rw [isLit_q k'.head, isLit_q k.head, kq_head hk]
    unfold isClauseB
    rw [h1, kq_len hk]
  have e3 : l'.ask = l.ask := by
    show (l'.q.at none 0).ask = (l.q.at none 0).ask
    rw [hl]
  unfold checkB
  rw [e1, e2, e3, check_eq hk]
theorem words_bare {kd : Int} {lb : ByteArray} {lf : Int} {k k' : Kp} {no : Int} {l l' : Lp} (hk : k'.q = k.q) (hl : l'.q = l.q) : wordsQ kd lb lf k' no l' = wordsQ kd lb lf k no l := by
  have e1 : claT k' = claT k := by rw [claT_q k', claT_q k, hk]
  have e2 : askT l' = askT l := by
    show askT (l'.q.at none 0) = askT (l.q.at none 0)
    rw [hl]
  unfold wordsQ
  rw [e1, e2]
theorem printV_bare {kd : Int} {lb : ByteArray} {lf : Int} {k k' : Kp} {no : Int} {l l' : Lp} (hk : k'.q = k.q) (hl : l'.q = l.q) : printV kd lb lf k' no l' = printV kd lb lf k no l := by
  unfold printV outQ
  rw [check_bare hk hl, words_bare hk hl]

set_option maxHeartbeats 16000000 in
set_option maxRecDepth 100000 in
theorem reqprints_walk (kd : Int) (lb : ByteArray) (lf : Int) (k : Kp) (no : Int) (l : Lp) (w : World) (he : Env w) (ha : RqArg kd lb lf k no l w) :
    Calls Tryz.prog 4 #[.agg (rqC kd lb lf k no l)] w fun e w' => e = .returned (.bool true) ∧ Below w.heap.size w w' := by
  have HB0 := Lib.hid (below1 w (.cells (rqC kd lb lf k no l) 33))
  have HX0 := Lib.hid (Bk.new w 33 (rqC kd lb lf k no l))
  have HA := Lib.hid ha
  have HE := Lib.hid he
  have HF := Lib.hid (show ∀ wx, Env wx → _ from fun wx hx => rqfixed_any wx hx)
  have HCP := Lib.hid (show ∀ wx, RqArg kd lb lf k no l wx → Calls Tryz.prog 12 #[.agg (rqC kd lb lf k no l)] wx fun e w' => ∃ d l', e = .returned (.agg (rqC kd lb lf d no l')) ∧ Hid ((d.q = k.q ∧ l'.q = l.q) ∧ RqArg kd lb lf d no l' w') ∧ Below wx.heap.size wx w' from fun wx hx => (copyreq_any kd lb lf k no l wx hx).mono fun e w' ⟨d, l', h1, h2, h3, h4⟩ => ⟨d, l', h1, Lib.hid ⟨h2, h3⟩, h4⟩)
  have HV := Lib.hid (show printV kd lb lf k no l = (if checkB kd lb lf k no l = true then (if 4096 < (outQ kd lb lf k no l).size then .tuple #[.string ⟨#[]⟩, .int .i64 2] else .tuple #[.string (outQ kd lb lf k no l), .int .i64 0]) else .tuple #[.string ⟨#[]⟩, .int .i64 1]) from rfl)
  have HPR := Lib.hid (show ∀ wx d l', (d.q = k.q ∧ l'.q = l.q) → RqArg kd lb lf d no l' wx → Env wx → Calls Tryz.prog 11 #[.agg (rqC kd lb lf d no l')] wx fun e w' => e = .returned (printV kd lb lf k no l) ∧ Below wx.heap.size wx w' from fun wx d l' h1 h2 h3 => (reqprint_arg h2 h3).mono fun e w' ⟨h4, h5⟩ => ⟨by rw [h4, printV_bare h1.1 h1.2], h5⟩)
  have HRP := Lib.hid (show ∀ wx, RqArg kd lb lf k no l wx → _ from fun wx hx => refprintreq_any kd lb lf k no l wx hx)
  have HCK := Lib.hid (show ∀ wx d l', (d.q = k.q ∧ l'.q = l.q) → RqArg kd lb lf d no l' wx → Env wx → Calls Tryz.prog 14 #[.agg (rqC kd lb lf d no l')] wx fun e w' => e = .returned (.bool (checkB kd lb lf k no l)) ∧ Below wx.heap.size wx w' from fun wx d l' h1 h2 h3 => (reqcheck_arg h2 h3).mono fun e w' ⟨h4, h5⟩ => ⟨by rw [h4, check_bare h1.1 h1.2], h5⟩)
  obtain ⟨dd, hu, hd⟩ := rowReq
  have hz := sizeReq
  have hv : ∃ O : ByteArray, ∃ n : Int, Hid (printV kd lb lf k no l = .tuple #[.string O, .int .i64 n]) ∧ Hid (checkB kd lb lf k no l = (n != 1)) := by
    rw [HV.out]
    cases checkB kd lb lf k no l with
    | false => exact ⟨_, _, Lib.hid rfl, Lib.hid rfl⟩
    | true =>
      rw [if_pos rfl]
      split
      · exact ⟨_, _, Lib.hid rfl, Lib.hid rfl⟩
      · exact ⟨_, _, Lib.hid rfl, Lib.hid rfl⟩
  obtain ⟨O, n, hv1, hv2⟩ := hv
  rw [hv1.out] at HPR HRP
  rw [hv2.out] at HCK
  clear HV hv1 hv2 he ha
  go_enter Tryz.func4, Tryz.ntmps4
  go_wp2_with (first
    | (go_at_call 14; refine (HCK.out _ d6 l6 HD6.out.1 HD6.out.2 (HE.out.on HB6.out)).mono ?_; rintro e w7 ⟨rfl, hb7⟩; have HB7 := Lib.hid (HB6.out.trans (hb7.mono HB6.out.size)); clear hb7)
    | (go_at_call 12; refine (HCP.out _ (HA.out.on HB5.out)).mono ?_; rintro e w6 ⟨d6, l6, rfl, HD6, hb6⟩; have HB6 := Lib.hid (HB5.out.trans (hb6.mono HB5.out.size)); clear hb6)
    | (go_at_call 9; refine (HF.out _ (HE.out.on HB4.out)).mono ?_; rintro e w5 ⟨rfl, hb5⟩; have HB5 := Lib.hid (HB4.out.trans (hb5.mono HB4.out.size)); have HX5 := Lib.hid (HX4.out.on hb5); clear hb5)
    | (go_at_call 13; refine (HRP.out _ (HA.out.on HB3.out)).mono ?_; rintro e w4 ⟨rfl, hb4⟩; have HB4 := Lib.hid (HB3.out.trans (hb4.mono HB3.out.size)); have HX4 := Lib.hid (HX3.out.on hb4); clear hb4)
    | (go_at_call 11; refine (HPR.out _ d2 l2 HD2.out.1 HD2.out.2 (HE.out.on HB2.out)).mono ?_; rintro e w3 ⟨rfl, hb3⟩; have HB3 := Lib.hid (HB2.out.trans (hb3.mono HB2.out.size)); have HX3 := Lib.hid (HX2.out.on hb3); clear hb3)
    | (go_at_call 12; refine (HCP.out _ (HA.out.on HB0.out)).mono ?_; rintro e w2 ⟨d2, l2, rfl, HD2, hb2⟩; have HB2 := Lib.hid (HB0.out.trans (hb2.mono HB0.out.size)); have HX2 := Lib.hid (HX0.out.on hb2); clear hb2)
    | (refine wpL_load (by rfl) 33 (.tmp 1) rfl _ 0 rfl (rqC kd lb lf k no l).toList dd HX5.out.range hu hd (by rw [hz]; rfl) ?_; simp only [Array.toArray_toList])
    | (refine wpL_load (by rfl) 33 (.tmp 1) rfl _ 0 rfl (rqC kd lb lf k no l).toList dd HX3.out.range hu hd (by rw [hz]; rfl) ?_; simp only [Array.toArray_toList])
    | (refine wpL_load (by rfl) 33 (.tmp 1) rfl _ 0 rfl (rqC kd lb lf k no l).toList dd HX0.out.range hu hd (by rw [hz]; rfl) ?_; simp only [Array.toArray_toList]))
  go_ret
  exact ⟨by simp, HB7.out⟩
end Go.Proofs.YtfmkfabbiifolaaGreatDoor
