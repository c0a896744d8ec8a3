/-
  Joined of: Rqw.
-/
import Derived.Test.YtfmkfabbiifolaaGreatDoorJa32
import Derived.Test.YtfmkfabbiifolaaGreatDoorJb09
set_option linter.unusedVariables false
set_option linter.unusedSimpArgs false
/-
  The walk of mandatelaw22.RequestParses: it answers true.
-/
set_option linter.unusedVariables false
set_option linter.unusedSimpArgs false
namespace Go.Proofs.YtfmkfabbiifolaaGreatDoor
open Go.RowKit

set_option maxHeartbeats 16000000 in
set_option maxRecDepth 100000 in
theorem reqparses_walk (s : ByteArray) (w : World) (he : Env w) (hm : s.size ≤ 140737488351232) :
    Calls Tryz.prog 3 #[.string s] w fun e w' => e = .returned (.bool true) ∧ Below w.heap.size w w' := by
  have HE := Lib.hid he
  obtain ⟨hs1, hs2⟩ := reqQ_sm s
  have HP := Lib.hid (show ∀ wx, Env wx → _ from fun wx hx => (reqparse_any s wx hm hx).mono fun e w' h => rq_sum h)
  have HR := Lib.hid (show ∀ wx, _ from fun wx => (refreq_any s wx hm).mono fun e w' h => rq_sum h)
  have HF := Lib.hid (show ∀ wx, Env wx → _ from fun wx hx => rqfixed_any wx hx)
  generalize reqQ (reqR s) = V at *
  generalize plQ (reqR s) = pl at *
  generalize erQ (reqR s) = er at *
  have HS := Lib.hid (show ∀ wx a b x y, RqM wx a x → RqM wx b y → a.q = V.c → b.q = V.c → x.q = V.l → y.q = V.l → _ from fun wx a b x y h1 h2 h3 h4 h5 h6 => samereq_yes V hs1 hs2 a b x y wx h1 h2 h3 h4 h5 h6)
  obtain ⟨d, hu, hd⟩ := rowReq
  have hz := sizeReq
  have hst := fun (w : World) (kd : Int) (lb : ByteArray) (lf : Int) (cl : Kp) (no : Int) (lp : Lp) => run_storeReq w kd lb lf cl no lp
  clear he hm hs1 hs2
  go_enter Tryz.func3, Tryz.ntmps3
  go_wp2_with (first
    | (go_at_call 10; refine (HS.out _ cl1 cl2 lp1 lp2 HT5.out HU5.out HQ1.out.1 HQ2.out.1 HQ1.out.2 HQ2.out.2).mono ?_; rintro e w4 ⟨rfl, hb4⟩; have HB4 := Lib.hid (HB3.out.trans (hb4.mono HB3.out.size)); clear hb4)
    | (go_at_call 9; refine (HF.out _ (HE.out.on HB2'.out)).mono ?_; rintro e w3 ⟨rfl, hb3⟩; have HB3 := Lib.hid (HB2'.out.trans (hb3.mono HB2'.out.size)); have HX5 := Lib.hid ((HX2.out.on (below1 w2 _)).on hb3); have HY5 := Lib.hid ((Bk.new w2 _ _).on hb3); have HT5 := Lib.hid ((HT2.out.on (below1 w2 _)).on hb3); have HU5 := Lib.hid ((HU2.out.on (below1 w2 _)).on hb3); clear hb3)
    | (go_at_call 8; refine (HR.out _).mono ?_; rintro e w2 ⟨cl2, lp2, hq2, rfl, ht2, hb2⟩; have HQ2 := Lib.hid hq2; have HU2 := Lib.hid ht2; have HX2 := Lib.hid ((Bk.new w1 _ _).on hb2); have HT2 := Lib.hid ((HT1.out.on (below1 w1 _)).on hb2); have HB2 := Lib.hid ((HB1.out.trans ((below1 w1 _).mono HB1.out.size)).trans (hb2.mono (Nat.le_trans HB1.out.size (by simp)))); have HB2' := Lib.hid (HB2.out.trans ((below1 w2 (.cells (rqC V.kd V.lb V.lf cl2 V.no lp2) 33)).mono HB2.out.size)); clear ht2 hb2 hq2)
    | (go_at_call 7; refine (HP.out _ HE.out).mono ?_; rintro e w1 ⟨cl1, lp1, hq1, rfl, ht1, hb1⟩; have HQ1 := Lib.hid hq1; have HT1 := Lib.hid ht1; have HB1 := Lib.hid hb1; clear ht1 hb1 hq1)
    | (refine wpL_load (by rfl) 33 (.tmp 3) rfl _ 0 rfl (rqC V.kd V.lb V.lf cl1 V.no lp1).toList d HX5.out.range hu hd (by rw [hz]; rfl) ?_; simp only [Array.toArray_toList])
    | (refine wpL_load (by rfl) 33 (.tmp 6) rfl _ 0 rfl (rqC V.kd V.lb V.lf cl2 V.no lp2).toList d HY5.out.range hu hd (by rw [hz]; rfl) ?_; simp only [Array.toArray_toList]))
  go_ret
  exact ⟨rfl, HB4.out⟩
end Go.Proofs.YtfmkfabbiifolaaGreatDoor
