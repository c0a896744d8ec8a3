/-
  The walk of DiskSure.
-/
import Derived.Test.YtfkmakkofeedpaaDst
set_option linter.unusedVariables false
set_option linter.unusedSimpArgs false
namespace Go.Proofs.Ytfkmakkofeedpaa
open Go.Maps Go.RowKit

theorem arr_app (a b : List UInt8) : (⟨a.toArray⟩ : ByteArray) ++ ⟨b.toArray⟩ = ⟨(a ++ b).toArray⟩ := by
  apply ByteArray.ext
  simp [ByteArray.data_append]

set_option maxRecDepth 100000 in
set_option maxHeartbeats 4000000 in
theorem sure_walk (p : Option Addr) (k : Nat) (a : List UInt8) (hk : k = a.length) (d : Nat) (hd : a.length ≤ d) (q : Option Addr) (j : Nat) (b : List UInt8) (hj : j = b.length) (c : Nat) (hc : b.length ≤ c) (keep : Int) (hn : keep ≤ 9223372036854775807) (w : World) (hm : Rd0 w p a) (hr : Rd0 w q b) :
    Calls Try.prog 4 #[.slice p k d, .slice q j c, .int .i64 keep] w fun r w' => r = .returned (.bool true) ∧ Below w.heap.size w w' := by
  have HK := Lib.hid hk
  have HD := Lib.hid hd
  have HJ := Lib.hid hj
  have HC := Lib.hid hc
  have HN := Lib.hid hn
  have HM := Lib.hid hm
  have HR := Lib.hid hr
  have HL1 := Lib.hid (low_of hm)
  have HL2 := Lib.hid (low_of hr)
  clear hk hd hj hc hn hm hr
  go_enter Try.func4, Try.ntmps4
  go_upto_region 4 with (first
    | (go_at_call 9; refine (sd_new _).mono ?_; rintro r w1 ⟨rfl, h1⟩; have H1 := Lib.hid h1; clear h1)
    | (go_at_call 10; refine (dfixed_any _).mono ?_; rintro r w2 ⟨rfl, hb⟩; have H2 := Lib.hid (H1.out.on hb); clear hb))
  by_cases hbig : 2000 < k
  · have h1 : (2000 : Int) < (k : Int) := by omega
    go_wp2_with fail
    go_ret
    exact ⟨by rfl, H2.out.bel⟩
  have h1 : (k : Int) ≤ 2000 := by omega
  have h1' : ¬ (2000 : Int) < (k : Int) := by omega
  by_cases hbig2 : 2000 < j
  · have h2 : (2000 : Int) < (j : Int) := by omega
    go_wp2_with fail
    go_ret
    exact ⟨by rfl, H2.out.bel⟩
  have h2 : (j : Int) ≤ 2000 := by omega
  have h2' : ¬ (2000 : Int) < (j : Int) := by omega
  have HKB := Lib.hid (show k ≤ 2000 ∧ j ≤ 2000 by omega)
  clear hbig hbig2
  have C1 := Lib.hid (fun X (hX : Sd X w newS) => sd_append hX ⟨#[102]⟩ (by unfold maxLen; decide) p a k d HK.out HD.out (by have := HKB.out; omega) (HM.out.on hX.bel) HL1.out)
  rw [show (⟨#[102]⟩ : ByteArray).data.toList = [102] from rfl, sure_1 a (by rw [← HK.out]; exact HKB.out.1)] at C1
  have C2 := Lib.hid (fun X (hX : Sd X w ⟨[mkF [102] a 0], true, -1⟩) => sd_sync hX ⟨#[102]⟩ (by unfold maxLen; decide))
  rw [show (⟨#[102]⟩ : ByteArray).data.toList = [102] from rfl, sure_2 a] at C2
  have C3 := Lib.hid (fun X (hX : Sd X w ⟨[mkF [102] a a.length], true, -1⟩) => sd_append hX ⟨#[102]⟩ (by unfold maxLen; decide) q b j c HJ.out HC.out (by have := HKB.out; omega) (HR.out.on hX.bel) HL2.out)
  rw [show (⟨#[102]⟩ : ByteArray).data.toList = [102] from rfl, sure_3 a b (by rw [← HK.out]; exact HKB.out.1) (by rw [← HJ.out]; exact HKB.out.2)] at C3
  have C4 := Lib.hid (fun X (hX : Sd X w ⟨[mkF [102] (a ++ b) a.length], true, -1⟩) => sd_crash hX keep HN.out)
  rw [sure_4] at C4
  obtain ⟨N, hN⟩ : ∃ N, N = min keep.toNat b.length := ⟨_, rfl⟩
  have HNE := Lib.hid hN
  rw [← hN] at C4
  obtain ⟨L8, hL8⟩ : ∃ L8, L8 = (a ++ b.take N).length := ⟨_, rfl⟩
  have HL8 := Lib.hid hL8
  have HAN := Lib.hid (show a.length + N = L8 by rw [hL8, List.length_append, List.length_take]; omega)
  rw [HAN.out] at C4
  have C5 := Lib.hid (fun X (hX : Sd X w ⟨[mkF [102] (a ++ b.take N) L8], true, -1⟩) => sf_read hX ⟨#[102]⟩ (by unfold maxLen; decide))
  rw [show (⟨#[102]⟩ : ByteArray).data.toList = [102] from rfl, read_one, ← hL8] at C5
  have C6 := Lib.hid (fun X q m (hX : Sf X w ⟨[mkF [102] (a ++ b.take N) L8], true, -1⟩ q m) => sf_crash hX 0 (by omega))
  rw [sure_5 [102] _ L8 hL8] at C6
  clear hN hL8
  generalize (⟨[mkF [102] (a ++ b.take N) L8], true, -1⟩ : DS) = S5 at *
  generalize (⟨[mkF [102] (a ++ b) a.length], true, -1⟩ : DS) = S4 at *
  generalize (⟨[mkF [102] a a.length], true, -1⟩ : DS) = S3 at *
  generalize (⟨[mkF [102] a 0], true, -1⟩ : DS) = S2 at *
  generalize newS = S1 at *
  go_upto_region 8 with (first
    | (go_at_call 12; refine (C3.out _ H4.out).mono ?_; rintro r w5 ⟨rfl, h5⟩; have H5 := Lib.hid h5; clear h5)
    | (go_at_call 14; refine (C2.out _ H3.out).mono ?_; rintro r w4 ⟨rfl, h4⟩; have H4 := Lib.hid h4; clear h4)
    | (go_at_call 12; refine (C1.out _ H2.out).mono ?_; rintro r w3 ⟨rfl, h3⟩; have H3 := Lib.hid h3; clear h3))
  go_upto_region 10 with (first
    | (go_at_call 22; refine (C5.out _ H6.out).mono ?_; rintro r w7 ⟨q7, c7, rfl, h7, _⟩; have H7 := Lib.hid h7; clear h7)
    | (go_at_call 26; refine (C4.out _ H5.out).mono ?_; rintro r w6 ⟨rfl, h6⟩; have H6 := Lib.hid h6; clear h6))
  go_upto_region 11 with (fail)
  have hv : (if (j : Int) < (if keep < 0 then 0 else keep) then (j : Int) else if keep < 0 then 0 else keep) = (N : Int) := by
    rw [HNE.out, ← HJ.out]
    by_cases h1 : keep < 0
    · simp only [if_pos h1]; split <;> omega
    · simp only [if_neg h1]; split <;> omega
  simp only [hv]
  clear hv
  have HNJ := Lib.hid (show N ≤ j by rw [HNE.out, HJ.out]; exact Nat.min_le_right _ _)
  have HTL := Lib.hid (show (b.take N).length = N by rw [List.length_take, ← HJ.out]; have := HNJ.out; omega)
  have hsl := fun wx => run_slice_txt wx q j c N (by have := HC.out; have := HJ.out; have := HNJ.out; omega)
  have HDB := Lib.hid (show Below w7.heap.size w7 w7.drew from Below.drew (Below.refl _ _))
  have v1 := run_back8 w7.drew q7 (a ++ b.take N) c7 (H7.out.rd.on HDB.out)
  have v2 := run_back8 w7.drew p a d ((HM.out.on H7.out.bel).on HDB.out)
  have v3 := run_back8 w7.drew q (b.take N) c (((HR.out.on H7.out.bel).take N).on HDB.out)
  rw [← HL8.out] at v1
  rw [← HK.out] at v2
  rw [HTL.out] at v3
  have hadd : ∀ wx, (Op.stringOp .add ⟨a.toArray⟩ ⟨(b.take N).toArray⟩).run Try.prog wx = .ok (.string ⟨(a ++ b.take N).toArray⟩) wx := fun wx => by
    have e1 : (⟨a.toArray⟩ : ByteArray).size = a.length := by simp [ByteArray.size]
    have e2 : (⟨(b.take N).toArray⟩ : ByteArray).size = (b.take N).length := by simp [ByteArray.size]
    rw [← arr_app]
    exact run_string_add (P := Try.prog) (w := wx) _ _ (by rw [e1, ← HK.out]; have := HKB.out; omega) (by rw [e2, HTL.out]; have := HKB.out; have := HNJ.out; omega)
  generalize a ++ b.take N = AB at *
  generalize b.take N = bN at *
  go_region_held3 (fun X => X = w7.drew) (first | rfl | go_keep) (fail)
  clear v1 v2 v3 hsl hadd
  have H8 := Lib.hid (H7.out.on HDB.out)
  generalize w7.drew = w8 at *
  go_upto_region 15 with (first
    | (go_at_call 22; refine (C5.out _ H9.out).mono ?_; rintro r w10 ⟨q10, c10, rfl, h10, hb10⟩; have H10 := Lib.hid h10; have HR10 := Lib.hid (HR9.out.on hb10); clear h10 hb10)
    | (go_at_call 26; refine (C6.out _ _ _ H8.out).mono ?_; rintro r w9 ⟨rfl, h9, hr9⟩; have H9 := Lib.hid h9; have HR9 := Lib.hid hr9; clear h9 hr9))
  have v1 := run_back8 w10 q10 AB c10 H10.out.rd
  have v2 := run_back8 w10 q7 AB c7 HR10.out
  rw [← HL8.out] at v1 v2
  go_wp2_with fail
  all_goals
    go_ret
    exact ⟨by rfl, H10.out.bel⟩
end Go.Proofs.Ytfkmakkofeedpaa
