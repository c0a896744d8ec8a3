/-
  Contract: wal.whole.
-/
import Derived.Test.YtooiaadnhglifaaDoorWsp
set_option linter.unusedVariables false
set_option linter.unusedSimpArgs false
namespace Go.Proofs.YtooiaadnhglifaaDoor
open Go.RowKit

theorem fromQ_some (b o c k : Nat) : ∃ o', fromQ (some ⟨b, o, none⟩) c k = some ⟨b, o', none⟩ := by
  unfold fromQ
  split
  · exact ⟨o, rfl⟩
  · exact ⟨o + k * 1, by simp [Addr.add_mid]⟩

set_option maxRecDepth 100000 in
set_option maxHeartbeats 2000000 in
theorem whole_any (q : Option Addr) (n c : Nat) (b : List UInt8) (hn : n = b.length) (w : World) (hR : Rd0 w q b) (hc : b.length ≤ c) (hE : Env w) (hz : b.length ≤ 2000000) :
    Calls Tryd.prog 27 #[.slice q n c] w fun e w' => (∃ q' k c' j, e = .returned (.tuple #[.slice q' k c', .int .i64 j, .bool (wholeS b).isSome]) ∧ ∀ m, wholeS b = some m → k = m.length ∧ j = ((m.length + 9 : Nat) : Int) ∧ Rd0 w' q' m ∧ m.length ≤ c') ∧ Below w.heap.size w w' := by
  by_cases h4 : n < 4
  · have w1 : (n : Int) < 4 := by omega
    have HW := Lib.hid (show wholeS b = none by unfold wholeS; rw [if_neg (by omega)])
    rw [HW.out]
    clear hn hR hc hE hz h4
    go_enter Tryd.func27, Tryd.ntmps27
    go_wp2_with fail
    exact bodyPost_ret (results_tmp3 rfl _ _ _) rfl ⟨⟨none, 0, 0, 0, rfl, fun m h => by cases h⟩, Below.refl _ _⟩
  have w1 : (4 : Int) ≤ (n : Int) := by omega
  have HN := Lib.hid hn
  have HL4 := Lib.hid (show 4 ≤ b.length by omega)
  have HC := Lib.hid hc
  have HZ := Lib.hid hz
  have HE := Lib.hid hE
  have HR := Lib.hid hR
  have HT4 := Lib.hid (show (b.take 4).length = 4 by rw [List.length_take]; omega)
  have hs1 := fun wx => run_slice_to (P := Tryd.prog) 22 5 Tryd.underlying22 (by kernel_rfl) q n c .i64 4 4 rfl (by omega) wx
  have hs2 := fun wx => run_slice_fromQ (P := Tryd.prog) 22 5 Tryd.underlying22 (by kernel_rfl) q n c .i64 4 4 rfl (by omega) wx
  obtain ⟨M, hM⟩ : ∃ M, M = n - 4 := ⟨_, rfl⟩
  rw [← hM] at hs2
  have HM := Lib.hid (show M + 4 = b.length by omega)
  have HRD := Lib.hid (show Rd0 w.drew q (b.take 4) from (hR.on (Below.refl _ _).drew).take 4)
  have C1 := Lib.hid (num_any q 4 c (b.take 4) HT4.out.symm w.drew HRD.out (by rw [HT4.out]; omega))
  have hN := beS_lt (b.take 4)
  rw [HT4.out] at hN
  have HS := Lib.hid (show wholeS b = wholeS b from rfl)
  have hW : wholeS b = if 4 ≤ b.length ∧ 8 ≤ beS (b.take 4) ∧ beS (b.take 4) ≤ 8200 ∧ 4 + beS (b.take 4) ≤ b.length then
    if 5 ≤ (b.drop (4 + beS (b.take 4))).length ∧ (b.drop (4 + beS (b.take 4))).take 5 = wendS ((b.drop 4).take (beS (b.take 4))) then some ((b.drop 4).take (beS (b.take 4))) else none
    else none := rfl
  have HW := Lib.hid hW
  clear hW HS
  generalize beS (b.take 4) = N at *
  have HR4 := Lib.hid (show Rd0 w.drew (fromQ q c 4) (b.drop 4) from (hR.on (Below.refl _ _).drew).drop 4 c hc)
  have HC4 := Lib.hid (show 4 ≤ c by omega)
  clear hR hc hE hz h4 hn hM
  have s1 : IntKind.u64.wrap (M : Int) = (M : Int) := IntWalk.u64_in _ (by have := HM.out; have := HZ.out; omega)
  go_enter Tryd.func27, Tryd.ntmps27
  go_upto_region 3 with fail
  go_region_held3 (fun _ => True) (exact True.intro) (first | (go_at_call 28; refine C1.out.mono ?_; rintro r w1 ⟨rfl, rfl⟩))
  have HD := Lib.hid (show Below w.heap.size w w.drew from (Below.refl _ _).drew)
  clear hs1 hs2 C1 HRD
  by_cases n1 : N < 8
  · have w2 : (N : Int) < 8 := by omega
    have HW2 := Lib.hid (show wholeS b = none by rw [HW.out, if_neg (by omega)])
    go_wp2_with fail
    exact bodyPost_ret (results_tmp3 rfl _ _ _) rfl ⟨⟨none, 0, 0, 0, by rw [HW2.out]; rfl, fun m h => by rw [HW2.out] at h; cases h⟩, HD.out⟩
  have w2 : (8 : Int) ≤ (N : Int) := by omega
  have w2' : ¬ (N : Int) < 8 := by omega
  by_cases n2 : 8200 < N
  · have w3 : (8200 : Int) < (N : Int) := by omega
    have HW2 := Lib.hid (show wholeS b = none by rw [HW.out, if_neg (by omega)])
    go_wp2_with fail
    exact bodyPost_ret (results_tmp3 rfl _ _ _) rfl ⟨⟨none, 0, 0, 0, by rw [HW2.out]; rfl, fun m h => by rw [HW2.out] at h; cases h⟩, HD.out⟩
  have w3 : (N : Int) ≤ 8200 := by omega
  have w3' : ¬ (8200 : Int) < (N : Int) := by omega
  by_cases n3 : M < N
  · have w4 : (M : Int) < (N : Int) := by omega
    have HW2 := Lib.hid (show wholeS b = none by rw [HW.out, if_neg (by have := HM.out; omega)])
    go_wp2_with fail
    exact bodyPost_ret (results_tmp3 rfl _ _ _) rfl ⟨⟨none, 0, 0, 0, by rw [HW2.out]; rfl, fun m h => by rw [HW2.out] at h; cases h⟩, HD.out⟩
  have w4 : (N : Int) ≤ (M : Int) := by omega
  have w4' : ¬ (M : Int) < (N : Int) := by omega
  have HW2 := Lib.hid (show wholeS b = if 5 ≤ ((b.drop 4).drop N).length ∧ ((b.drop 4).drop N).take 5 = wendS ((b.drop 4).take N) then some ((b.drop 4).take N) else none by
    rw [HW.out, if_pos (by have := HM.out; omega), List.drop_drop])
  clear HW
  have HBL := Lib.hid (show ((b.drop 4).take N).length = N by rw [List.length_take, List.length_drop]; have := HM.out; omega)
  have HRB := Lib.hid (HR4.out.take N)
  have HRE := Lib.hid (HR4.out.drop N (c - 4) (by rw [List.length_drop]; have := HC.out; omega))
  have HDL := Lib.hid (show M - N = ((b.drop 4).drop N).length by rw [List.length_drop, List.length_drop]; have := HM.out; omega)
  have hs3 := fun wx => run_slice_to (P := Tryd.prog) 22 5 Tryd.underlying22 (by kernel_rfl) (fromQ q c 4) M (c - 4) .u64 (N : Int) N rfl (by have := HM.out; have := HC.out; omega) wx
  have hs4 := fun wx => run_slice_fromQ (P := Tryd.prog) 22 5 Tryd.underlying22 (by kernel_rfl) (fromQ q c 4) M (c - 4) .u64 (N : Int) N rfl (by omega) wx
  have HEN := Lib.hid (wending_any (fromQ q c 4) N (c - 4) ((b.drop 4).take N) HBL.out.symm w.drew HRB.out (by rw [HBL.out]; have := HM.out; have := HC.out; omega) (HE.out.on (Below.refl _ _).drew HE.out.size) (by rw [HBL.out]; omega))
  have HDC := Lib.hid (show ((b.drop 4).drop N).length ≤ c - 4 - N by rw [List.length_drop, List.length_drop]; have := HC.out; omega)
  have HNC := Lib.hid (show N ≤ c - 4 by have := HM.out; have := HC.out; omega)
  have HN8 := Lib.hid (show N ≤ 8200 by omega)
  generalize (b.drop 4).take N = body at *
  generalize (b.drop 4).drop N = rest at *
  generalize fromQ q c 4 = q4 at *
  have s2 : IntKind.i64.wrap (4 + (N : Int)) = 4 + (N : Int) := IntWalk.i64_in _ (by omega)
  have s3 : IntKind.i64.wrap (4 + (N : Int) + 5) = 4 + (N : Int) + 5 := IntWalk.i64_in _ (by omega)
  obtain ⟨W, hW⟩ : ∃ W, W = w.drew := ⟨_, rfl⟩
  simp only [← hW] at *
  clear hW n1 n2 n3 HR4 HR HE
  go_wp2_with (first
    | (go_at_call 48; refine HEN.out.mono ?_; rintro r w4 ⟨p4, d4, rfl, hd4, hr4, hb4⟩; have HR4 := Lib.hid hr4; have HB4 := Lib.hid (HD.out.trans (hb4.mono HD.out.size)); have HRE4 := Lib.hid (HRE.out.on hb4); have HRB4 := Lib.hid (HRB.out.on hb4); clear hr4 hb4)
    | (go_at_call 50; refine (prefix_any _ p4 rest (wendS body) (M - N) 5 _ d4 HDL.out (wendS_len _).symm _ HRE4.out HDC.out HR4.out).mono ?_; rw [wendS_len]; rintro r w5 ⟨rfl, rfl⟩))
  have HB := Lib.hid (show (decide (5 ≤ rest.length) && (rest.take 5 == wendS body)) = (wholeS b).isSome by
    rw [HW2.out]
    by_cases h : 5 ≤ rest.length ∧ rest.take 5 = wendS body
    · rw [if_pos h, decide_eq_true h.1, h.2]; simp
    · rw [if_neg h]
      by_cases h1 : 5 ≤ rest.length
      · rw [decide_eq_true h1]; simp only [Bool.true_and, Option.isSome_none, beq_eq_false_iff_ne]; exact fun h2 => h ⟨h1, h2⟩
      · rw [decide_eq_false h1]; rfl)
  refine bodyPost_ret (results_tmp3 rfl _ _ _) rfl ⟨⟨_, _, _, _, by rw [← HB.out]; rfl, fun m hm => ?_⟩, HB4.out⟩
  rw [HW2.out] at hm
  split at hm
  · cases hm
    exact ⟨HBL.out.symm, by rw [HBL.out]; omega, HRB4.out, by rw [HBL.out]; exact HNC.out⟩
  · cases hm
end Go.Proofs.YtooiaadnhglifaaDoor
