/-
  The walk of DiskSwaps.
-/
import Derived.Test.YtfkmakkofeedpaaDst
set_option linter.unusedVariables false
set_option linter.unusedSimpArgs false
namespace Go.Proofs.Ytfkmakkofeedpaa
open Go.Maps Go.RowKit

theorem swap_3 (a b : List UInt8) (hb : b.length ≤ 2000) : appS ⟨[mkF [102] a a.length], true, -1⟩ [103] b = (⟨[mkF [102] a a.length, mkF [103] b 0], true, -1⟩, 0) := app_absent okG rfl (by simp) (by omega)
theorem swap_4 (a b : List UInt8) : syncS ⟨[mkF [102] a a.length, mkF [103] b 0], true, -1⟩ [103] = (⟨[mkF [102] a a.length, mkF [103] b b.length], true, -1⟩, 0) := sync_there (f := mkF [103] b 0) rfl
theorem swap_5 (fs : List Fil) (n : Nat) : fuseS ⟨fs, true, -1⟩ (n : Int) = ⟨fs, true, (n : Int)⟩ := by
  show (⟨fs, true, max (n : Int) (-1)⟩ : DS) = _
  rw [show max (n : Int) (-1) = (n : Int) by omega]
theorem swap_6 (a b : List UInt8) : renS ⟨[mkF [102] a a.length, mkF [103] b b.length], true, 1⟩ [103] [102] = (⟨[mkF [102] b b.length], true, 0⟩, 0) := by
  unfold renS
  rw [if_neg (by simp)]
  have hg : getF [103] [mkF [102] a a.length, mkF [103] b b.length] = some (mkF [103] b b.length) := rfl
  simp only [hg]
  rw [if_neg (by rw [okF]; simp)]
  rfl
theorem swap_7 (a b : List UInt8) : renS ⟨[mkF [102] a a.length, mkF [103] b b.length], true, 0⟩ [103] [102] = (⟨[mkF [102] a a.length, mkF [103] b b.length], false, 0⟩, 20) := by
  unfold renS
  rw [if_neg (by simp)]
  have hg : getF [103] [mkF [102] a a.length, mkF [103] b b.length] = some (mkF [103] b b.length) := rfl
  simp only [hg]
  rw [if_neg (by rw [okF]; simp)]
  rfl
theorem cr_same (nm xs : List UInt8) : crF 0 (mkF nm xs xs.length) = mkF nm xs xs.length := by
  have h := sure_5 nm xs xs.length rfl 0 true
  unfold crashS at h
  rw [List.map_cons, List.map_nil] at h
  injection h with h1 _ _
  exact (List.cons.inj h1).1
theorem swap_8 (a b : List UInt8) : crashS ⟨[mkF [102] a a.length, mkF [103] b b.length], false, 0⟩ 0 = ⟨[mkF [102] a a.length, mkF [103] b b.length], true, -1⟩ := by
  unfold crashS
  rw [List.map_cons, List.map_cons, List.map_nil, cr_same, cr_same]

set_option maxRecDepth 100000 in
set_option maxHeartbeats 4000000 in
theorem swaps_walk (p : Option Addr) (k : Nat) (a : List UInt8) (hk : k = a.length) (d : Nat) (hd : a.length ≤ d) (q : Option Addr) (j : Nat) (b : List UInt8) (hj : j = b.length) (c : Nat) (hc : b.length ≤ c) (u : UInt8) (w : World) (hm : Rd0 w p a) (hr : Rd0 w q b) :
    Calls Try.prog 6 #[.slice p k d, .slice q j c, .int .u8 (u.toNat : Int)] w fun r w' => r = .returned (.bool true) ∧ Below w.heap.size w w' := by
  have HK := Lib.hid hk
  have HD := Lib.hid hd
  have HJ := Lib.hid hj
  have HC := Lib.hid hc
  have HM := Lib.hid hm
  have HR := Lib.hid hr
  have HL1 := Lib.hid (low_of hm)
  have HL2 := Lib.hid (low_of hr)
  have hul : u.toNat < 256 := u.toNat_lt
  obtain ⟨U, hU⟩ : ∃ U, u.toNat = U := ⟨_, rfl⟩
  rw [hU] at hul ⊢
  clear hU
  clear hk hd hj hc hm hr
  go_enter Try.func6, Try.ntmps6
  go_upto_region 4 with (first
    | (go_at_call 9; refine (sd_new _).mono ?_; rintro r w1 ⟨rfl, h1⟩; have H1 := Lib.hid h1; clear h1)
    | (go_at_call 10; refine (dfixed_any _).mono ?_; rintro r w2 ⟨rfl, hb⟩; have H2 := Lib.hid (H1.out.on hb); clear hb))
  by_cases hbig : 2000 < k
  · have h1 : (2000 : Int) < (k : Int) := by omega
    go_wp2_with fail
    go_ret
    exact ⟨by rfl, H2.out.bel⟩
  have h1 : (k : Int) ≤ 2000 := by omega
  have h1' : ¬ (2000 : Int) < (k : Int) := by omega
  by_cases hbig2 : 2000 < j
  · have h2 : (2000 : Int) < (j : Int) := by omega
    go_wp2_with fail
    go_ret
    exact ⟨by rfl, H2.out.bel⟩
  have h2 : (j : Int) ≤ 2000 := by omega
  have h2' : ¬ (2000 : Int) < (j : Int) := by omega
  have HKB := Lib.hid (show k ≤ 2000 ∧ j ≤ 2000 by omega)
  clear hbig hbig2
  have C1 := Lib.hid (fun X (hX : Sd X w newS) => sd_append hX ⟨#[102]⟩ (by unfold maxLen; decide) p a k d HK.out HD.out (by have := HKB.out; omega) (HM.out.on hX.bel) HL1.out)
  rw [show (⟨#[102]⟩ : ByteArray).data.toList = [102] from rfl, sure_1 a (by rw [← HK.out]; exact HKB.out.1)] at C1
  have C2 := Lib.hid (fun X (hX : Sd X w ⟨[mkF [102] a 0], true, -1⟩) => sd_sync hX ⟨#[102]⟩ (by unfold maxLen; decide))
  rw [show (⟨#[102]⟩ : ByteArray).data.toList = [102] from rfl, sure_2 a] at C2
  have C3 := Lib.hid (fun X (hX : Sd X w ⟨[mkF [102] a a.length], true, -1⟩) => sd_append hX ⟨#[103]⟩ (by unfold maxLen; decide) q b j c HJ.out HC.out (by have := HKB.out; omega) (HR.out.on hX.bel) HL2.out)
  rw [show (⟨#[103]⟩ : ByteArray).data.toList = [103] from rfl, swap_3 a b (by rw [← HJ.out]; exact HKB.out.2)] at C3
  have C4 := Lib.hid (fun X (hX : Sd X w ⟨[mkF [102] a a.length, mkF [103] b 0], true, -1⟩) => sd_sync hX ⟨#[103]⟩ (by unfold maxLen; decide))
  rw [show (⟨#[103]⟩ : ByteArray).data.toList = [103] from rfl, swap_4 a b] at C4
  obtain ⟨r0, hr0⟩ : ∃ r0, r0 = U % 2 := ⟨_, rfl⟩
  have HR0 := Lib.hid hr0
  have e1 : IntKind.i64.wrap (U : Int) = (U : Int) := IntWalk.i64_in _ (by omega)
  have e2 : (U : Int).tmod 2 = (r0 : Int) := by rw [Int.tmod_eq_emod_of_nonneg (by omega)]; omega
  have e3 : IntKind.i64.wrap ((U : Int).tmod 2) = (r0 : Int) := by rw [e2]; exact IntWalk.i64_in _ (by omega)
  have e4 : IntKind.u8.wrap ((U : Int).tmod 2) = (r0 : Int) := by rw [e2]; exact IntWalk.u8_in _ (by omega)
  have e5 : wrap64 ((U : Int).tmod 2) = (r0 : Int) := by rw [e2]; exact IntWalk.wrap64_in _ (by omega)
  have C5 := Lib.hid (fun (X : World) (hX : Sd X w ⟨[mkF [102] a a.length, mkF [103] b b.length], true, -1⟩) => sd_fuse hX (r0 : Int) (by omega))
  rw [swap_5] at C5
  have hr2 : r0 = 1 ∨ r0 = 0 := by omega
  clear hr0
  rcases hr2 with hr1 | hr1
  · have C6 := Lib.hid (fun (X : World) (hX : Sd X w ⟨[mkF [102] a a.length, mkF [103] b b.length], true, (r0 : Int)⟩) => sd_rename hX ⟨#[103]⟩ ⟨#[102]⟩ (by unfold maxLen; decide) (by unfold maxLen; decide))
    rw [show (⟨#[103]⟩ : ByteArray).data.toList = [103] from rfl, show (⟨#[102]⟩ : ByteArray).data.toList = [102] from rfl, show ((r0 : Nat) : Int) = 1 by omega, swap_6] at C6
    have C7 := Lib.hid (fun X (hX : Sd X w ⟨[mkF [102] b b.length], true, 0⟩) => sd_crash hX 0 (by omega))
    rw [sure_5 _ _ _ rfl] at C7
    have C8 := Lib.hid (fun X (hX : Sd X w ⟨[mkF [102] b b.length], true, -1⟩) => sf_read hX ⟨#[102]⟩ (by unfold maxLen; decide))
    rw [show (⟨#[102]⟩ : ByteArray).data.toList = [102] from rfl, read_one] at C8
    have C9 := Lib.hid (fun X (hX : Sd X w ⟨[mkF [102] b b.length], true, -1⟩) => sf_read hX ⟨#[103]⟩ (by unfold maxLen; decide))
    rw [show (⟨#[103]⟩ : ByteArray).data.toList = [103] from rfl, show readS ⟨[mkF [102] b b.length], true, -1⟩ [103] = ([], 4) from rfl] at C9
    rw [show ((r0 : Nat) : Int) = 1 by omega] at C5 e2 e3 e4 e5
    clear hr1
    generalize (⟨[mkF [102] b b.length], true, -1⟩ : DS) = S7 at *
    generalize (⟨[mkF [102] b b.length], true, 0⟩ : DS) = S6 at *
    generalize (⟨[mkF [102] a a.length, mkF [103] b b.length], true, 1⟩ : DS) = S5 at *
    generalize (⟨[mkF [102] a a.length, mkF [103] b b.length], true, -1⟩ : DS) = S4 at *
    generalize (⟨[mkF [102] a a.length, mkF [103] b 0], true, -1⟩ : DS) = S3 at *
    generalize (⟨[mkF [102] a a.length], true, -1⟩ : DS) = S2 at *
    generalize (⟨[mkF [102] a 0], true, -1⟩ : DS) = S1 at *
    generalize newS = S0 at *
    simp only [← HJ.out] at C8
    go_upto_region 8 with (first
      | (go_at_call 14; refine (C4.out _ H5.out).mono ?_; rintro r w6 ⟨rfl, h6⟩; have H6 := Lib.hid h6; clear h6)
      | (go_at_call 12; refine (C3.out _ H4.out).mono ?_; rintro r w5 ⟨rfl, h5⟩; have H5 := Lib.hid h5; clear h5)
      | (go_at_call 14; refine (C2.out _ H3.out).mono ?_; rintro r w4 ⟨rfl, h4⟩; have H4 := Lib.hid h4; clear h4)
      | (go_at_call 12; refine (C1.out _ H2.out).mono ?_; rintro r w3 ⟨rfl, h3⟩; have H3 := Lib.hid h3; clear h3))
    go_upto_region 9 with (go_at_call 24; refine (C5.out _ H6.out).mono ?_; rintro r w7 ⟨rfl, h7⟩; have H7 := Lib.hid h7; clear h7)
    go_upto_region 10 with (go_at_call 16; refine (C6.out _ H7.out).mono ?_; rintro r w8 ⟨rfl, h8⟩; have H8 := Lib.hid h8; clear h8)
    go_upto_region 11 with (go_at_call 26; refine (C7.out _ H8.out).mono ?_; rintro r w9 ⟨rfl, h9⟩; have H9 := Lib.hid h9; clear h9)
    go_upto_region 12 with (go_at_call 22; refine (C8.out _ H9.out).mono ?_; rintro r w10 ⟨q10, c10, rfl, h10, _⟩; have H10 := Lib.hid h10; clear h10)
    go_upto_region 13 with (go_at_call 22; refine (C9.out _ H10.out.sd).mono ?_; rintro r w11 ⟨q11, c11, rfl, h11, hb11⟩; have H11 := Lib.hid h11; have H10' := Lib.hid (H10.out.on hb11); clear h11 hb11)
    have v1 := run_back8 w11 q10 b c10 H10'.out.rd
    have v2 := run_back8 w11 q b c (HR.out.on H11.out.bel)
    rw [← HJ.out] at v1 v2
    go_wp2_with fail
    go_ret
    exact ⟨by rfl, H11.out.bel⟩
  · have C6 := Lib.hid (fun (X : World) (hX : Sd X w ⟨[mkF [102] a a.length, mkF [103] b b.length], true, (r0 : Int)⟩) => sd_rename hX ⟨#[103]⟩ ⟨#[102]⟩ (by unfold maxLen; decide) (by unfold maxLen; decide))
    rw [show (⟨#[103]⟩ : ByteArray).data.toList = [103] from rfl, show (⟨#[102]⟩ : ByteArray).data.toList = [102] from rfl, show ((r0 : Nat) : Int) = 0 by omega, swap_7] at C6
    have C7 := Lib.hid (fun X (hX : Sd X w ⟨[mkF [102] a a.length, mkF [103] b b.length], false, 0⟩) => sd_crash hX 0 (by omega))
    rw [swap_8] at C7
    have C8 := Lib.hid (fun X (hX : Sd X w ⟨[mkF [102] a a.length, mkF [103] b b.length], true, -1⟩) => sf_read hX ⟨#[102]⟩ (by unfold maxLen; decide))
    rw [show (⟨#[102]⟩ : ByteArray).data.toList = [102] from rfl, show readS ⟨[mkF [102] a a.length, mkF [103] b b.length], true, -1⟩ [102] = (a, 0) from rfl] at C8
    have C9 := Lib.hid (fun X (hX : Sd X w ⟨[mkF [102] a a.length, mkF [103] b b.length], true, -1⟩) => sf_read hX ⟨#[103]⟩ (by unfold maxLen; decide))
    rw [show (⟨#[103]⟩ : ByteArray).data.toList = [103] from rfl, show readS ⟨[mkF [102] a a.length, mkF [103] b b.length], true, -1⟩ [103] = (b, 0) from rfl] at C9
    rw [show ((r0 : Nat) : Int) = 0 by omega] at C5 e2 e3 e4 e5
    clear hr1
    generalize (⟨[mkF [102] a a.length, mkF [103] b b.length], false, 0⟩ : DS) = S6 at *
    generalize (⟨[mkF [102] a a.length, mkF [103] b b.length], true, 0⟩ : DS) = S5 at *
    generalize (⟨[mkF [102] a a.length, mkF [103] b b.length], true, -1⟩ : DS) = S4 at *
    generalize (⟨[mkF [102] a a.length, mkF [103] b 0], true, -1⟩ : DS) = S3 at *
    generalize (⟨[mkF [102] a a.length], true, -1⟩ : DS) = S2 at *
    generalize (⟨[mkF [102] a 0], true, -1⟩ : DS) = S1 at *
    generalize newS = S0 at *
    simp only [← HK.out] at C8
    simp only [← HJ.out] at C9
    go_upto_region 8 with (first
      | (go_at_call 14; refine (C4.out _ H5.out).mono ?_; rintro r w6 ⟨rfl, h6⟩; have H6 := Lib.hid h6; clear h6)
      | (go_at_call 12; refine (C3.out _ H4.out).mono ?_; rintro r w5 ⟨rfl, h5⟩; have H5 := Lib.hid h5; clear h5)
      | (go_at_call 14; refine (C2.out _ H3.out).mono ?_; rintro r w4 ⟨rfl, h4⟩; have H4 := Lib.hid h4; clear h4)
      | (go_at_call 12; refine (C1.out _ H2.out).mono ?_; rintro r w3 ⟨rfl, h3⟩; have H3 := Lib.hid h3; clear h3))
    go_upto_region 9 with (go_at_call 24; refine (C5.out _ H6.out).mono ?_; rintro r w7 ⟨rfl, h7⟩; have H7 := Lib.hid h7; clear h7)
    go_upto_region 10 with (go_at_call 16; refine (C6.out _ H7.out).mono ?_; rintro r w8 ⟨rfl, h8⟩; have H8 := Lib.hid h8; clear h8)
    go_upto_region 11 with (go_at_call 26; refine (C7.out _ H8.out).mono ?_; rintro r w9 ⟨rfl, h9⟩; have H9 := Lib.hid h9; clear h9)
    go_upto_region 12 with (go_at_call 22; refine (C8.out _ H9.out).mono ?_; rintro r w10 ⟨q10, c10, rfl, h10, _⟩; have H10 := Lib.hid h10; clear h10)
    go_upto_region 13 with (go_at_call 22; refine (C9.out _ H10.out.sd).mono ?_; rintro r w11 ⟨q11, c11, rfl, h11, hb11⟩; have H11 := Lib.hid h11; have H10' := Lib.hid (H10.out.on hb11); clear h11 hb11)
    have v1 := run_back8 w11 q10 a c10 H10'.out.rd
    have v2 := run_back8 w11 p a d (HM.out.on H11.out.bel)
    rw [← HK.out] at v1 v2
    go_wp2_with fail
    go_ret
    exact ⟨by rfl, H11.out.bel⟩
end Go.Proofs.Ytfkmakkofeedpaa
