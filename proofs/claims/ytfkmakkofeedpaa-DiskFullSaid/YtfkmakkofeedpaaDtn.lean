/-
  The walk of DiskTorn.
-/
import Derived.Test.YtfkmakkofeedpaaDfx
set_option linter.unusedVariables false
set_option linter.unusedSimpArgs false
namespace Go.Proofs.Ytfkmakkofeedpaa
open Go.Maps Go.RowKit

theorem low_of {w : World} {q : Option Addr} {m : List UInt8} (h : Rd0 w q m) : m = [] ∨ ∀ b, q = some b → b.block < w.heap.size := h.low
theorem okF : okName [102] = true := by decide +kernel
theorem okG : okName [103] = true := by decide +kernel
theorem app_first (left : Int) (nm m : List UInt8) (hn : okName nm = true) (hm : m.length ≤ 1048576) :
    appS ⟨[], true, left⟩ nm m = (⟨[mkF nm (m.take (useS left m.length).1) 0], (useS left m.length).2.2, (useS left m.length).2.1⟩, okE (useS left m.length).2.2) := by
  unfold appS
  rw [if_neg (by simp), if_neg (by rw [hn]; simp)]
  show (if 8 ≤ ([] : List Fil).length then _ else _) = _
  rw [if_neg (by simp), if_neg (by omega)]
  rfl
/-- the state behind the write -/
theorem torn_all (n : Nat) (m : List UInt8) (hm : m.length ≤ 2000) (h : m.length ≤ n) : appS (fuseS newS (n : Int)) [102] m = (⟨[mkF [102] m 0], true, (n : Int) - (m.length : Int)⟩, 0) := by
  have e : fuseS newS (n : Int) = ⟨[], true, (n : Int)⟩ := by
    show (⟨[], true, max (n : Int) (-1)⟩ : DS) = _
    rw [show max (n : Int) (-1) = (n : Int) by omega]
  rw [e, app_first _ _ _ okF (by omega)]
  have hu : useS (n : Int) m.length = (m.length, (n : Int) - (m.length : Int), true) := by unfold useS; rw [if_neg (by omega), if_pos (by omega)]
  rw [hu, List.take_of_length_le (Nat.le_refl _)]
  rfl
theorem torn_part (n : Nat) (m : List UInt8) (hm : m.length ≤ 2000) (h : n < m.length) : appS (fuseS newS (n : Int)) [102] m = (⟨[mkF [102] (m.take n) 0], false, 0⟩, 20) := by
  have e : fuseS newS (n : Int) = ⟨[], true, (n : Int)⟩ := by
    show (⟨[], true, max (n : Int) (-1)⟩ : DS) = _
    rw [show max (n : Int) (-1) = (n : Int) by omega]
  rw [e, app_first _ _ _ okF (by omega)]
  have hu : useS (n : Int) m.length = (n, 0, false) := by unfold useS; rw [if_neg (by omega), if_neg (by omega)]; rfl
  rw [hu]
  rfl
theorem torn_crash (n : Nat) (m : List UInt8) (h : n < m.length) : readS (crashS ⟨[mkF [102] (m.take n) 0], false, 0⟩ (m.length : Int)) [102] = (m.take n, 0) := by
  have e : crF (m.length : Int) (mkF [102] (m.take n) 0) = mkF [102] (m.take n) (0 + min m.length ((m.take n).length - 0)) := by
    unfold crF
    show mkF [102] ((m.take n).take (0 + min (m.length : Int).toNat ((m.take n).length - 0))) _ = _
    rw [Int.toNat_natCast, List.take_of_length_le (l := m.take n) (by rw [List.length_take]; omega)]
    rfl
  unfold crashS
  rw [List.map_cons, List.map_nil, e]
  rfl

theorem app_off {s : DS} (h : s.on = false) (nm m : List UInt8) : appS s nm m = (s, 20) := by unfold appS; rw [if_pos h]
theorem sync_off {s : DS} (h : s.on = false) (nm : List UInt8) : syncS s nm = (s, 20) := by unfold syncS; rw [if_pos h]

set_option maxRecDepth 100000 in
set_option maxHeartbeats 1000000 in
theorem torn_walk (q : Option Addr) (k : Nat) (m : List UInt8) (hk : k = m.length) (c : Nat) (hc : m.length ≤ c) (n : Int) (hn : n ≤ 9223372036854775807) (w : World) (hm : Rd0 w q m) :
    Calls Try.prog 5 #[.slice q k c, .int .i64 n] w fun r w' => r = .returned (.bool true) ∧ Below w.heap.size w w' := by
  have HK := Lib.hid hk
  have HC := Lib.hid hc
  have HN := Lib.hid hn
  have HM := Lib.hid hm
  have HL := Lib.hid (low_of hm)
  clear hk hc hn hm
  go_enter Try.func5, Try.ntmps5
  go_upto_region 4 with (first
    | (go_at_call 9; refine (sd_new _).mono ?_; rintro r w1 ⟨rfl, h1⟩; have H1 := Lib.hid h1; clear h1)
    | (go_at_call 10; refine (dfixed_any _).mono ?_; rintro r w2 ⟨rfl, hb⟩; have H2 := Lib.hid (H1.out.on hb); clear hb))
  by_cases hbig : 2000 < k
  · have h1 : (2000 : Int) < (k : Int) := by omega
    go_wp2_with fail
    go_ret
    exact ⟨by rfl, H2.out.bel⟩
  have h1 : (k : Int) ≤ 2000 := by omega
  have h1' : ¬ (2000 : Int) < (k : Int) := by omega
  by_cases hneg : n < 0
  · go_wp2_with fail
    go_ret
    exact ⟨by rfl, H2.out.bel⟩
  obtain ⟨n, rfl⟩ : ∃ j : Nat, n = (j : Int) := ⟨n.toNat, by omega⟩
  have h2 : (0 : Int) ≤ (n : Int) := by omega
  have h2' : ¬ (n : Int) < 0 := by omega
  have HKB := Lib.hid (show k ≤ 2000 by omega)
  clear hbig hneg
  go_upto_region 7 with (go_at_call 24; refine (sd_fuse H2.out _ HN.out).mono ?_; rintro r w3 ⟨rfl, h3⟩; have H3 := Lib.hid h3; clear h3)
  have CA := Lib.hid (fun X (hX : Sd X w (fuseS newS (n : Int))) => sd_append hX ⟨#[102]⟩ (by unfold maxLen; decide) q m k c HK.out HC.out (by have := HKB.out; omega) (HM.out.on hX.bel) HL.out)
  rw [show (⟨#[102]⟩ : ByteArray).data.toList = [102] from rfl] at CA
  by_cases hle : k ≤ n
  · have h3 : (k : Int) ≤ (n : Int) := by omega
    have h3' : ¬ (n : Int) < (k : Int) := by omega
    have e1 : IntKind.i64.wrap ((n : Int) - (k : Int)) = (n : Int) - (k : Int) := IntWalk.i64_in _ (by have := HN.out; omega)
    rw [torn_all n m (by rw [← HK.out]; exact HKB.out) (by rw [← HK.out]; exact hle), ← HK.out] at CA
    clear hle
    go_wp2_with (first
      | (go_at_call 12; refine (CA.out _ H3.out).mono ?_; rintro r w4 ⟨rfl, h4⟩; have H4 := Lib.hid h4; clear h4)
      | (go_at_call 29; refine (sd_on H4.out).mono ?_; rintro r w5 ⟨rfl, rfl⟩)
      | (go_at_call 30; refine (sd_left H4.out).mono ?_; rintro r w5 ⟨rfl, rfl⟩; rw [if_pos rfl]))
    go_ret
    exact ⟨by rfl, H4.out.bel⟩
  · have h3 : (n : Int) < (k : Int) := by omega
    have h3' : ¬ (k : Int) ≤ (n : Int) := by omega
    have HLT := Lib.hid (show n < k by omega)
    rw [torn_part n m (by rw [← HK.out]; exact HKB.out) (by rw [← HK.out]; omega)] at CA
    have CR := Lib.hid (torn_crash n m (by rw [← HK.out]; exact HLT.out))
    rw [← HK.out] at CR
    clear hle
    obtain ⟨s4, hs4⟩ : ∃ s4 : DS, s4 = ⟨[mkF [102] (m.take n) 0], false, 0⟩ := ⟨_, rfl⟩
    have hoff : s4.on = false := by rw [hs4]
    have CB := Lib.hid (fun X (hX : Sd X w s4) => sd_append hX ⟨#[102]⟩ (by unfold maxLen; decide) none [] 0 0 rfl (Nat.le_refl _) (by omega) (.inl rfl) (.inl rfl))
    rw [show (⟨#[102]⟩ : ByteArray).data.toList = [102] from rfl, app_off hoff] at CB
    have CS := Lib.hid (fun X (hX : Sd X w s4) => sd_sync hX ⟨#[102]⟩ (by unfold maxLen; decide))
    rw [show (⟨#[102]⟩ : ByteArray).data.toList = [102] from rfl, sync_off hoff] at CS
    have CO := Lib.hid (fun X (hX : Sd X w s4) => sd_on hX)
    rw [hoff] at CO
    have CL := Lib.hid (fun X (hX : Sd X w s4) => sd_left hX)
    rw [hoff] at CL
    have CF := Lib.hid (fun X (hX : Sd X w s4) => files_off hX hoff)
    rw [← hs4] at CA CR
    clear hs4 hoff
    go_upto_region 8 with (go_at_call 12; refine (CA.out _ H3.out).mono ?_; rintro r w4 ⟨rfl, h4⟩; have H4 := Lib.hid h4; clear h4)
    go_upto_region 10 with (fail)
    go_upto_region 12 with (first
      | (go_at_call 29; refine (CO.out _ H4.out).mono ?_; rintro r w5 ⟨rfl, rfl⟩)
      | (go_at_call 30; refine (CL.out _ H4.out).mono ?_; rintro r w5 ⟨rfl, rfl⟩; rw [if_neg (by simp)])
      | (go_at_call 12; refine (CB.out _ H4.out).mono ?_; rintro r w5 ⟨rfl, h5⟩; have H5 := Lib.hid h5; clear h5)
      | (go_at_call 14; refine (CS.out _ H5.out).mono ?_; rintro r w6 ⟨rfl, h6⟩; have H6 := Lib.hid h6; clear h6)
      | (go_at_call 31; refine (CF.out _ H6.out).mono ?_; rintro r w7 ⟨rfl, rfl⟩))
    go_upto_region 13 with (go_at_call 26; refine (sd_crash H6.out (k : Int) (by have := HKB.out; omega)).mono ?_; rintro r w7 ⟨rfl, h7⟩; have H7 := Lib.hid h7; clear h7)
    have CD := Lib.hid (sd_read H7.out ⟨#[102]⟩ (by unfold maxLen; decide))
    rw [show (⟨#[102]⟩ : ByteArray).data.toList = [102] from rfl, CR.out] at CD
    have HTL := Lib.hid (show (m.take n).length = n by rw [List.length_take, ← HK.out]; have := HLT.out; omega)
    rw [HTL.out] at CD
    go_upto_region 14 with (go_at_call 22; refine CD.out.mono ?_; rintro r w8 ⟨q8, c8, rfl, hr8, h8⟩; have H8 := Lib.hid h8; have HR8 := Lib.hid hr8; clear h8 hr8)
    have hsl := fun wx => run_slice_txt wx q k c n (by have := HC.out; have := HK.out; have := HLT.out; omega)
    have v1 := run_back8 w8.drew q8 (m.take n) c8 (HR8.out.on (Below.drew (Below.refl _ _)))
    have v2 := run_back8 w8.drew q (m.take n) c (((HM.out.on H8.out.bel).take n).on (Below.drew (Below.refl _ _)))
    rw [HTL.out] at v1 v2
    go_region_held3 (fun X => X = w8.drew) (first | rfl | go_keep) (fail)
    go_wp2_with fail
    go_ret
    exact ⟨by rfl, H8.out.bel.drew⟩
end Go.Proofs.Ytfkmakkofeedpaa
