/-
  Joined of: Rone2.
-/
import Derived.Test.YtfmkfabbiifolaaGreatDoorJb01
set_option linter.unusedVariables false
set_option linter.unusedSimpArgs false
/-
  Contract: the reference's One where no sign begins.
-/
namespace Go.Proofs.YtfmkfabbiifolaaGreatDoor
open Go.RowKit

theorem int_beq (a b : Nat) : ((a : Int) == (b : Int)) = (a == b) := by
  by_cases h : a = b
  · subst h; simp
  · rw [beq_eq_false_iff_ne.2 h, beq_eq_false_iff_ne]; omega
abbrev KindR (p : Nat) (s : ByteArray) (k stop : Nat) (kd : Int) : Prop := ∀ wx, Calls Tryz.prog p #[.string (s.extract k stop)] wx fun e w' => e = .returned (.int .u8 kd) ∧ Below wx.heap.size wx w'
/-- where the row of bytes is looked for -/
abbrev RMode (s : ByteArray) (k j0 : Nat) (hk : k < s.size) : Prop :=
  (j0 = k + 1 ∧ (s[k].toNat == 45) = true ∧ ∃ h : k + 1 < s.size, 48 ≤ (s[k + 1].toNat : Int) ∧ (s[k + 1].toNat : Int) ≤ 57)
  ∨ (k = j0 ∧ (s[k].toNat == 45) = false)
  ∨ (k = j0 ∧ (s[k].toNat == 45) = true ∧ ¬ k + 1 < s.size)
  ∨ (k = j0 ∧ (s[k].toNat == 45) = true ∧ ∃ h : k + 1 < s.size, (s[k + 1].toNat : Int) < 48)
  ∨ (k = j0 ∧ (s[k].toNat == 45) = true ∧ ∃ h : k + 1 < s.size, 48 ≤ (s[k + 1].toNat : Int) ∧ decide ((s[k + 1].toNat : Int) ≤ 57) = false)

set_option maxHeartbeats 16000000 in
set_option maxRecDepth 100000 in
theorem rone_rest_yes (s : ByteArray) (k j0 stop : Nat) (kd : Int) (w : World) (hk : k < s.size) (hm : s.size ≤ 140737488351232) (hs : j0 + runL (s.data.toList.drop j0) = stop) (hq : (kd == 0) = false) (hc : KindR 91 s k stop kd)
    (hmode : RMode s k j0 hk) (g1 : (s[k].toNat == 32) = false) (g2 : (s[k].toNat == 9) = false) (h7 : ∀ j, j < 7 → sigM s k j = false) :
    Calls Tryz.prog 56 #[.string s, .int .i64 k] w fun e w' => e = .returned (.tuple #[.agg #[.int .u8 kd, .int .i64 k, .int .i64 stop], .int .i64 0]) ∧ Below w.heap.size w w' := by
  have hk0 : ¬ (k : Int) < 0 := by omega
  have hk1 : ¬ s.size ≤ k := by omega
  have i1 : ((s[k].toNat : Int) == 32) = false := by have := beq_eq_false_iff_ne.1 g1; rw [beq_eq_false_iff_ne]; omega
  have i2 : ((s[k].toNat : Int) == 9) = false := by have := beq_eq_false_iff_ne.1 g2; rw [beq_eq_false_iff_ne]; omega
  have H7 := Lib.hid h7
  have HC := Lib.hid hc
  have HS := Lib.hid hs
  have HMO := Lib.hid hmode
  have BW := below_w1 w
  clear h7 hc hs hmode
  go_enter Tryz.func56, Tryz.ntmps56
  go_wp2_with fail
  go_loopw [7] (fun i wr => ∃ j : Nat, j ≤ 7 ∧ i = .int .i64 j ∧ Hid (∀ x, x < j → sigM s k x = false) ∧ Below (W1 w).heap.size (W1 w) wr) (fun i _ => 7 - (intOf i).toNat)
  case atStart => exact ⟨0, by omega, rfl, Lib.hid (fun x hx => absurd hx (Nat.not_lt_zero x)), Below.refl _ _⟩
  case round =>
    obtain ⟨j, hj, rfl, HF, hb⟩ := hrel
    obtain ⟨c0, c1, c2, f0, f1, f2, hz⟩ := cellsW1 hb
    by_cases hj0 : j = 0
    · subst hj0
      have sg := sgn0 hb
      have HB := Lib.hid hb
      clear hb
      have hM := H7.out 0 (by omega)
      have HSN := Lib.hid (sig_snoc s k 0 HF.out hM)
      have hq : decide ((2 : Int) ≤ (s.size : Int) - k) = false ∨ ((2 : Int) ≤ (s.size : Int) - k ∧ k + 2 ≤ s.size ∧ ((s.extract k (k + 2)).toList == [58, 45]) = false) := by
        have this : (decide (k + 2 ≤ s.size) && ((s.extract k (k + 2)).toList == [58, 45])) = false := hM
        by_cases h2 : k + 2 ≤ s.size
        · right; exact ⟨by omega, h2, by simpa [h2] using this⟩
        · exact .inl (by rw [decide_eq_false_iff_not]; omega)
      clear hM
      rcases hq with hq | ⟨hq, hq2, hq3⟩
      all_goals
        go_wp2_with fail
        go_quiet (fail)
        go_wp2_with fail
        exact ⟨⟨1, by omega, rfl, HSN, below_drewN' HB.out _⟩, by simp [intOf]⟩
    by_cases hj1 : j = 1
    · subst hj1
      have sg := sgn1 hb
      have HB := Lib.hid hb
      clear hb
      have hM := H7.out 1 (by omega)
      have HSN := Lib.hid (sig_snoc s k 1 HF.out hM)
      have hq : decide ((2 : Int) ≤ (s.size : Int) - k) = false ∨ ((2 : Int) ≤ (s.size : Int) - k ∧ k + 2 ≤ s.size ∧ ((s.extract k (k + 2)).toList == [33, 61]) = false) := by
        have this : (decide (k + 2 ≤ s.size) && ((s.extract k (k + 2)).toList == [33, 61])) = false := hM
        by_cases h2 : k + 2 ≤ s.size
        · right; exact ⟨by omega, h2, by simpa [h2] using this⟩
        · exact .inl (by rw [decide_eq_false_iff_not]; omega)
      clear hM
      rcases hq with hq | ⟨hq, hq2, hq3⟩
      all_goals
        go_wp2_with fail
        go_quiet (fail)
        go_wp2_with fail
        exact ⟨⟨2, by omega, rfl, HSN, below_drewN' HB.out _⟩, by simp [intOf]⟩
    by_cases hj2 : j = 2
    · subst hj2
      have sg := sgn2 hb
      have HB := Lib.hid hb
      clear hb
      have hM := H7.out 2 (by omega)
      have HSN := Lib.hid (sig_snoc s k 2 HF.out hM)
      have hq2 : ((s.extract k (k + 1)).toList == [40]) = false := hM
      have hq3 : (1 : Int) ≤ (s.size : Int) - k := by omega
      clear hM
      go_wp2_with fail
      go_quiet (fail)
      go_wp2_with fail
      exact ⟨⟨3, by omega, rfl, HSN, below_drewN' HB.out _⟩, by simp [intOf]⟩
    by_cases hj3 : j = 3
    · subst hj3
      have sg := sgn3 hb
      have HB := Lib.hid hb
      clear hb
      have hM := H7.out 3 (by omega)
      have HSN := Lib.hid (sig_snoc s k 3 HF.out hM)
      have hq2 : ((s.extract k (k + 1)).toList == [41]) = false := hM
      have hq3 : (1 : Int) ≤ (s.size : Int) - k := by omega
      clear hM
      go_wp2_with fail
      go_quiet (fail)
      go_wp2_with fail
      exact ⟨⟨4, by omega, rfl, HSN, below_drewN' HB.out _⟩, by simp [intOf]⟩
    by_cases hj4 : j = 4
    · subst hj4
      have sg := sgn4 hb
      have HB := Lib.hid hb
      clear hb
      have hM := H7.out 4 (by omega)
      have HSN := Lib.hid (sig_snoc s k 4 HF.out hM)
      have hq2 : ((s.extract k (k + 1)).toList == [44]) = false := hM
      have hq3 : (1 : Int) ≤ (s.size : Int) - k := by omega
      clear hM
      go_wp2_with fail
      go_quiet (fail)
      go_wp2_with fail
      exact ⟨⟨5, by omega, rfl, HSN, below_drewN' HB.out _⟩, by simp [intOf]⟩
    by_cases hj5 : j = 5
    · subst hj5
      have sg := sgn5 hb
      have HB := Lib.hid hb
      clear hb
      have hM := H7.out 5 (by omega)
      have HSN := Lib.hid (sig_snoc s k 5 HF.out hM)
      have hq2 : ((s.extract k (k + 1)).toList == [46]) = false := hM
      have hq3 : (1 : Int) ≤ (s.size : Int) - k := by omega
      clear hM
      go_wp2_with fail
      go_quiet (fail)
      go_wp2_with fail
      exact ⟨⟨6, by omega, rfl, HSN, below_drewN' HB.out _⟩, by simp [intOf]⟩
    by_cases hj6 : j = 6
    · subst hj6
      have sg := sgn6 hb
      have HB := Lib.hid hb
      clear hb
      have hM := H7.out 6 (by omega)
      have HSN := Lib.hid (sig_snoc s k 6 HF.out hM)
      have hq2 : ((s.extract k (k + 1)).toList == [60]) = false := hM
      have hq3 : (1 : Int) ≤ (s.size : Int) - k := by omega
      clear hM
      go_wp2_with fail
      go_quiet (fail)
      go_wp2_with fail
      exact ⟨⟨7, by omega, rfl, HSN, below_drewN' HB.out _⟩, by simp [intOf]⟩
    have HB := Lib.hid hb
    clear hb
    obtain rfl : j = 7 := by omega
    rw [show (((7 : Nat)) : Int) = 7 from rfl]
    obtain ⟨wo, rfl⟩ : ∃ wo : World, wo = wr := ⟨_, rfl⟩
    rcases HMO.out with ⟨rfl, m1, hk1', m2, m3⟩ | ⟨rfl, m1⟩ | ⟨rfl, m1, hk1'⟩ | ⟨rfl, m1, hk1', m2⟩ | ⟨rfl, m1, hk1', m2, m3⟩
    all_goals
      have m1' := (int_beq s[k].toNat 45).trans m1
      change ((s[k].toNat : Int) == 45) = _ at m1'
      go_wp2_with fail
      go_loop [9] (fun i => ∃ j : Nat, k ≤ j ∧ j ≤ s.size ∧ i = .int .i64 j ∧ Hid (j + runL (s.data.toList.drop j) = stop)) (fun i => s.size - (intOf i).toNat)
      case atStart => exact ⟨_, by omega, by omega, by first | rfl | go_num, HS⟩
      case round =>
        obtain ⟨j, hkj, hjs, rfl, HJ⟩ := hrel
        by_cases hlt : j < s.size
        · cases hw2 : winB (s[j].toNat : Int) with
          | true =>
            have HN := Lib.hid (run_yes s j stop hlt hw2 HJ.out)
            have HWI := Lib.hid (show ∀ wx, Calls Tryz.prog 90 #[.int .u8 (s[j].toNat : Int)] wx fun e w' => e = .returned (.bool true) ∧ wx = w' from fun wx => hw2 ▸ refin_any _ wx)
            clear hw2
            go_wp2_with (go_at_call 90; refine (HWI.out _).mono ?_; rintro e w' ⟨rfl, rfl⟩)
            go_round
            case rel => exact ⟨j + 1, by omega, by omega, by go_num, HN⟩
            case measure => simp [intOf]; omega
          | false =>
            obtain rfl := run_no s j stop hlt hw2 HJ.out
            have HWI := Lib.hid (show ∀ wx, Calls Tryz.prog 90 #[.int .u8 (s[j].toNat : Int)] wx fun e w' => e = .returned (.bool false) ∧ wx = w' from fun wx => hw2 ▸ refin_any _ wx)
            clear hw2
            go_wp2_with (go_at_call 90; refine (HWI.out _).mono ?_; rintro e w' ⟨rfl, rfl⟩)
            refine (HC.out _).mono ?_
            rintro e w1 ⟨rfl, hb1⟩
            have HB1 := Lib.hid (HB.out.trans (hb1.mono HB.out.size))
            obtain ⟨d0, d1, d2, e0, e1, e2, hz2⟩ := cellsW1 HB1.out
            clear hb1
            go_wp2_with fail
            refine bodyPost_ret (v := .tuple #[.agg #[.int .u8 kd, .int .i64 k, .int .i64 j], .int .i64 0]) (by simp [results, Tryz.results56, go_sem, d0, d1, d2]) rfl ⟨rfl, ?_⟩
            exact ((((BW.trans (HB1.out.mono BW.size)).setCell (Nat.le_refl _) _).setCell (Nat.le_refl _) _).setCell (Nat.le_refl _) _)
        · obtain rfl := run_end s j stop (by omega) HJ.out
          go_wp2_with fail
          refine (HC.out _).mono ?_
          rintro e w1 ⟨rfl, hb1⟩
          have HB1 := Lib.hid (HB.out.trans (hb1.mono HB.out.size))
          obtain ⟨d0, d1, d2, e0, e1, e2, hz2⟩ := cellsW1 HB1.out
          clear hb1
          go_wp2_with fail
          refine bodyPost_ret (v := .tuple #[.agg #[.int .u8 kd, .int .i64 k, .int .i64 j], .int .i64 0]) (by simp [results, Tryz.results56, go_sem, d0, d1, d2]) rfl ⟨rfl, ?_⟩
          exact ((((BW.trans (HB1.out.mono BW.size)).setCell (Nat.le_refl _) _).setCell (Nat.le_refl _) _).setCell (Nat.le_refl _) _)

set_option maxHeartbeats 16000000 in
set_option maxRecDepth 100000 in
theorem rone_rest_no (s : ByteArray) (k j0 stop : Nat) (kd : Int) (w : World) (hk : k < s.size) (hm : s.size ≤ 140737488351232) (hs : j0 + runL (s.data.toList.drop j0) = stop) (hq : (kd == 0) = true) (hc : KindR 91 s k stop kd)
    (hmode : RMode s k j0 hk) (g1 : (s[k].toNat == 32) = false) (g2 : (s[k].toNat == 9) = false) (h7 : ∀ j, j < 7 → sigM s k j = false) :
    Calls Tryz.prog 56 #[.string s, .int .i64 k] w fun e w' => e = .returned (.tuple #[.agg #[.int .u8 0, .int .i64 0, .int .i64 0], .int .i64 5]) ∧ Below w.heap.size w w' := by
  have hk0 : ¬ (k : Int) < 0 := by omega
  have hk1 : ¬ s.size ≤ k := by omega
  have i1 : ((s[k].toNat : Int) == 32) = false := by have := beq_eq_false_iff_ne.1 g1; rw [beq_eq_false_iff_ne]; omega
  have i2 : ((s[k].toNat : Int) == 9) = false := by have := beq_eq_false_iff_ne.1 g2; rw [beq_eq_false_iff_ne]; omega
  have H7 := Lib.hid h7
  have HC := Lib.hid hc
  have HS := Lib.hid hs
  have HMO := Lib.hid hmode
  have BW := below_w1 w
  clear h7 hc hs hmode
  go_enter Tryz.func56, Tryz.ntmps56
  go_wp2_with fail
  go_loopw [7] (fun i wr => ∃ j : Nat, j ≤ 7 ∧ i = .int .i64 j ∧ Hid (∀ x, x < j → sigM s k x = false) ∧ Below (W1 w).heap.size (W1 w) wr) (fun i _ => 7 - (intOf i).toNat)
  case atStart => exact ⟨0, by omega, rfl, Lib.hid (fun x hx => absurd hx (Nat.not_lt_zero x)), Below.refl _ _⟩
  case round =>
    obtain ⟨j, hj, rfl, HF, hb⟩ := hrel
    obtain ⟨c0, c1, c2, f0, f1, f2, hz⟩ := cellsW1 hb
    by_cases hj0 : j = 0
    · subst hj0
      have sg := sgn0 hb
      have HB := Lib.hid hb
      clear hb
      have hM := H7.out 0 (by omega)
      have HSN := Lib.hid (sig_snoc s k 0 HF.out hM)
      have hq : decide ((2 : Int) ≤ (s.size : Int) - k) = false ∨ ((2 : Int) ≤ (s.size : Int) - k ∧ k + 2 ≤ s.size ∧ ((s.extract k (k + 2)).toList == [58, 45]) = false) := by
        have this : (decide (k + 2 ≤ s.size) && ((s.extract k (k + 2)).toList == [58, 45])) = false := hM
        by_cases h2 : k + 2 ≤ s.size
        · right; exact ⟨by omega, h2, by simpa [h2] using this⟩
        · exact .inl (by rw [decide_eq_false_iff_not]; omega)
      clear hM
      rcases hq with hq | ⟨hq, hq2, hq3⟩
      all_goals
        go_wp2_with fail
        go_quiet (fail)
        go_wp2_with fail
        exact ⟨⟨1, by omega, rfl, HSN, below_drewN' HB.out _⟩, by simp [intOf]⟩
    by_cases hj1 : j = 1
    · subst hj1
      have sg := sgn1 hb
      have HB := Lib.hid hb
      clear hb
      have hM := H7.out 1 (by omega)
      have HSN := Lib.hid (sig_snoc s k 1 HF.out hM)
      have hq : decide ((2 : Int) ≤ (s.size : Int) - k) = false ∨ ((2 : Int) ≤ (s.size : Int) - k ∧ k + 2 ≤ s.size ∧ ((s.extract k (k + 2)).toList == [33, 61]) = false) := by
        have this : (decide (k + 2 ≤ s.size) && ((s.extract k (k + 2)).toList == [33, 61])) = false := hM
        by_cases h2 : k + 2 ≤ s.size
        · right; exact ⟨by omega, h2, by simpa [h2] using this⟩
        · exact .inl (by rw [decide_eq_false_iff_not]; omega)
      clear hM
      rcases hq with hq | ⟨hq, hq2, hq3⟩
      all_goals
        go_wp2_with fail
        go_quiet (fail)
        go_wp2_with fail
        exact ⟨⟨2, by omega, rfl, HSN, below_drewN' HB.out _⟩, by simp [intOf]⟩
    by_cases hj2 : j = 2
    · subst hj2
      have sg := sgn2 hb
      have HB := Lib.hid hb
      clear hb
      have hM := H7.out 2 (by omega)
      have HSN := Lib.hid (sig_snoc s k 2 HF.out hM)
      have hq2 : ((s.extract k (k + 1)).toList == [40]) = false := hM
      have hq3 : (1 : Int) ≤ (s.size : Int) - k := by omega
      clear hM
      go_wp2_with fail
      go_quiet (fail)
      go_wp2_with fail
      exact ⟨⟨3, by omega, rfl, HSN, below_drewN' HB.out _⟩, by simp [intOf]⟩
    by_cases hj3 : j = 3
    · subst hj3
      have sg := sgn3 hb
      have HB := Lib.hid hb
      clear hb
      have hM := H7.out 3 (by omega)
      have HSN := Lib.hid (sig_snoc s k 3 HF.out hM)
      have hq2 : ((s.extract k (k + 1)).toList == [41]) = false := hM
      have hq3 : (1 : Int) ≤ (s.size : Int) - k := by omega
      clear hM
      go_wp2_with fail
      go_quiet (fail)
      go_wp2_with fail
      exact ⟨⟨4, by omega, rfl, HSN, below_drewN' HB.out _⟩, by simp [intOf]⟩
    by_cases hj4 : j = 4
    · subst hj4
      have sg := sgn4 hb
      have HB := Lib.hid hb
      clear hb
      have hM := H7.out 4 (by omega)
      have HSN := Lib.hid (sig_snoc s k 4 HF.out hM)
      have hq2 : ((s.extract k (k + 1)).toList == [44]) = false := hM
      have hq3 : (1 : Int) ≤ (s.size : Int) - k := by omega
      clear hM
      go_wp2_with fail
      go_quiet (fail)
      go_wp2_with fail
      exact ⟨⟨5, by omega, rfl, HSN, below_drewN' HB.out _⟩, by simp [intOf]⟩
    by_cases hj5 : j = 5
    · subst hj5
      have sg := sgn5 hb
      have HB := Lib.hid hb
      clear hb
      have hM := H7.out 5 (by omega)
      have HSN := Lib.hid (sig_snoc s k 5 HF.out hM)
      have hq2 : ((s.extract k (k + 1)).toList == [46]) = false := hM
      have hq3 : (1 : Int) ≤ (s.size : Int) - k := by omega
      clear hM
      go_wp2_with fail
      go_quiet (fail)
      go_wp2_with fail
      exact ⟨⟨6, by omega, rfl, HSN, below_drewN' HB.out _⟩, by simp [intOf]⟩
    by_cases hj6 : j = 6
    · subst hj6
      have sg := sgn6 hb
      have HB := Lib.hid hb
      clear hb
      have hM := H7.out 6 (by omega)
      have HSN := Lib.hid (sig_snoc s k 6 HF.out hM)
      have hq2 : ((s.extract k (k + 1)).toList == [60]) = false := hM
      have hq3 : (1 : Int) ≤ (s.size : Int) - k := by omega
      clear hM
      go_wp2_with fail
      go_quiet (fail)
      go_wp2_with fail
      exact ⟨⟨7, by omega, rfl, HSN, below_drewN' HB.out _⟩, by simp [intOf]⟩
    have HB := Lib.hid hb
    clear hb
    obtain rfl : j = 7 := by omega
    rw [show (((7 : Nat)) : Int) = 7 from rfl]
    obtain ⟨wo, rfl⟩ : ∃ wo : World, wo = wr := ⟨_, rfl⟩
    rcases HMO.out with ⟨rfl, m1, hk1', m2, m3⟩ | ⟨rfl, m1⟩ | ⟨rfl, m1, hk1'⟩ | ⟨rfl, m1, hk1', m2⟩ | ⟨rfl, m1, hk1', m2, m3⟩
    all_goals
      have m1' := (int_beq s[k].toNat 45).trans m1
      change ((s[k].toNat : Int) == 45) = _ at m1'
      go_wp2_with fail
      go_loop [9] (fun i => ∃ j : Nat, k ≤ j ∧ j ≤ s.size ∧ i = .int .i64 j ∧ Hid (j + runL (s.data.toList.drop j) = stop)) (fun i => s.size - (intOf i).toNat)
      case atStart => exact ⟨_, by omega, by omega, by first | rfl | go_num, HS⟩
      case round =>
        obtain ⟨j, hkj, hjs, rfl, HJ⟩ := hrel
        by_cases hlt : j < s.size
        · cases hw2 : winB (s[j].toNat : Int) with
          | true =>
            have HN := Lib.hid (run_yes s j stop hlt hw2 HJ.out)
            have HWI := Lib.hid (show ∀ wx, Calls Tryz.prog 90 #[.int .u8 (s[j].toNat : Int)] wx fun e w' => e = .returned (.bool true) ∧ wx = w' from fun wx => hw2 ▸ refin_any _ wx)
            clear hw2
            go_wp2_with (go_at_call 90; refine (HWI.out _).mono ?_; rintro e w' ⟨rfl, rfl⟩)
            go_round
            case rel => exact ⟨j + 1, by omega, by omega, by go_num, HN⟩
            case measure => simp [intOf]; omega
          | false =>
            obtain rfl := run_no s j stop hlt hw2 HJ.out
            have HWI := Lib.hid (show ∀ wx, Calls Tryz.prog 90 #[.int .u8 (s[j].toNat : Int)] wx fun e w' => e = .returned (.bool false) ∧ wx = w' from fun wx => hw2 ▸ refin_any _ wx)
            clear hw2
            go_wp2_with (go_at_call 90; refine (HWI.out _).mono ?_; rintro e w' ⟨rfl, rfl⟩)
            refine (HC.out _).mono ?_
            rintro e w1 ⟨rfl, hb1⟩
            have HB1 := Lib.hid (HB.out.trans (hb1.mono HB.out.size))
            obtain ⟨d0, d1, d2, e0, e1, e2, hz2⟩ := cellsW1 HB1.out
            clear hb1
            go_wp2_with fail
            refine bodyPost_ret (v := .tuple #[.agg #[.int .u8 0, .int .i64 0, .int .i64 0], .int .i64 5]) (by simp [results, Tryz.results56, go_sem, d0, d1, d2]) rfl ⟨rfl, ?_⟩
            exact ((((BW.trans (HB1.out.mono BW.size)).setCell (Nat.le_refl _) _).setCell (Nat.le_refl _) _).setCell (Nat.le_refl _) _)
        · obtain rfl := run_end s j stop (by omega) HJ.out
          go_wp2_with fail
          refine (HC.out _).mono ?_
          rintro e w1 ⟨rfl, hb1⟩
          have HB1 := Lib.hid (HB.out.trans (hb1.mono HB.out.size))
          obtain ⟨d0, d1, d2, e0, e1, e2, hz2⟩ := cellsW1 HB1.out
          clear hb1
          go_wp2_with fail
          refine bodyPost_ret (v := .tuple #[.agg #[.int .u8 0, .int .i64 0, .int .i64 0], .int .i64 5]) (by simp [results, Tryz.results56, go_sem, d0, d1, d2]) rfl ⟨rfl, ?_⟩
          exact ((((BW.trans (HB1.out.mono BW.size)).setCell (Nat.le_refl _) _).setCell (Nat.le_refl _) _).setCell (Nat.le_refl _) _)
end Go.Proofs.YtfmkfabbiifolaaGreatDoor
