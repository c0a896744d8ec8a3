/-
  Joined of: Rone1.
-/
import Derived.Test.YtfmkfabbiifolaaGreatDoorJa06
import Derived.Deep.QuietTactic
import Derived.BigQuiet
set_option linter.unusedVariables false
set_option linter.unusedSimpArgs false
/-
  Contract: the reference's One at a byte of the text: the signs.
-/
namespace Go.Proofs.YtfmkfabbiifolaaGreatDoor
open Go.RowKit

abbrev W1 (w : World) : World := (w.alloc (.cells #[.int .u8 0, .int .i64 0, .int .i64 0] 86)).alloc (.cells #[.string ⟨#[58, 45]⟩, .string ⟨#[33, 61]⟩, .string ⟨#[40]⟩, .string ⟨#[41]⟩, .string ⟨#[44]⟩, .string ⟨#[46]⟩, .string ⟨#[60]⟩] 9)
theorem cellsW1 {w wr : World} (hb : Below (W1 w).heap.size (W1 w) wr) :
    wr.cell? ⟨w.heap.size, 0, none⟩ = some (.int .u8 0) ∧ wr.cell? ⟨w.heap.size, 1, none⟩ = some (.int .i64 0) ∧ wr.cell? ⟨w.heap.size, 2, none⟩ = some (.int .i64 0) ∧ wr.frozen? ⟨w.heap.size, 0, none⟩ = false ∧ wr.frozen? ⟨w.heap.size, 1, none⟩ = false ∧ wr.frozen? ⟨w.heap.size, 2, none⟩ = false ∧ w.heap.size < wr.heap.size := by
  have c0 := hb.cell (p := ⟨w.heap.size, 0, none⟩) (by simp; omega)
  have c1 := hb.cell (p := ⟨w.heap.size, 1, none⟩) (by simp; omega)
  have c2 := hb.cell (p := ⟨w.heap.size, 2, none⟩) (by simp; omega)
  have f0 := hb.frozen (p := ⟨w.heap.size, 0, none⟩) (by simp; omega)
  have f1 := hb.frozen (p := ⟨w.heap.size, 1, none⟩) (by simp; omega)
  have f2 := hb.frozen (p := ⟨w.heap.size, 2, none⟩) (by simp; omega)
  have hz := hb.size
  simp [go_sem] at c0 c1 c2 f0 f1 f2 hz
  exact ⟨c0, c1, c2, f0, f1, f2, by omega⟩
theorem sgn0 {w wr : World} (hb : Below (W1 w).heap.size (W1 w) wr) : wr.cell? ⟨w.heap.size + 1, 0, none⟩ = some (.string ⟨#[58, 45]⟩) := by
  have c := hb.cell (p := ⟨w.heap.size + 1, 0, none⟩) (by simp)
  simpa [go_sem] using c
theorem sgn1 {w wr : World} (hb : Below (W1 w).heap.size (W1 w) wr) : wr.cell? ⟨w.heap.size + 1, 1, none⟩ = some (.string ⟨#[33, 61]⟩) := by
  have c := hb.cell (p := ⟨w.heap.size + 1, 1, none⟩) (by simp)
  simpa [go_sem] using c
theorem sgn2 {w wr : World} (hb : Below (W1 w).heap.size (W1 w) wr) : wr.cell? ⟨w.heap.size + 1, 2, none⟩ = some (.string ⟨#[40]⟩) := by
  have c := hb.cell (p := ⟨w.heap.size + 1, 2, none⟩) (by simp)
  simpa [go_sem] using c
theorem sgn3 {w wr : World} (hb : Below (W1 w).heap.size (W1 w) wr) : wr.cell? ⟨w.heap.size + 1, 3, none⟩ = some (.string ⟨#[41]⟩) := by
  have c := hb.cell (p := ⟨w.heap.size + 1, 3, none⟩) (by simp)
  simpa [go_sem] using c
theorem sgn4 {w wr : World} (hb : Below (W1 w).heap.size (W1 w) wr) : wr.cell? ⟨w.heap.size + 1, 4, none⟩ = some (.string ⟨#[44]⟩) := by
  have c := hb.cell (p := ⟨w.heap.size + 1, 4, none⟩) (by simp)
  simpa [go_sem] using c
theorem sgn5 {w wr : World} (hb : Below (W1 w).heap.size (W1 w) wr) : wr.cell? ⟨w.heap.size + 1, 5, none⟩ = some (.string ⟨#[46]⟩) := by
  have c := hb.cell (p := ⟨w.heap.size + 1, 5, none⟩) (by simp)
  simpa [go_sem] using c
theorem sgn6 {w wr : World} (hb : Below (W1 w).heap.size (W1 w) wr) : wr.cell? ⟨w.heap.size + 1, 6, none⟩ = some (.string ⟨#[60]⟩) := by
  have c := hb.cell (p := ⟨w.heap.size + 1, 6, none⟩) (by simp)
  simpa [go_sem] using c
theorem below_w1 (w : World) : Below w.heap.size w (W1 w) := ((Below.refl _ _).alloc (Nat.le_refl _) _).alloc (by simp) _
/-- which sign begins at byte k: the place in the list -/
def sigM (s : ByteArray) (k : Nat) : Nat → Bool
  | 0 => decide (k + 2 ≤ s.size) && ((s.extract k (k + 2)).toList == [58, 45])
  | 1 => decide (k + 2 ≤ s.size) && ((s.extract k (k + 2)).toList == [33, 61])
  | 2 => ((s.extract k (k + 1)).toList == [40])
  | 3 => ((s.extract k (k + 1)).toList == [41])
  | 4 => ((s.extract k (k + 1)).toList == [44])
  | 5 => ((s.extract k (k + 1)).toList == [46])
  | 6 => ((s.extract k (k + 1)).toList == [60])
  | _ => false
def sigN : Nat → Nat
  | 0 => 2
  | 1 => 2
  | _ => 1

theorem sig_snoc (s : ByteArray) (k j : Nat) (h : ∀ x, x < j → sigM s k x = false) (h2 : sigM s k j = false) : ∀ x, x < j + 1 → sigM s k x = false := by
  intro x hx
  rcases Nat.lt_or_ge x j with h' | h'
  · exact h x h'
  · obtain rfl : x = j := by omega
    exact h2

set_option maxHeartbeats 16000000 in
set_option maxRecDepth 100000 in
theorem rone_signs (s : ByteArray) (k n : Nat) (w : World) (hk : k < s.size) (hm : s.size ≤ 140737488351232) (g1 : (s[k].toNat == 32) = false) (g2 : (s[k].toNat == 9) = false)
    (hans : ∀ j, j < 7 → sigM s k j = true → (∀ x, x < j → sigM s k x = false) → sigN j = n) (hsome : ∃ j, j < 7 ∧ sigM s k j = true) :
    Calls Tryz.prog 56 #[.string s, .int .i64 k] w fun e w' => e = .returned (.tuple #[.agg #[.int .u8 4, .int .i64 k, .int .i64 (k + n : Nat)], .int .i64 0]) ∧ Below w.heap.size w w' := by
  have hk0 : ¬ (k : Int) < 0 := by omega
  have hk1 : ¬ s.size ≤ k := by omega
  have i1 : ((s[k].toNat : Int) == 32) = false := by have := beq_eq_false_iff_ne.1 g1; rw [beq_eq_false_iff_ne]; omega
  have i2 : ((s[k].toNat : Int) == 9) = false := by have := beq_eq_false_iff_ne.1 g2; rw [beq_eq_false_iff_ne]; omega
  have HANS := Lib.hid hans
  have HSOME := Lib.hid hsome
  have BW := below_w1 w
  clear hans hsome
  go_enter Tryz.func56, Tryz.ntmps56
  go_wp2_with fail
  go_loopw [7] (fun i wr => ∃ j : Nat, j ≤ 7 ∧ i = .int .i64 j ∧ Hid (∀ x, x < j → sigM s k x = false) ∧ Below (W1 w).heap.size (W1 w) wr) (fun i _ => 7 - (intOf i).toNat)
  case atStart => exact ⟨0, by omega, rfl, Lib.hid (fun x hx => absurd hx (Nat.not_lt_zero x)), Below.refl _ _⟩
  case round =>
    obtain ⟨j, hj, rfl, HF, hb⟩ := hrel
    obtain ⟨c0, c1, c2, f0, f1, f2, hz⟩ := cellsW1 hb
    by_cases hj0 : j = 0
    · subst hj0
      have sg := sgn0 hb
      have HB := Lib.hid hb
      clear hb
      cases hM : sigM s k 0 with
      | true =>
        have HN := Lib.hid (HANS.out 0 (by omega) hM HF.out)
        have hq : (2 : Int) ≤ (s.size : Int) - k ∧ k + 2 ≤ s.size ∧ ((s.extract k (k + 2)).toList == [58, 45]) = true := by
          have this : (decide (k + 2 ≤ s.size) && ((s.extract k (k + 2)).toList == [58, 45])) = true := hM
          rw [Bool.and_eq_true, decide_eq_true_eq] at this
          exact ⟨by omega, this⟩
        obtain ⟨hq1, hq2, hq3⟩ := hq
        clear hM
        go_wp2_with fail
        go_quiet (fail)
        go_wp2_with fail
        refine bodyPost_ret (v := .tuple #[.agg #[.int .u8 4, .int .i64 k, .int .i64 (k + sigN 0 : Nat)], .int .i64 0]) (by simp [results, Tryz.results56, go_sem, sigN, c0, c1, c2]) rfl ⟨by rw [← HN.out], ?_⟩
        exact ((((BW.trans ((below_drewN' HB.out _).mono BW.size)).setCell (Nat.le_refl _) _).setCell (Nat.le_refl _) _).setCell (Nat.le_refl _) _)
      | false =>
        have HSN := Lib.hid (sig_snoc s k 0 HF.out hM)
        have hq : decide ((2 : Int) ≤ (s.size : Int) - k) = false ∨ ((2 : Int) ≤ (s.size : Int) - k ∧ k + 2 ≤ s.size ∧ ((s.extract k (k + 2)).toList == [58, 45]) = false) := by
          have this : (decide (k + 2 ≤ s.size) && ((s.extract k (k + 2)).toList == [58, 45])) = false := hM
          by_cases h2 : k + 2 ≤ s.size
          · right; exact ⟨by omega, h2, by simpa [h2] using this⟩
          · exact .inl (by rw [decide_eq_false_iff_not]; omega)
        clear hM
        rcases hq with hq | ⟨hq, hq2, hq3⟩
        all_goals
          go_wp2_with fail
          go_quiet (fail)
          go_wp2_with fail
          exact ⟨⟨1, by omega, rfl, HSN, below_drewN' HB.out _⟩, by simp [intOf]⟩
    by_cases hj1 : j = 1
    · subst hj1
      have sg := sgn1 hb
      have HB := Lib.hid hb
      clear hb
      cases hM : sigM s k 1 with
      | true =>
        have HN := Lib.hid (HANS.out 1 (by omega) hM HF.out)
        have hq : (2 : Int) ≤ (s.size : Int) - k ∧ k + 2 ≤ s.size ∧ ((s.extract k (k + 2)).toList == [33, 61]) = true := by
          have this : (decide (k + 2 ≤ s.size) && ((s.extract k (k + 2)).toList == [33, 61])) = true := hM
          rw [Bool.and_eq_true, decide_eq_true_eq] at this
          exact ⟨by omega, this⟩
        obtain ⟨hq1, hq2, hq3⟩ := hq
        clear hM
        go_wp2_with fail
        go_quiet (fail)
        go_wp2_with fail
        refine bodyPost_ret (v := .tuple #[.agg #[.int .u8 4, .int .i64 k, .int .i64 (k + sigN 1 : Nat)], .int .i64 0]) (by simp [results, Tryz.results56, go_sem, sigN, c0, c1, c2]) rfl ⟨by rw [← HN.out], ?_⟩
        exact ((((BW.trans ((below_drewN' HB.out _).mono BW.size)).setCell (Nat.le_refl _) _).setCell (Nat.le_refl _) _).setCell (Nat.le_refl _) _)
      | false =>
        have HSN := Lib.hid (sig_snoc s k 1 HF.out hM)
        have hq : decide ((2 : Int) ≤ (s.size : Int) - k) = false ∨ ((2 : Int) ≤ (s.size : Int) - k ∧ k + 2 ≤ s.size ∧ ((s.extract k (k + 2)).toList == [33, 61]) = false) := by
          have this : (decide (k + 2 ≤ s.size) && ((s.extract k (k + 2)).toList == [33, 61])) = false := hM
          by_cases h2 : k + 2 ≤ s.size
          · right; exact ⟨by omega, h2, by simpa [h2] using this⟩
          · exact .inl (by rw [decide_eq_false_iff_not]; omega)
        clear hM
        rcases hq with hq | ⟨hq, hq2, hq3⟩
        all_goals
          go_wp2_with fail
          go_quiet (fail)
          go_wp2_with fail
          exact ⟨⟨2, by omega, rfl, HSN, below_drewN' HB.out _⟩, by simp [intOf]⟩
    by_cases hj2 : j = 2
    · subst hj2
      have sg := sgn2 hb
      have HB := Lib.hid hb
      clear hb
      cases hM : sigM s k 2 with
      | true =>
        have HN := Lib.hid (HANS.out 2 (by omega) hM HF.out)
        have hq2 : ((s.extract k (k + 1)).toList == [40]) = true := hM
        have hq3 : (1 : Int) ≤ (s.size : Int) - k := by omega
        clear hM
        go_wp2_with fail
        go_quiet (fail)
        go_wp2_with fail
        refine bodyPost_ret (v := .tuple #[.agg #[.int .u8 4, .int .i64 k, .int .i64 (k + sigN 2 : Nat)], .int .i64 0]) (by simp [results, Tryz.results56, go_sem, sigN, c0, c1, c2]) rfl ⟨by rw [← HN.out], ?_⟩
        exact ((((BW.trans ((below_drewN' HB.out _).mono BW.size)).setCell (Nat.le_refl _) _).setCell (Nat.le_refl _) _).setCell (Nat.le_refl _) _)
      | false =>
        have HSN := Lib.hid (sig_snoc s k 2 HF.out hM)
        have hq2 : ((s.extract k (k + 1)).toList == [40]) = false := hM
        have hq3 : (1 : Int) ≤ (s.size : Int) - k := by omega
        clear hM
        go_wp2_with fail
        go_quiet (fail)
        go_wp2_with fail
        exact ⟨⟨3, by omega, rfl, HSN, below_drewN' HB.out _⟩, by simp [intOf]⟩
    by_cases hj3 : j = 3
    · subst hj3
      have sg := sgn3 hb
      have HB := Lib.hid hb
      clear hb
      cases hM : sigM s k 3 with
      | true =>
        have HN := Lib.hid (HANS.out 3 (by omega) hM HF.out)
        have hq2 : ((s.extract k (k + 1)).toList == [41]) = true := hM
        have hq3 : (1 : Int) ≤ (s.size : Int) - k := by omega
        clear hM
        go_wp2_with fail
        go_quiet (fail)
        go_wp2_with fail
        refine bodyPost_ret (v := .tuple #[.agg #[.int .u8 4, .int .i64 k, .int .i64 (k + sigN 3 : Nat)], .int .i64 0]) (by simp [results, Tryz.results56, go_sem, sigN, c0, c1, c2]) rfl ⟨by rw [← HN.out], ?_⟩
        exact ((((BW.trans ((below_drewN' HB.out _).mono BW.size)).setCell (Nat.le_refl _) _).setCell (Nat.le_refl _) _).setCell (Nat.le_refl _) _)
      | false =>
        have HSN := Lib.hid (sig_snoc s k 3 HF.out hM)
        have hq2 : ((s.extract k (k + 1)).toList == [41]) = false := hM
        have hq3 : (1 : Int) ≤ (s.size : Int) - k := by omega
        clear hM
        go_wp2_with fail
        go_quiet (fail)
        go_wp2_with fail
        exact ⟨⟨4, by omega, rfl, HSN, below_drewN' HB.out _⟩, by simp [intOf]⟩
    by_cases hj4 : j = 4
    · subst hj4
      have sg := sgn4 hb
      have HB := Lib.hid hb
      clear hb
      cases hM : sigM s k 4 with
      | true =>
        have HN := Lib.hid (HANS.out 4 (by omega) hM HF.out)
        have hq2 : ((s.extract k (k + 1)).toList == [44]) = true := hM
        have hq3 : (1 : Int) ≤ (s.size : Int) - k := by omega
        clear hM
        go_wp2_with fail
        go_quiet (fail)
        go_wp2_with fail
        refine bodyPost_ret (v := .tuple #[.agg #[.int .u8 4, .int .i64 k, .int .i64 (k + sigN 4 : Nat)], .int .i64 0]) (by simp [results, Tryz.results56, go_sem, sigN, c0, c1, c2]) rfl ⟨by rw [← HN.out], ?_⟩
        exact ((((BW.trans ((below_drewN' HB.out _).mono BW.size)).setCell (Nat.le_refl _) _).setCell (Nat.le_refl _) _).setCell (Nat.le_refl _) _)
      | false =>
        have HSN := Lib.hid (sig_snoc s k 4 HF.out hM)
        have hq2 : ((s.extract k (k + 1)).toList == [44]) = false := hM
        have hq3 : (1 : Int) ≤ (s.size : Int) - k := by omega
        clear hM
        go_wp2_with fail
        go_quiet (fail)
        go_wp2_with fail
        exact ⟨⟨5, by omega, rfl, HSN, below_drewN' HB.out _⟩, by simp [intOf]⟩
    by_cases hj5 : j = 5
    · subst hj5
      have sg := sgn5 hb
      have HB := Lib.hid hb
      clear hb
      cases hM : sigM s k 5 with
      | true =>
        have HN := Lib.hid (HANS.out 5 (by omega) hM HF.out)
        have hq2 : ((s.extract k (k + 1)).toList == [46]) = true := hM
        have hq3 : (1 : Int) ≤ (s.size : Int) - k := by omega
        clear hM
        go_wp2_with fail
        go_quiet (fail)
        go_wp2_with fail
        refine bodyPost_ret (v := .tuple #[.agg #[.int .u8 4, .int .i64 k, .int .i64 (k + sigN 5 : Nat)], .int .i64 0]) (by simp [results, Tryz.results56, go_sem, sigN, c0, c1, c2]) rfl ⟨by rw [← HN.out], ?_⟩
        exact ((((BW.trans ((below_drewN' HB.out _).mono BW.size)).setCell (Nat.le_refl _) _).setCell (Nat.le_refl _) _).setCell (Nat.le_refl _) _)
      | false =>
        have HSN := Lib.hid (sig_snoc s k 5 HF.out hM)
        have hq2 : ((s.extract k (k + 1)).toList == [46]) = false := hM
        have hq3 : (1 : Int) ≤ (s.size : Int) - k := by omega
        clear hM
        go_wp2_with fail
        go_quiet (fail)
        go_wp2_with fail
        exact ⟨⟨6, by omega, rfl, HSN, below_drewN' HB.out _⟩, by simp [intOf]⟩
    by_cases hj6 : j = 6
    · subst hj6
      have sg := sgn6 hb
      have HB := Lib.hid hb
      clear hb
      cases hM : sigM s k 6 with
      | true =>
        have HN := Lib.hid (HANS.out 6 (by omega) hM HF.out)
        have hq2 : ((s.extract k (k + 1)).toList == [60]) = true := hM
        have hq3 : (1 : Int) ≤ (s.size : Int) - k := by omega
        clear hM
        go_wp2_with fail
        go_quiet (fail)
        go_wp2_with fail
        refine bodyPost_ret (v := .tuple #[.agg #[.int .u8 4, .int .i64 k, .int .i64 (k + sigN 6 : Nat)], .int .i64 0]) (by simp [results, Tryz.results56, go_sem, sigN, c0, c1, c2]) rfl ⟨by rw [← HN.out], ?_⟩
        exact ((((BW.trans ((below_drewN' HB.out _).mono BW.size)).setCell (Nat.le_refl _) _).setCell (Nat.le_refl _) _).setCell (Nat.le_refl _) _)
      | false =>
        have HSN := Lib.hid (sig_snoc s k 6 HF.out hM)
        have hq2 : ((s.extract k (k + 1)).toList == [60]) = false := hM
        have hq3 : (1 : Int) ≤ (s.size : Int) - k := by omega
        clear hM
        go_wp2_with fail
        go_quiet (fail)
        go_wp2_with fail
        exact ⟨⟨7, by omega, rfl, HSN, below_drewN' HB.out _⟩, by simp [intOf]⟩
    exfalso
    obtain ⟨y, hy, hy2⟩ := HSOME.out
    rw [HF.out y (by omega)] at hy2; cases hy2
end Go.Proofs.YtfmkfabbiifolaaGreatDoor
