/-
  Joined of: Rone, RoneA, Rall.
-/
import Derived.Test.YtfmkfabbiifolaaGreatDoorJb02
import Derived.Test.YtfmkfabbiifolaaGreatDoorJa06
set_option linter.unusedVariables false
set_option linter.unusedSimpArgs false
/-
  Contract: the reference's One, by the byte that stands there.
-/
namespace Go.Proofs.YtfmkfabbiifolaaGreatDoor
open Go.RowKit

theorem ex1 (s : ByteArray) (k : Nat) (hk : k < s.size) : (s.extract k (k + 1)).toList = [s[k]] := by
  rw [ByteArray.toList_eq, extract_list, drop_at s k hk, show k + 1 - k = 1 by omega]; rfl
theorem ex2 (s : ByteArray) (k : Nat) (hk : k + 1 < s.size) : (s.extract k (k + 2)).toList = [s[k], s[k + 1]] := by
  rw [ByteArray.toList_eq, extract_list, drop_at s k (by omega), drop_at s (k + 1) hk, show k + 2 - k = 2 by omega]; rfl
theorem byte_beq (c : UInt8) (d : UInt8) : (c == d) = (c.toNat == d.toNat) := by
  by_cases h : c = d
  · subst h; simp
  · rw [beq_eq_false_iff_ne.2 h, eq_comm, beq_eq_false_iff_ne]; exact fun e => h (UInt8.toNat_inj.1 e)
theorem one_beq (c d : UInt8) : ([c] == [d]) = (c.toNat == d.toNat) := by rw [← byte_beq]; simp
theorem two_beq (a b c d : UInt8) : ([a, b] == [c, d]) = (a.toNat == c.toNat && b.toNat == d.toNat) := by rw [← byte_beq, ← byte_beq]; simp
theorem sig2_eq (s : ByteArray) (k : Nat) (hk : k < s.size) : sigM s k 2 = (s[k].toNat == 40) := by
  show ((s.extract k (k + 1)).toList == [40]) = _
  rw [ex1 s k hk, one_beq]; rfl
theorem sig3_eq (s : ByteArray) (k : Nat) (hk : k < s.size) : sigM s k 3 = (s[k].toNat == 41) := by
  show ((s.extract k (k + 1)).toList == [41]) = _
  rw [ex1 s k hk, one_beq]; rfl
theorem sig4_eq (s : ByteArray) (k : Nat) (hk : k < s.size) : sigM s k 4 = (s[k].toNat == 44) := by
  show ((s.extract k (k + 1)).toList == [44]) = _
  rw [ex1 s k hk, one_beq]; rfl
theorem sig5_eq (s : ByteArray) (k : Nat) (hk : k < s.size) : sigM s k 5 = (s[k].toNat == 46) := by
  show ((s.extract k (k + 1)).toList == [46]) = _
  rw [ex1 s k hk, one_beq]; rfl
theorem sig6_eq (s : ByteArray) (k : Nat) (hk : k < s.size) : sigM s k 6 = (s[k].toNat == 60) := by
  show ((s.extract k (k + 1)).toList == [60]) = _
  rw [ex1 s k hk, one_beq]; rfl
theorem sig0_no (s : ByteArray) (k : Nat) (hk : k < s.size) (h : (s[k].toNat == 58) = false ∨ ¬ k + 1 < s.size ∨ ∃ h1 : k + 1 < s.size, (s[k + 1].toNat == 45) = false) : sigM s k 0 = false := by
  show (decide (k + 2 ≤ s.size) && ((s.extract k (k + 2)).toList == [58, 45])) = false
  by_cases h1 : k + 1 < s.size
  · rw [ex2 s k h1, two_beq]
    rcases h with h | h | ⟨_, h⟩
    · rw [show ((s[k].toNat == (58 : UInt8).toNat)) = false from h]; simp
    · exact absurd h1 h
    · rw [show ((s[k + 1].toNat == (45 : UInt8).toNat)) = false from h]; simp
  · have : ¬ k + 2 ≤ s.size := by omega
    simp [this]
theorem sig0_yes (s : ByteArray) (k : Nat) (hk : k + 1 < s.size) (h : (s[k].toNat == 58) = true) (h2 : (s[k + 1].toNat == 45) = true) : sigM s k 0 = true := by
  show (decide (k + 2 ≤ s.size) && ((s.extract k (k + 2)).toList == [58, 45])) = true
  rw [ex2 s k hk, two_beq, show ((s[k].toNat == (58 : UInt8).toNat)) = true from h, show ((s[k + 1].toNat == (45 : UInt8).toNat)) = true from h2]
  simp; omega
theorem sig1_no (s : ByteArray) (k : Nat) (hk : k < s.size) (h : (s[k].toNat == 33) = false ∨ ¬ k + 1 < s.size ∨ ∃ h1 : k + 1 < s.size, (s[k + 1].toNat == 61) = false) : sigM s k 1 = false := by
  show (decide (k + 2 ≤ s.size) && ((s.extract k (k + 2)).toList == [33, 61])) = false
  by_cases h1 : k + 1 < s.size
  · rw [ex2 s k h1, two_beq]
    rcases h with h | h | ⟨_, h⟩
    · rw [show ((s[k].toNat == (33 : UInt8).toNat)) = false from h]; simp
    · exact absurd h1 h
    · rw [show ((s[k + 1].toNat == (61 : UInt8).toNat)) = false from h]; simp
  · have : ¬ k + 2 ≤ s.size := by omega
    simp [this]
theorem sig1_yes (s : ByteArray) (k : Nat) (hk : k + 1 < s.size) (h : (s[k].toNat == 33) = true) (h2 : (s[k + 1].toNat == 61) = true) : sigM s k 1 = true := by
  show (decide (k + 2 ≤ s.size) && ((s.extract k (k + 2)).toList == [33, 61])) = true
  rw [ex2 s k hk, two_beq, show ((s[k].toNat == (33 : UInt8).toNat)) = true from h, show ((s[k + 1].toNat == (61 : UInt8).toNat)) = true from h2]
  simp; omega
theorem sig_none (s : ByteArray) (k : Nat) (hk : k < s.size) (g3 : (s[k].toNat == 40) = false) (g4 : (s[k].toNat == 41) = false) (g5 : (s[k].toNat == 44) = false) (g6 : (s[k].toNat == 46) = false) (g7 : (s[k].toNat == 60) = false)
    (h0 : sigM s k 0 = false) (h1 : sigM s k 1 = false) : ∀ j, j < 7 → sigM s k j = false := by
  intro j hj
  match j, hj with
  | 0, _ => exact h0
  | 1, _ => exact h1
  | 2, _ => rw [sig2_eq s k hk]; exact g3
  | 3, _ => rw [sig3_eq s k hk]; exact g4
  | 4, _ => rw [sig4_eq s k hk]; exact g5
  | 5, _ => rw [sig5_eq s k hk]; exact g6
  | 6, _ => rw [sig6_eq s k hk]; exact g7
theorem sig_one (s : ByteArray) (k : Nat) (h0 : sigM s k 0 = false) (h1 : sigM s k 1 = false) : ∀ j, j < 7 → sigM s k j = true → (∀ x, x < j → sigM s k x = false) → sigN j = 1 := by
  intro j hj h _
  match j, hj with
  | 0, _ => rw [h0] at h; cases h
  | 1, _ => rw [h1] at h; cases h
  | 2, _ => rfl
  | 3, _ => rfl
  | 4, _ => rfl
  | 5, _ => rfl
  | 6, _ => rfl
theorem sig_two (s : ByteArray) (k : Nat) (hk : k < s.size) (g3 : (s[k].toNat == 40) = false) (g4 : (s[k].toNat == 41) = false) (g5 : (s[k].toNat == 44) = false) (g6 : (s[k].toNat == 46) = false) (g7 : (s[k].toNat == 60) = false) : ∀ j, j < 7 → sigM s k j = true → (∀ x, x < j → sigM s k x = false) → sigN j = 2 := by
  intro j hj h _
  match j, hj with
  | 0, _ => rfl
  | 1, _ => rfl
  | 2, _ => rw [sig2_eq s k hk, g3] at h; cases h
  | 3, _ => rw [sig3_eq s k hk, g4] at h; cases h
  | 4, _ => rw [sig4_eq s k hk, g5] at h; cases h
  | 5, _ => rw [sig5_eq s k hk, g6] at h; cases h
  | 6, _ => rw [sig6_eq s k hk, g7] at h; cases h
theorem readN_nil : readN ⟨#[]⟩ = none := readN_none _ fun m a b h => by
  exact absurd (shape _ m a b h).1 (Nat.not_lt_zero _)
theorem kindL_nil : kindL [] = 0 := by
  unfold kindL
  rw [if_neg (by decide), if_neg (by decide), if_neg (by decide), show (⟨([] : List UInt8).toArray⟩ : ByteArray) = ⟨#[]⟩ from rfl, readN_nil]
  rfl
theorem kindR_nil (s : ByteArray) (k : Nat) : KindR 91 s k k 0 := fun wx => by
  have h := refkind_any (s.extract k k) wx (by rw [ByteArray.size_extract]; omega)
  rw [extract_list, Nat.sub_self, List.take_zero, kindL_nil] at h
  exact h
theorem run_nowin (s : ByteArray) (k : Nat) (hk : k < s.size) (h : winB (s[k].toNat : Int) = false) : k + runL (s.data.toList.drop k) = k := by
  rw [drop_at s k hk, runL, if_neg (by rw [h]; decide)]; omega
theorem win_const (c n : Nat) (h : (c == n) = true) (hn : winB (n : Int) = false) : winB (c : Int) = false := by
  rw [beq_iff_eq] at h; subst h; exact hn
theorem ne_const (c n m : Nat) (h : (c == n) = true) (hn : n ≠ m) : (c == m) = false := by
  rw [beq_iff_eq] at h; subst h; rw [beq_eq_false_iff_ne]; exact hn

set_option maxHeartbeats 1000000 in
theorem rone_out (s : ByteArray) (a : Int) (w : World) (_hm : s.size ≤ 140737488351232) (h : a < 0 ∨ (¬ a < 0 ∧ (s.size : Int) ≤ a)) : OneAns 56 s a w 0 0 0 1 := by
  rcases h with h | ⟨h, h2⟩
  all_goals
    go_enter Tryz.func56, Tryz.ntmps56
    go_wp2_with fail
    refine bodyPost_ret (v := .tuple #[.agg #[.int .u8 0, .int .i64 0, .int .i64 0], .int .i64 1]) (by simp [results, Tryz.results56, go_sem]) rfl ⟨rfl, ?_⟩
    exact (Below.refl _ _).alloc (Nat.le_refl _) _
set_option maxHeartbeats 1000000 in
theorem rone_blank (s : ByteArray) (k : Nat) (w : World) (hk : k < s.size) (_hm : s.size ≤ 140737488351232) (h : (s[k].toNat == 32) = true ∨ (s[k].toNat == 32) = false ∧ (s[k].toNat == 9) = true) : OneAns 56 s k w 0 0 0 4 := by
  have hk0 : ¬ (k : Int) < 0 := by omega
  have hk1 : ¬ s.size ≤ k := by omega
  rcases h with h | ⟨h, h2⟩
  · have i1 : ((s[k].toNat : Int) == 32) = true := (int_beq _ 32).trans h
    go_enter Tryz.func56, Tryz.ntmps56
    go_wp2_with fail
    refine bodyPost_ret (v := .tuple #[.agg #[.int .u8 0, .int .i64 0, .int .i64 0], .int .i64 4]) (by simp [results, Tryz.results56, go_sem]) rfl ⟨rfl, ?_⟩
    exact (Below.refl _ _).alloc (Nat.le_refl _) _
  · have i1 : ((s[k].toNat : Int) == 32) = false := (int_beq _ 32).trans h
    have i2 : ((s[k].toNat : Int) == 9) = true := (int_beq _ 9).trans h2
    go_enter Tryz.func56, Tryz.ntmps56
    go_wp2_with fail
    refine bodyPost_ret (v := .tuple #[.agg #[.int .u8 0, .int .i64 0, .int .i64 0], .int .i64 4]) (by simp [results, Tryz.results56, go_sem]) rfl ⟨rfl, ?_⟩
    exact (Below.refl _ _).alloc (Nat.le_refl _) _
theorem rone_sign (s : ByteArray) (k : Nat) (w : World) (hk : k < s.size) (hm : s.size ≤ 140737488351232) (g1 : (s[k].toNat == 32) = false) (g2 : (s[k].toNat == 9) = false)
    (h : (s[k].toNat == 40) = true ∨ (s[k].toNat == 40) = false ∧ ((s[k].toNat == 41) = true ∨ (s[k].toNat == 41) = false ∧ ((s[k].toNat == 44) = true ∨ (s[k].toNat == 44) = false ∧ ((s[k].toNat == 46) = true ∨ (s[k].toNat == 46) = false ∧ (s[k].toNat == 60) = true)))) : OneAns 56 s k w 4 k (k + 1) 0 := by
  have hc : s[k].toNat = 40 ∨ s[k].toNat = 41 ∨ s[k].toNat = 44 ∨ s[k].toNat = 46 ∨ s[k].toNat = 60 := by simp only [beq_iff_eq] at h; omega
  have h0 : sigM s k 0 = false := sig0_no s k hk (.inl (by rw [beq_eq_false_iff_ne]; omega))
  have h1 : sigM s k 1 = false := sig1_no s k hk (.inl (by rw [beq_eq_false_iff_ne]; omega))
  refine rone_signs s k 1 w hk hm g1 g2 (sig_one s k h0 h1) ?_
  rcases hc with h | h | h | h | h
  · exact ⟨2, by decide, by rw [sig2_eq s k hk, beq_iff_eq]; exact h⟩
  · exact ⟨3, by decide, by rw [sig3_eq s k hk, beq_iff_eq]; exact h⟩
  · exact ⟨4, by decide, by rw [sig4_eq s k hk, beq_iff_eq]; exact h⟩
  · exact ⟨5, by decide, by rw [sig5_eq s k hk, beq_iff_eq]; exact h⟩
  · exact ⟨6, by decide, by rw [sig6_eq s k hk, beq_iff_eq]; exact h⟩

theorem rone_colon_yes (s : ByteArray) (k : Nat) (w : World) (hk : k < s.size) (hm : s.size ≤ 140737488351232) (g1 : (s[k].toNat == 32) = false) (g2 : (s[k].toNat == 9) = false) (g3 : (s[k].toNat == 40) = false) (g4 : (s[k].toNat == 41) = false) (g5 : (s[k].toNat == 44) = false) (g6 : (s[k].toNat == 46) = false) (g7 : (s[k].toNat == 60) = false)  (g : (s[k].toNat == 58) = true) (hk1 : k + 1 < s.size) (hn : (s[k + 1].toNat == 45) = true) : OneAns 56 s k w 4 k (k + 2 : Nat) 0 :=
  rone_signs s k 2 w hk hm g1 g2 (sig_two s k hk g3 g4 g5 g6 g7) ⟨0, by decide, sig0_yes s k hk1 g hn⟩
theorem rone_colon_no (s : ByteArray) (k : Nat) (w : World) (hk : k < s.size) (hm : s.size ≤ 140737488351232) (g1 : (s[k].toNat == 32) = false) (g2 : (s[k].toNat == 9) = false) (g3 : (s[k].toNat == 40) = false) (g4 : (s[k].toNat == 41) = false) (g5 : (s[k].toNat == 44) = false) (g6 : (s[k].toNat == 46) = false) (g7 : (s[k].toNat == 60) = false)  (g : (s[k].toNat == 58) = true) (h : ¬ k + 1 < s.size ∨ ∃ hk1 : k + 1 < s.size, (s[k + 1].toNat == 45) = false) : OneAns 56 s k w 0 0 0 5 := by
  have hi := sig0_no s k hk (.inr h)
  have ho := sig1_no s k hk (.inl (ne_const _ 58 33 g (by decide)))
  exact rone_rest_no s k k k 0 w hk hm (run_nowin s k hk (win_const _ 58 g (by decide))) rfl (kindR_nil s k) (.inr (.inl ⟨rfl, ne_const _ 58 45 g (by decide)⟩)) g1 g2 (sig_none s k hk g3 g4 g5 g6 g7 hi ho)

theorem rone_bang_yes (s : ByteArray) (k : Nat) (w : World) (hk : k < s.size) (hm : s.size ≤ 140737488351232) (g1 : (s[k].toNat == 32) = false) (g2 : (s[k].toNat == 9) = false) (g3 : (s[k].toNat == 40) = false) (g4 : (s[k].toNat == 41) = false) (g5 : (s[k].toNat == 44) = false) (g6 : (s[k].toNat == 46) = false) (g7 : (s[k].toNat == 60) = false) (_g8 : (s[k].toNat == 58) = false) (g : (s[k].toNat == 33) = true) (hk1 : k + 1 < s.size) (hn : (s[k + 1].toNat == 61) = true) : OneAns 56 s k w 4 k (k + 2 : Nat) 0 :=
  rone_signs s k 2 w hk hm g1 g2 (sig_two s k hk g3 g4 g5 g6 g7) ⟨1, by decide, sig1_yes s k hk1 g hn⟩
theorem rone_bang_no (s : ByteArray) (k : Nat) (w : World) (hk : k < s.size) (hm : s.size ≤ 140737488351232) (g1 : (s[k].toNat == 32) = false) (g2 : (s[k].toNat == 9) = false) (g3 : (s[k].toNat == 40) = false) (g4 : (s[k].toNat == 41) = false) (g5 : (s[k].toNat == 44) = false) (g6 : (s[k].toNat == 46) = false) (g7 : (s[k].toNat == 60) = false) (_g8 : (s[k].toNat == 58) = false) (g : (s[k].toNat == 33) = true) (h : ¬ k + 1 < s.size ∨ ∃ hk1 : k + 1 < s.size, (s[k + 1].toNat == 61) = false) : OneAns 56 s k w 0 0 0 5 := by
  have hi := sig1_no s k hk (.inr h)
  have ho := sig0_no s k hk (.inl (ne_const _ 33 58 g (by decide)))
  exact rone_rest_no s k k k 0 w hk hm (run_nowin s k hk (win_const _ 33 g (by decide))) rfl (kindR_nil s k) (.inr (.inl ⟨rfl, ne_const _ 33 45 g (by decide)⟩)) g1 g2 (sig_none s k hk g3 g4 g5 g6 g7 ho hi)

theorem rone_minus_no (s : ByteArray) (k : Nat) (w : World) (hk : k < s.size) (hm : s.size ≤ 140737488351232) (g1 : (s[k].toNat == 32) = false) (g2 : (s[k].toNat == 9) = false) (g3 : (s[k].toNat == 40) = false) (g4 : (s[k].toNat == 41) = false) (g5 : (s[k].toNat == 44) = false) (g6 : (s[k].toNat == 46) = false) (g7 : (s[k].toNat == 60) = false) (g8 : (s[k].toNat == 58) = false) (g9 : (s[k].toNat == 33) = false) (g : (s[k].toNat == 45) = true) (h : ¬ k + 1 < s.size ∨ ∃ hk1 : k + 1 < s.size, digB (s[k + 1].toNat : Int) = false) : OneAns 56 s k w 0 0 0 5 := by
  refine rone_rest_no s k k k 0 w hk hm (run_nowin s k hk (win_const _ 45 g (by decide))) rfl (kindR_nil s k) ?_ g1 g2 (sig_none s k hk g3 g4 g5 g6 g7 (sig0_no s k hk (.inl g8)) (sig1_no s k hk (.inl g9)))
  rcases h with h | ⟨hk1, h⟩
  · exact .inr (.inr (.inl ⟨rfl, g, h⟩))
  · simp only [digB, Bool.and_eq_false_iff, decide_eq_false_iff_not] at h
    by_cases h48 : (s[k + 1].toNat : Int) < 48
    · exact .inr (.inr (.inr (.inl ⟨rfl, g, hk1, h48⟩)))
    · exact .inr (.inr (.inr (.inr ⟨rfl, g, hk1, by omega, by rw [decide_eq_false_iff_not]; omega⟩)))
theorem rone_other (s : ByteArray) (k : Nat) (w : World) (hk : k < s.size) (hm : s.size ≤ 140737488351232) (g1 : (s[k].toNat == 32) = false) (g2 : (s[k].toNat == 9) = false) (g3 : (s[k].toNat == 40) = false) (g4 : (s[k].toNat == 41) = false) (g5 : (s[k].toNat == 44) = false) (g6 : (s[k].toNat == 46) = false) (g7 : (s[k].toNat == 60) = false) (g8 : (s[k].toNat == 58) = false) (g9 : (s[k].toNat == 33) = false) (g : (s[k].toNat == 45) = false) (h : winB (s[k].toNat : Int) = false) : OneAns 56 s k w 0 0 0 5 :=
  rone_rest_no s k k k 0 w hk hm (run_nowin s k hk h) rfl (kindR_nil s k) (.inr (.inl ⟨rfl, g⟩)) g1 g2 (sig_none s k hk g3 g4 g5 g6 g7 (sig0_no s k hk (.inl g8)) (sig1_no s k hk (.inl g9)))
theorem rmode_of (s : ByteArray) (k stop : Nat) (hk : k < s.size) (hs : k + 1 + runL (s.data.toList.drop (k + 1)) = stop)
    (h : ((s[k].toNat == 45) = true ∧ ∃ h : k + 1 < s.size, digB (s[k + 1].toNat : Int) = true) ∨ ((s[k].toNat == 45) = false ∧ winB (s[k].toNat : Int) = true)) : ∃ j0, j0 + runL (s.data.toList.drop j0) = stop ∧ RMode s k j0 hk := by
  rcases h with ⟨g, hk1, hd⟩ | ⟨g, hw⟩
  · simp only [digB, Bool.and_eq_true, decide_eq_true_eq] at hd
    exact ⟨k + 1, hs, .inl ⟨rfl, g, hk1, hd⟩⟩
  · refine ⟨k, ?_, .inr (.inl ⟨rfl, g⟩)⟩
    rw [drop_at s k hk, runL, if_pos hw]; omega
theorem rone_piece_yes (s : ByteArray) (k stop : Nat) (kd : Int) (w : World) (hk : k < s.size) (hm : s.size ≤ 140737488351232) (hs : k + 1 + runL (s.data.toList.drop (k + 1)) = stop) (hq : (kd != 0) = true) (hc : KindR 91 s k stop kd)
    (hmode : ((s[k].toNat == 45) = true ∧ ∃ h : k + 1 < s.size, digB (s[k + 1].toNat : Int) = true) ∨ ((s[k].toNat == 45) = false ∧ winB (s[k].toNat : Int) = true)) (g1 : (s[k].toNat == 32) = false) (g2 : (s[k].toNat == 9) = false) (g3 : (s[k].toNat == 40) = false) (g4 : (s[k].toNat == 41) = false) (g5 : (s[k].toNat == 44) = false) (g6 : (s[k].toNat == 46) = false) (g7 : (s[k].toNat == 60) = false) (g8 : (s[k].toNat == 58) = false) (g9 : (s[k].toNat == 33) = false) : OneAns 56 s k w kd k stop 0 := by
  obtain ⟨j0, hj, hr⟩ := rmode_of s k stop hk hs hmode
  exact rone_rest_yes s k j0 stop kd w hk hm hj (by simpa using hq) hc hr g1 g2 (sig_none s k hk g3 g4 g5 g6 g7 (sig0_no s k hk (.inl g8)) (sig1_no s k hk (.inl g9)))
theorem rone_piece_no (s : ByteArray) (k stop : Nat) (kd : Int) (w : World) (hk : k < s.size) (hm : s.size ≤ 140737488351232) (hs : k + 1 + runL (s.data.toList.drop (k + 1)) = stop) (hq : (kd != 0) = false) (hc : KindR 91 s k stop kd)
    (hmode : ((s[k].toNat == 45) = true ∧ ∃ h : k + 1 < s.size, digB (s[k + 1].toNat : Int) = true) ∨ ((s[k].toNat == 45) = false ∧ winB (s[k].toNat : Int) = true)) (g1 : (s[k].toNat == 32) = false) (g2 : (s[k].toNat == 9) = false) (g3 : (s[k].toNat == 40) = false) (g4 : (s[k].toNat == 41) = false) (g5 : (s[k].toNat == 44) = false) (g6 : (s[k].toNat == 46) = false) (g7 : (s[k].toNat == 60) = false) (g8 : (s[k].toNat == 58) = false) (g9 : (s[k].toNat == 33) = false) : OneAns 56 s k w 0 0 0 5 := by
  obtain ⟨j0, hj, hr⟩ := rmode_of s k stop hk hs hmode
  exact rone_rest_no s k j0 stop kd w hk hm hj (by simpa using hq) hc hr g1 g2 (sig_none s k hk g3 g4 g5 g6 g7 (sig0_no s k hk (.inl g8)) (sig1_no s k hk (.inl g9)))
end Go.Proofs.YtfmkfabbiifolaaGreatDoor

/-
  Contract: the reference's One, whole.
-/
namespace Go.Proofs.YtfmkfabbiifolaaGreatDoor
open Go.RowKit

set_option maxHeartbeats 1000000 in
theorem refone_any (s : ByteArray) (a : Int) (w : World) (hm : s.size ≤ 140737488351232) : Calls Tryz.prog 56 #[.string s, .int .i64 a] w fun e w' => e = .returned (oneV s.data.toList a) ∧ Below w.heap.size w w' := by
  by_cases ho : a < 0 ∨ (¬ a < 0 ∧ (s.size : Int) ≤ a)
  · rw [oneV_out s a (by omega)]; exact rone_out s a w hm ho
  obtain ⟨k, rfl⟩ := Int.eq_ofNat_of_zero_le (show 0 ≤ a by omega)
  have hk : k < s.size := by omega
  by_cases hb : (s[k].toNat == 32 || s[k].toNat == 9) = true
  · rw [oneV_in s k hk _ (oneL_blank _ _ hb)]
    refine rone_blank s k w hk hm ?_
    cases h1 : (s[k].toNat == 32) with
    | true => exact .inl rfl
    | false => rw [h1] at hb; exact .inr ⟨rfl, hb⟩
  have hb' : (s[k].toNat == 32 || s[k].toNat == 9) = false := by simpa using hb
  have g1 : (s[k].toNat == 32) = false := by rw [Bool.or_eq_false_iff] at hb'; exact hb'.1
  have g2 : (s[k].toNat == 9) = false := by rw [Bool.or_eq_false_iff] at hb'; exact hb'.2
  by_cases hs : (s[k].toNat == 40 || s[k].toNat == 41 || s[k].toNat == 44 || s[k].toNat == 46 || s[k].toNat == 60) = true
  · rw [oneV_in s k hk _ (oneL_sign _ _ hb' hs)]
    refine rone_sign s k w hk hm g1 g2 ?_
    cases h1 : (s[k].toNat == 40) <;> cases h2 : (s[k].toNat == 41) <;> cases h3 : (s[k].toNat == 44) <;> cases h4 : (s[k].toNat == 46) <;> cases h5 : (s[k].toNat == 60) <;> simp_all
  have hs' : (s[k].toNat == 40 || s[k].toNat == 41 || s[k].toNat == 44 || s[k].toNat == 46 || s[k].toNat == 60) = false := by simpa using hs
  obtain ⟨g3, g4, g5, g6, g7⟩ : (s[k].toNat == 40) = false ∧ (s[k].toNat == 41) = false ∧ (s[k].toNat == 44) = false ∧ (s[k].toNat == 46) = false ∧ (s[k].toNat == 60) = false := by
    simp only [Bool.or_eq_false_iff] at hs'; exact ⟨hs'.1.1.1.1, hs'.1.1.1.2, hs'.1.1.2, hs'.1.2, hs'.2⟩
  by_cases h8 : (s[k].toNat == 58) = true
  · by_cases hn : ((s.data.toList.drop (k + 1)).headD 0).toNat == 45
    · obtain ⟨hk1, he1⟩ := next_is s k 45 (by decide) hn
      rw [oneV_in s k hk _ (oneL_colon _ _ hb' hs' h8 hn)]
      exact rone_colon_yes s k w hk hm g1 g2 g3 g4 g5 g6 g7 h8 hk1 he1
    · have hn : (((s.data.toList.drop (k + 1)).headD 0).toNat == 45) = false := by simpa using hn
      rw [oneV_in s k hk _ (oneL_colon_no _ _ hb' hs' h8 hn)]
      exact rone_colon_no s k w hk hm g1 g2 g3 g4 g5 g6 g7 h8 (next_not s k 45 hn)
  have h8 : (s[k].toNat == 58) = false := by simpa using h8
  by_cases h9 : (s[k].toNat == 33) = true
  · by_cases hn : ((s.data.toList.drop (k + 1)).headD 0).toNat == 61
    · obtain ⟨hk1, he1⟩ := next_is s k 61 (by decide) hn
      rw [oneV_in s k hk _ (oneL_bang _ _ hb' hs' h8 h9 hn)]
      exact rone_bang_yes s k w hk hm g1 g2 g3 g4 g5 g6 g7 h8 h9 hk1 he1
    · have hn : (((s.data.toList.drop (k + 1)).headD 0).toNat == 61) = false := by simpa using hn
      rw [oneV_in s k hk _ (oneL_bang_no _ _ hb' hs' h8 h9 hn)]
      exact rone_bang_no s k w hk hm g1 g2 g3 g4 g5 g6 g7 h8 h9 (next_not s k 61 hn)
  have h9 : (s[k].toNat == 33) = false := by simpa using h9
  have hst : 1 + runL (s.data.toList.drop (k + 1)) = k + 1 + runL (s.data.toList.drop (k + 1)) - k := by omega
  have hkd : kindL ((s[k] :: s.data.toList.drop (k + 1)).take (1 + runL (s.data.toList.drop (k + 1)))) = kindL (s.extract k (k + 1 + runL (s.data.toList.drop (k + 1)))).data.toList := by
    rw [hst, ← drop_at s k hk, extract_list]
  have hsz : (s.extract k (k + 1 + runL (s.data.toList.drop (k + 1)))).size ≤ 140737488351232 := by rw [ByteArray.size_extract]; omega
  have hpo : 0 < (s.extract k (k + 1 + runL (s.data.toList.drop (k + 1)))).size := by
    have := runL_le (s.data.toList.drop (k + 1))
    simp at this
    rw [ByteArray.size_extract]; omega
  by_cases hp : ((s[k].toNat == 45) = true ∧ digB ((s.data.toList.drop (k + 1)).headD 0).toNat = true) ∨ ((s[k].toNat == 45) = false ∧ winB (s[k].toNat : Int) = true)
  · have hl := oneL_piece _ _ hb' hs' h8 h9 hp
    have hmode : ((s[k].toNat == 45) = true ∧ ∃ h : k + 1 < s.size, digB (s[k + 1].toNat : Int) = true) ∨ ((s[k].toNat == 45) = false ∧ winB (s[k].toNat : Int) = true) := by
      rcases hp with ⟨h1, h2⟩ | h
      · exact .inl ⟨h1, next_dig s k h2⟩
      · exact .inr h
    by_cases hz : kindL (s.extract k (k + 1 + runL (s.data.toList.drop (k + 1)))).data.toList = 0
    · rw [oneV_in s k hk ⟨5, 0, 0⟩ (by rw [hl, pieceL, if_pos (by rw [hkd]; exact hz)])]
      exact rone_piece_no s k _ _ w  hk hm rfl (by rw [hz]; rfl) (fun wx => refkind_any _ wx hsz) hmode g1 g2 g3 g4 g5 g6 g7 h8 h9
    · rw [oneV_in s k hk ⟨0, kindL (s.extract k (k + 1 + runL (s.data.toList.drop (k + 1)))).data.toList, 1 + runL (s.data.toList.drop (k + 1))⟩ (by rw [hl, pieceL, if_neg (by rw [hkd]; exact hz), hkd])]
      have hto : ((k : Int) + ((1 + runL (s.data.toList.drop (k + 1)) : Nat) : Int)) = ((k + 1 + runL (s.data.toList.drop (k + 1)) : Nat) : Int) := by omega
      unfold ansV
      simp only [if_true, hto]
      exact rone_piece_yes s k _ _ w  hk hm rfl (by simpa using hz) (fun wx => refkind_any _ wx hsz) hmode g1 g2 g3 g4 g5 g6 g7 h8 h9
  · rw [oneV_in s k hk ⟨5, 0, 0⟩ (oneL_none _ _ hb' hs' h8 h9 hp)]
    cases h10 : (s[k].toNat == 45) with
    | true =>
      have hd : digB ((s.data.toList.drop (k + 1)).headD 0).toNat = false := by
        cases h : digB ((s.data.toList.drop (k + 1)).headD 0).toNat with
        | false => rfl
        | true => exact absurd (.inl ⟨h10, h⟩) hp
      exact rone_minus_no s k w hk hm g1 g2 g3 g4 g5 g6 g7 h8 h9 h10 (next_nodig s k hd)
    | false =>
      have hd : winB (s[k].toNat : Int) = false := by
        cases h : winB (s[k].toNat : Int) with
        | false => rfl
        | true => exact absurd (.inr ⟨h10, h⟩) hp
      exact rone_other s k w hk hm g1 g2 g3 g4 g5 g6 g7 h8 h9 h10 hd
end Go.Proofs.YtfmkfabbiifolaaGreatDoor

/-
  Contract: the reference's All, whole.
-/
namespace Go.Proofs.YtfmkfabbiifolaaGreatDoor
open Go.RowKit

set_option maxHeartbeats 4000000 in
set_option maxRecDepth 100000 in
theorem refall_any (s : ByteArray) (w : World) (hm : s.size ≤ 140737488351232) : Calls Tryz.prog 20 #[.string s] w (AllPost s w) := by
  by_cases hl : 4096 < s.size
  · have HL := Lib.hid (allL_long s.data.toList (by simpa using hl))
    go_enter Tryz.func20, Tryz.ntmps20
    go_wp2_with fail
    go_ret3
    exact ⟨_, by rw [HL.out]; rfl, by rw [HL.out]; exact tokrow_nil w, Below.refl _ _⟩
  · have HL := Lib.hid (allL_short s.data.toList (by simpa using hl))
    obtain ⟨i0, hi, hz0, hz1, hz2⟩ := info_parts info32
    
    
    go_enter Tryz.func20, Tryz.ntmps20
    go_wp2_with fail
    go_loopw [5, 6] (fun v i wr => ∃ (k : Nat) (acc : List Tok), i = .int .i64 k ∧ k ≤ s.size ∧ Hid (Rest s.data.toList k acc) ∧ Hid (wr.ownsRow w.heap.size 86 3 v acc.length (flatT acc)) ∧ Below w.heap.size w wr) (fun _ i _ => s.size - (intOf i).toNat)
    case atStart => exact ⟨0, [], rfl, Nat.zero_le _, Lib.hid (rest_start _), Lib.hid (World.ownsRow_nil _ _ _ _), Below.refl _ _⟩
    case round =>
      obtain ⟨k, acc, rfl, hk, HR, HO, hb⟩ := hrel
      have HB := Lib.hid hb
      clear hb
      by_cases hlt : k < s.size
      · have hlen : k < s.data.toList.length := by simpa using hlt
        have hbd := oneL_bd (s.data.toList.drop k) (by simp; omega)
        have hc := fun wx => refone_any s k wx hm 
        simp only [oneA_at s k hlt] at hc
        by_cases h4 : (oneL (s.data.toList.drop k)).err = 4
        · have HN := Lib.hid (rest_blank _ k acc HR.out hlen h4)
          have hk0 := hbd.2.2 (by rw [h4]; decide)
          unfold ansV at hc
          simp only [h4, hk0, show ¬ ((4 : Int) = 0) by decide, if_false] at hc
          have HC := Lib.hid hc
          clear hc hbd h4 hk0
          go_wp2_with fail
          refine (HC.out _ ).mono ?_
          rintro e w1 ⟨rfl, hb1⟩
          have HO1 := Lib.hid ((own_below HO.out hb1).alloc (.cells #[.int .u8 0, .int .i64 0, .int .i64 0] 86))
          have HB1 := Lib.hid ((HB.out.trans (hb1.mono HB.out.size)).alloc (HB.out.trans (hb1.mono HB.out.size)).size (.cells #[.int .u8 0, .int .i64 0, .int .i64 0] 86))
          clear hb1
          go_wp2_with fail
          go_roundw
          case rel => exact ⟨k + 1, acc, by go_num, by omega, HN, HO1, HB1.out⟩
          case measure => simp [intOf]; omega
        · by_cases h0 : (oneL (s.data.toList.drop k)).err = 0
          · obtain ⟨hrest, hp, hle⟩ := rest_tok _ k acc HR.out hlen h0
            have HN := Lib.hid hrest
            unfold ansV at hc
            simp only [h0, if_true] at hc
            have hto : ((k : Int) + (((oneL (s.data.toList.drop k)).len : Nat) : Int)) = ((k + (oneL (s.data.toList.drop k)).len : Nat) : Int) := by omega
            rw [hto] at hc
            have HC := Lib.hid hc
            have hal := rest_len _ _ _ HR.out
            have hle' : k + (oneL (s.data.toList.drop k)).len ≤ s.size := by simpa using hle
            have hkm : k < k + (oneL (s.data.toList.drop k)).len := by omega
            clear hc hbd h4 h0 hto hrest hp hle
            generalize (oneL (s.data.toList.drop k)).kind = K at *
            generalize k + (oneL (s.data.toList.drop k)).len = m at *
            go_wp2_with fail
            refine (HC.out _ ).mono ?_
            rintro e w1 ⟨rfl, hb1⟩
            have HLT := Lib.hid (own_below HO.out hb1).lt
            have HO1 := Lib.hid (((own_below HO.out hb1).alloc (.cells #[.int .u8 K, .int .i64 k, .int .i64 m] 86)).alloc (.cells #[.int .u8 K, .int .i64 k, .int .i64 m] 86))
            have hB1 := HB.out.trans (hb1.mono HB.out.size)
            have HB1 := Lib.hid ((hB1.alloc hB1.size (.cells #[.int .u8 K, .int .i64 k, .int .i64 m] 86)).alloc (by have := hB1.size; simp; omega) (.cells #[.int .u8 K, .int .i64 k, .int .i64 m] 86))
            have h63 : acc.length + 1 ≤ maxLen := by unfold maxLen; omega
            have h64 : (acc.length + 1) * 24 ≤ 140737488355328 := by omega
            have h65 := HB1.out.size
            have hnw : ∀ j u, ([.int .u8 K, .int .i64 k, .int .i64 m] : List Value)[j]? = some u → ((w1.alloc (.cells #[.int .u8 K, .int .i64 k, .int .i64 m] 86)).alloc (.cells #[.int .u8 K, .int .i64 k, .int .i64 m] 86)).cell? ((⟨w1.heap.size + 1, 0, none⟩ : Addr).add j) = some u :=
              World.news_of_block (cs := #[.int .u8 K, .int .i64 k, .int .i64 m]) (t := 86) (fr := (0, 0)) (by have := (MapKept.heap_alloc (w1.alloc (.cells #[.int .u8 K, .int .i64 k, .int .i64 m] 86)) (.cells #[.int .u8 K, .int .i64 k, .int .i64 m] 86)).1; simpa using this)
            have h1c : ∀ u ∈ ([.int .u8 K, .int .i64 k, .int .i64 m] : List Value), u.oneCell' = true := by intro u hu; simp at hu; rcases hu with rfl | rfl | rfl <;> rfl
            have HNW := Lib.hid hnw
            clear hnw
            clear hb1 hB1
            go_wp2_with (at_builtin; refine wpList_append_own _ rfl _ _ 50 rfl w.heap.size 86 i0 (.agg #[.int .u8 0, .int .i64 0, .int .i64 0]) 3 24 Tryz.underlying50 hi hz0 hz1 hz2 rfl (by decide) _ _ _ rfl HO1.out ⟨w1.heap.size + 1, 0, none⟩ 1 1 [.int .u8 K, .int .i64 k, .int .i64 m] rfl rfl HNW.out h1c h63 h64 h65 ?_; intro v' w2 hown' hgrow _; have x2 := far_to hgrow HLT.out; have HG := Lib.hid hgrow; have HOW := Lib.hid hown'; clear hgrow hown')
            have HB2 := Lib.hid (HB1.out.grown HG.out h65 (fun x hx => (HLT.out x hx).1))
            go_wp2_with fail
            go_roundw
            case rel => exact ⟨m, acc ++ [⟨K, k, m⟩], rfl, hle', HN, Lib.hid (by rw [List.length_append, flatT_snoc]; exact HOW.out), HB2.out⟩
            case measure => simp [intOf]; omega
          · have HF := Lib.hid (rest_err _ k acc HR.out hlen h0 h4)
            have h5 : (oneL (s.data.toList.drop k)).err = 5 := by rcases hbd.2.1 with h | h | h; exact absurd h h0; exact absurd h h4; exact h
            have hk0 := hbd.2.2 h0
            unfold ansV at hc
            simp only [h5, hk0, show ¬ ((5 : Int) = 0) by decide, if_false] at hc
            rw [h5] at HF
            have HC := Lib.hid hc
            clear hc hbd h4 h0 hk0 h5
            go_wp2_with fail
            refine (HC.out _ ).mono ?_
            rintro e w1 ⟨rfl, hb1⟩
            have hB1 := HB.out.trans (hb1.mono HB.out.size)
            have HB1 := Lib.hid (hB1.alloc hB1.size (.cells #[.int .u8 0, .int .i64 0, .int .i64 0] 86))
            clear hb1 hB1
            go_wp2_with fail
            go_ret3
            exact ⟨_, by rw [HL.out, HF.out]; rfl, by rw [HL.out, HF.out]; exact tokrow_nil _, HB1.out⟩
      · have HF := Lib.hid (rest_end _ k acc HR.out (by simpa using hlt))
        go_wp2_with fail
        go_ret3
        exact ⟨_, by rw [HL.out, HF.out]; rfl, by rw [HL.out, HF.out]; exact own_toks HO.out, HB.out⟩
end Go.Proofs.YtfmkfabbiifolaaGreatDoor
