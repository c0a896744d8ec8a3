/-
  Contract: the reference's One, by the byte that stands there.
-/
import Derived.Test.YtpkccmceobonnaaDoorRone2
namespace Go.Proofs.YtpkccmceobonnaaDoor
open Go.RowKit

theorem ex1 (s : ByteArray) (k : Nat) (hk : k < s.size) : (s.extract k (k + 1)).toList = [s[k]] := by
  rw [ByteArray.toList_eq, extract_list, drop_at s k hk, show k + 1 - k = 1 by omega]; rfl
theorem ex2 (s : ByteArray) (k : Nat) (hk : k + 1 < s.size) : (s.extract k (k + 2)).toList = [s[k], s[k + 1]] := by
  rw [ByteArray.toList_eq, extract_list, drop_at s k (by omega), drop_at s (k + 1) hk, show k + 2 - k = 2 by omega]; rfl
theorem byte_beq (c : UInt8) (d : UInt8) : (c == d) = (c.toNat == d.toNat) := by
  by_cases h : c = d
  · subst h; simp
  · rw [beq_eq_false_iff_ne.2 h, eq_comm, beq_eq_false_iff_ne]; exact fun e => h (UInt8.toNat_inj.1 e)
theorem one_beq (c d : UInt8) : ([c] == [d]) = (c.toNat == d.toNat) := by rw [← byte_beq]; simp
theorem two_beq (a b c d : UInt8) : ([a, b] == [c, d]) = (a.toNat == c.toNat && b.toNat == d.toNat) := by rw [← byte_beq, ← byte_beq]; simp
theorem sig2_eq (s : ByteArray) (k : Nat) (hk : k < s.size) : sigM s k 2 = (s[k].toNat == 40) := by
  show ((s.extract k (k + 1)).toList == [40]) = _
  rw [ex1 s k hk, one_beq]; rfl
theorem sig3_eq (s : ByteArray) (k : Nat) (hk : k < s.size) : sigM s k 3 = (s[k].toNat == 41) := by
  show ((s.extract k (k + 1)).toList == [41]) = _
  rw [ex1 s k hk, one_beq]; rfl
theorem sig4_eq (s : ByteArray) (k : Nat) (hk : k < s.size) : sigM s k 4 = (s[k].toNat == 44) := by
  show ((s.extract k (k + 1)).toList == [44]) = _
  rw [ex1 s k hk, one_beq]; rfl
theorem sig5_eq (s : ByteArray) (k : Nat) (hk : k < s.size) : sigM s k 5 = (s[k].toNat == 46) := by
  show ((s.extract k (k + 1)).toList == [46]) = _
  rw [ex1 s k hk, one_beq]; rfl
theorem sig6_eq (s : ByteArray) (k : Nat) (hk : k < s.size) : sigM s k 6 = (s[k].toNat == 60) := by
  show ((s.extract k (k + 1)).toList == [60]) = _
  rw [ex1 s k hk, one_beq]; rfl
theorem sig0_no (s : ByteArray) (k : Nat) (hk : k < s.size) (h : (s[k].toNat == 58) = false ∨ ¬ k + 1 < s.size ∨ ∃ h1 : k + 1 < s.size, (s[k + 1].toNat == 45) = false) : sigM s k 0 = false := by
  show (decide (k + 2 ≤ s.size) && ((s.extract k (k + 2)).toList == [58, 45])) = false
  by_cases h1 : k + 1 < s.size
  · rw [ex2 s k h1, two_beq]
    rcases h with h | h | ⟨_, h⟩
    · rw [show ((s[k].toNat == (58 : UInt8).toNat)) = false from h]; simp
    · exact absurd h1 h
    · rw [show ((s[k + 1].toNat == (45 : UInt8).toNat)) = false from h]; simp
  · have : ¬ k + 2 ≤ s.size := by omega
    simp [this]
theorem sig0_yes (s : ByteArray) (k : Nat) (hk : k + 1 < s.size) (h : (s[k].toNat == 58) = true) (h2 : (s[k + 1].toNat == 45) = true) : sigM s k 0 = true := by
  show (decide (k + 2 ≤ s.size) && ((s.extract k (k + 2)).toList == [58, 45])) = true
  rw [ex2 s k hk, two_beq, show ((s[k].toNat == (58 : UInt8).toNat)) = true from h, show ((s[k + 1].toNat == (45 : UInt8).toNat)) = true from h2]
  simp; omega
theorem sig1_no (s : ByteArray) (k : Nat) (hk : k < s.size) (h : (s[k].toNat == 33) = false ∨ ¬ k + 1 < s.size ∨ ∃ h1 : k + 1 < s.size, (s[k + 1].toNat == 61) = false) : sigM s k 1 = false := by
  show (decide (k + 2 ≤ s.size) && ((s.extract k (k + 2)).toList == [33, 61])) = false
  by_cases h1 : k + 1 < s.size
  · rw [ex2 s k h1, two_beq]
    rcases h with h | h | ⟨_, h⟩
    · rw [show ((s[k].toNat == (33 : UInt8).toNat)) = false from h]; simp
    · exact absurd h1 h
    · rw [show ((s[k + 1].toNat == (61 : UInt8).toNat)) = false from h]; simp
  · have : ¬ k + 2 ≤ s.size := by omega
    simp [this]
theorem sig1_yes (s : ByteArray) (k : Nat) (hk : k + 1 < s.size) (h : (s[k].toNat == 33) = true) (h2 : (s[k + 1].toNat == 61) = true) : sigM s k 1 = true := by
  show (decide (k + 2 ≤ s.size) && ((s.extract k (k + 2)).toList == [33, 61])) = true
  rw [ex2 s k hk, two_beq, show ((s[k].toNat == (33 : UInt8).toNat)) = true from h, show ((s[k + 1].toNat == (61 : UInt8).toNat)) = true from h2]
  simp; omega
theorem sig_none (s : ByteArray) (k : Nat) (hk : k < s.size) (g3 : (s[k].toNat == 40) = false) (g4 : (s[k].toNat == 41) = false) (g5 : (s[k].toNat == 44) = false) (g6 : (s[k].toNat == 46) = false) (g7 : (s[k].toNat == 60) = false)
    (h0 : sigM s k 0 = false) (h1 : sigM s k 1 = false) : ∀ j, j < 7 → sigM s k j = false := by
  intro j hj
  match j, hj with
  | 0, _ => exact h0
  | 1, _ => exact h1
  | 2, _ => rw [sig2_eq s k hk]; exact g3
  | 3, _ => rw [sig3_eq s k hk]; exact g4
  | 4, _ => rw [sig4_eq s k hk]; exact g5
  | 5, _ => rw [sig5_eq s k hk]; exact g6
  | 6, _ => rw [sig6_eq s k hk]; exact g7
theorem sig_one (s : ByteArray) (k : Nat) (h0 : sigM s k 0 = false) (h1 : sigM s k 1 = false) : ∀ j, j < 7 → sigM s k j = true → (∀ x, x < j → sigM s k x = false) → sigN j = 1 := by
  intro j hj h _
  match j, hj with
  | 0, _ => rw [h0] at h; cases h
  | 1, _ => rw [h1] at h; cases h
  | 2, _ => rfl
  | 3, _ => rfl
  | 4, _ => rfl
  | 5, _ => rfl
  | 6, _ => rfl
theorem sig_two (s : ByteArray) (k : Nat) (hk : k < s.size) (g3 : (s[k].toNat == 40) = false) (g4 : (s[k].toNat == 41) = false) (g5 : (s[k].toNat == 44) = false) (g6 : (s[k].toNat == 46) = false) (g7 : (s[k].toNat == 60) = false) : ∀ j, j < 7 → sigM s k j = true → (∀ x, x < j → sigM s k x = false) → sigN j = 2 := by
  intro j hj h _
  match j, hj with
  | 0, _ => rfl
  | 1, _ => rfl
  | 2, _ => rw [sig2_eq s k hk, g3] at h; cases h
  | 3, _ => rw [sig3_eq s k hk, g4] at h; cases h
  | 4, _ => rw [sig4_eq s k hk, g5] at h; cases h
  | 5, _ => rw [sig5_eq s k hk, g6] at h; cases h
  | 6, _ => rw [sig6_eq s k hk, g7] at h; cases h
theorem readN_nil : readN ⟨#[]⟩ = none := readN_none _ fun m a b h => by
  exact absurd (shape _ m a b h).1 (Nat.not_lt_zero _)
theorem kindL_nil : kindL [] = 0 := by
  unfold kindL
  rw [if_neg (by decide), if_neg (by decide), if_neg (by decide), show (⟨([] : List UInt8).toArray⟩ : ByteArray) = ⟨#[]⟩ from rfl, readN_nil]
  rfl
theorem kindR_nil (s : ByteArray) (k : Nat) : KindR 19 s k k 0 := fun wx => by
  have h := refkind_any (s.extract k k) wx (by rw [ByteArray.size_extract]; omega)
  rw [extract_list, Nat.sub_self, List.take_zero, kindL_nil] at h
  exact h
theorem run_nowin (s : ByteArray) (k : Nat) (hk : k < s.size) (h : winB (s[k].toNat : Int) = false) : k + runL (s.data.toList.drop k) = k := by
  rw [drop_at s k hk, runL, if_neg (by rw [h]; decide)]; omega
theorem win_const (c n : Nat) (h : (c == n) = true) (hn : winB (n : Int) = false) : winB (c : Int) = false := by
  rw [beq_iff_eq] at h; subst h; exact hn
theorem ne_const (c n m : Nat) (h : (c == n) = true) (hn : n ≠ m) : (c == m) = false := by
  rw [beq_iff_eq] at h; subst h; rw [beq_eq_false_iff_ne]; exact hn

set_option maxHeartbeats 1000000 in
theorem rone_out (s : ByteArray) (a : Int) (w : World) (_hm : s.size ≤ 140737488351232) (h : a < 0 ∨ (¬ a < 0 ∧ (s.size : Int) ≤ a)) : OneAns 14 s a w 0 0 0 1 := by
  rcases h with h | ⟨h, h2⟩
  all_goals
    go_enter Tryd.func14, Tryd.ntmps14
    go_wp2_with fail
    refine bodyPost_ret (v := .tuple #[.agg #[.int .u8 0, .int .i64 0, .int .i64 0], .int .i64 1]) (by simp [results, Tryd.results14, go_sem]) rfl ⟨rfl, ?_⟩
    exact (Below.refl _ _).alloc (Nat.le_refl _) _
set_option maxHeartbeats 1000000 in
theorem rone_blank (s : ByteArray) (k : Nat) (w : World) (hk : k < s.size) (_hm : s.size ≤ 140737488351232) (h : (s[k].toNat == 32) = true ∨ (s[k].toNat == 32) = false ∧ (s[k].toNat == 9) = true) : OneAns 14 s k w 0 0 0 4 := by
  have hk0 : ¬ (k : Int) < 0 := by omega
  have hk1 : ¬ s.size ≤ k := by omega
  rcases h with h | ⟨h, h2⟩
  · have i1 : ((s[k].toNat : Int) == 32) = true := (int_beq _ 32).trans h
    go_enter Tryd.func14, Tryd.ntmps14
    go_wp2_with fail
    refine bodyPost_ret (v := .tuple #[.agg #[.int .u8 0, .int .i64 0, .int .i64 0], .int .i64 4]) (by simp [results, Tryd.results14, go_sem]) rfl ⟨rfl, ?_⟩
    exact (Below.refl _ _).alloc (Nat.le_refl _) _
  · have i1 : ((s[k].toNat : Int) == 32) = false := (int_beq _ 32).trans h
    have i2 : ((s[k].toNat : Int) == 9) = true := (int_beq _ 9).trans h2
    go_enter Tryd.func14, Tryd.ntmps14
    go_wp2_with fail
    refine bodyPost_ret (v := .tuple #[.agg #[.int .u8 0, .int .i64 0, .int .i64 0], .int .i64 4]) (by simp [results, Tryd.results14, go_sem]) rfl ⟨rfl, ?_⟩
    exact (Below.refl _ _).alloc (Nat.le_refl _) _
theorem rone_sign (s : ByteArray) (k : Nat) (w : World) (hk : k < s.size) (hm : s.size ≤ 140737488351232) (g1 : (s[k].toNat == 32) = false) (g2 : (s[k].toNat == 9) = false)
    (h : (s[k].toNat == 40) = true ∨ (s[k].toNat == 40) = false ∧ ((s[k].toNat == 41) = true ∨ (s[k].toNat == 41) = false ∧ ((s[k].toNat == 44) = true ∨ (s[k].toNat == 44) = false ∧ ((s[k].toNat == 46) = true ∨ (s[k].toNat == 46) = false ∧ (s[k].toNat == 60) = true)))) : OneAns 14 s k w 4 k (k + 1) 0 := by
  have hc : s[k].toNat = 40 ∨ s[k].toNat = 41 ∨ s[k].toNat = 44 ∨ s[k].toNat = 46 ∨ s[k].toNat = 60 := by simp only [beq_iff_eq] at h; omega
  have h0 : sigM s k 0 = false := sig0_no s k hk (.inl (by rw [beq_eq_false_iff_ne]; omega))
  have h1 : sigM s k 1 = false := sig1_no s k hk (.inl (by rw [beq_eq_false_iff_ne]; omega))
  refine rone_signs s k 1 w hk hm g1 g2 (sig_one s k h0 h1) ?_
  rcases hc with h | h | h | h | h
  · exact ⟨2, by decide, by rw [sig2_eq s k hk, beq_iff_eq]; exact h⟩
  · exact ⟨3, by decide, by rw [sig3_eq s k hk, beq_iff_eq]; exact h⟩
  · exact ⟨4, by decide, by rw [sig4_eq s k hk, beq_iff_eq]; exact h⟩
  · exact ⟨5, by decide, by rw [sig5_eq s k hk, beq_iff_eq]; exact h⟩
  · exact ⟨6, by decide, by rw [sig6_eq s k hk, beq_iff_eq]; exact h⟩

theorem rone_colon_yes (s : ByteArray) (k : Nat) (w : World) (hk : k < s.size) (hm : s.size ≤ 140737488351232) (g1 : (s[k].toNat == 32) = false) (g2 : (s[k].toNat == 9) = false) (g3 : (s[k].toNat == 40) = false) (g4 : (s[k].toNat == 41) = false) (g5 : (s[k].toNat == 44) = false) (g6 : (s[k].toNat == 46) = false) (g7 : (s[k].toNat == 60) = false)  (g : (s[k].toNat == 58) = true) (hk1 : k + 1 < s.size) (hn : (s[k + 1].toNat == 45) = true) : OneAns 14 s k w 4 k (k + 2 : Nat) 0 :=
  rone_signs s k 2 w hk hm g1 g2 (sig_two s k hk g3 g4 g5 g6 g7) ⟨0, by decide, sig0_yes s k hk1 g hn⟩
theorem rone_colon_no (s : ByteArray) (k : Nat) (w : World) (hk : k < s.size) (hm : s.size ≤ 140737488351232) (g1 : (s[k].toNat == 32) = false) (g2 : (s[k].toNat == 9) = false) (g3 : (s[k].toNat == 40) = false) (g4 : (s[k].toNat == 41) = false) (g5 : (s[k].toNat == 44) = false) (g6 : (s[k].toNat == 46) = false) (g7 : (s[k].toNat == 60) = false)  (g : (s[k].toNat == 58) = true) (h : ¬ k + 1 < s.size ∨ ∃ hk1 : k + 1 < s.size, (s[k + 1].toNat == 45) = false) : OneAns 14 s k w 0 0 0 5 := by
  have hi := sig0_no s k hk (.inr h)
  have ho := sig1_no s k hk (.inl (ne_const _ 58 33 g (by decide)))
  exact rone_rest_no s k k k 0 w hk hm (run_nowin s k hk (win_const _ 58 g (by decide))) rfl (kindR_nil s k) (.inr (.inl ⟨rfl, ne_const _ 58 45 g (by decide)⟩)) g1 g2 (sig_none s k hk g3 g4 g5 g6 g7 hi ho)

theorem rone_bang_yes (s : ByteArray) (k : Nat) (w : World) (hk : k < s.size) (hm : s.size ≤ 140737488351232) (g1 : (s[k].toNat == 32) = false) (g2 : (s[k].toNat == 9) = false) (g3 : (s[k].toNat == 40) = false) (g4 : (s[k].toNat == 41) = false) (g5 : (s[k].toNat == 44) = false) (g6 : (s[k].toNat == 46) = false) (g7 : (s[k].toNat == 60) = false) (_g8 : (s[k].toNat == 58) = false) (g : (s[k].toNat == 33) = true) (hk1 : k + 1 < s.size) (hn : (s[k + 1].toNat == 61) = true) : OneAns 14 s k w 4 k (k + 2 : Nat) 0 :=
  rone_signs s k 2 w hk hm g1 g2 (sig_two s k hk g3 g4 g5 g6 g7) ⟨1, by decide, sig1_yes s k hk1 g hn⟩
theorem rone_bang_no (s : ByteArray) (k : Nat) (w : World) (hk : k < s.size) (hm : s.size ≤ 140737488351232) (g1 : (s[k].toNat == 32) = false) (g2 : (s[k].toNat == 9) = false) (g3 : (s[k].toNat == 40) = false) (g4 : (s[k].toNat == 41) = false) (g5 : (s[k].toNat == 44) = false) (g6 : (s[k].toNat == 46) = false) (g7 : (s[k].toNat == 60) = false) (_g8 : (s[k].toNat == 58) = false) (g : (s[k].toNat == 33) = true) (h : ¬ k + 1 < s.size ∨ ∃ hk1 : k + 1 < s.size, (s[k + 1].toNat == 61) = false) : OneAns 14 s k w 0 0 0 5 := by
  have hi := sig1_no s k hk (.inr h)
  have ho := sig0_no s k hk (.inl (ne_const _ 33 58 g (by decide)))
  exact rone_rest_no s k k k 0 w hk hm (run_nowin s k hk (win_const _ 33 g (by decide))) rfl (kindR_nil s k) (.inr (.inl ⟨rfl, ne_const _ 33 45 g (by decide)⟩)) g1 g2 (sig_none s k hk g3 g4 g5 g6 g7 ho hi)

theorem rone_minus_no (s : ByteArray) (k : Nat) (w : World) (hk : k < s.size) (hm : s.size ≤ 140737488351232) (g1 : (s[k].toNat == 32) = false) (g2 : (s[k].toNat == 9) = false) (g3 : (s[k].toNat == 40) = false) (g4 : (s[k].toNat == 41) = false) (g5 : (s[k].toNat == 44) = false) (g6 : (s[k].toNat == 46) = false) (g7 : (s[k].toNat == 60) = false) (g8 : (s[k].toNat == 58) = false) (g9 : (s[k].toNat == 33) = false) (g : (s[k].toNat == 45) = true) (h : ¬ k + 1 < s.size ∨ ∃ hk1 : k + 1 < s.size, digB (s[k + 1].toNat : Int) = false) : OneAns 14 s k w 0 0 0 5 := by
  refine rone_rest_no s k k k 0 w hk hm (run_nowin s k hk (win_const _ 45 g (by decide))) rfl (kindR_nil s k) ?_ g1 g2 (sig_none s k hk g3 g4 g5 g6 g7 (sig0_no s k hk (.inl g8)) (sig1_no s k hk (.inl g9)))
  rcases h with h | ⟨hk1, h⟩
  · exact .inr (.inr (.inl ⟨rfl, g, h⟩))
  · simp only [digB, Bool.and_eq_false_iff, decide_eq_false_iff_not] at h
    by_cases h48 : (s[k + 1].toNat : Int) < 48
    · exact .inr (.inr (.inr (.inl ⟨rfl, g, hk1, h48⟩)))
    · exact .inr (.inr (.inr (.inr ⟨rfl, g, hk1, by omega, by rw [decide_eq_false_iff_not]; omega⟩)))
theorem rone_other (s : ByteArray) (k : Nat) (w : World) (hk : k < s.size) (hm : s.size ≤ 140737488351232) (g1 : (s[k].toNat == 32) = false) (g2 : (s[k].toNat == 9) = false) (g3 : (s[k].toNat == 40) = false) (g4 : (s[k].toNat == 41) = false) (g5 : (s[k].toNat == 44) = false) (g6 : (s[k].toNat == 46) = false) (g7 : (s[k].toNat == 60) = false) (g8 : (s[k].toNat == 58) = false) (g9 : (s[k].toNat == 33) = false) (g : (s[k].toNat == 45) = false) (h : winB (s[k].toNat : Int) = false) : OneAns 14 s k w 0 0 0 5 :=
  rone_rest_no s k k k 0 w hk hm (run_nowin s k hk h) rfl (kindR_nil s k) (.inr (.inl ⟨rfl, g⟩)) g1 g2 (sig_none s k hk g3 g4 g5 g6 g7 (sig0_no s k hk (.inl g8)) (sig1_no s k hk (.inl g9)))
theorem rmode_of (s : ByteArray) (k stop : Nat) (hk : k < s.size) (hs : k + 1 + runL (s.data.toList.drop (k + 1)) = stop)
    (h : ((s[k].toNat == 45) = true ∧ ∃ h : k + 1 < s.size, digB (s[k + 1].toNat : Int) = true) ∨ ((s[k].toNat == 45) = false ∧ winB (s[k].toNat : Int) = true)) : ∃ j0, j0 + runL (s.data.toList.drop j0) = stop ∧ RMode s k j0 hk := by
  rcases h with ⟨g, hk1, hd⟩ | ⟨g, hw⟩
  · simp only [digB, Bool.and_eq_true, decide_eq_true_eq] at hd
    exact ⟨k + 1, hs, .inl ⟨rfl, g, hk1, hd⟩⟩
  · refine ⟨k, ?_, .inr (.inl ⟨rfl, g⟩)⟩
    rw [drop_at s k hk, runL, if_pos hw]; omega
theorem rone_piece_yes (s : ByteArray) (k stop : Nat) (kd : Int) (w : World) (hk : k < s.size) (hm : s.size ≤ 140737488351232) (hs : k + 1 + runL (s.data.toList.drop (k + 1)) = stop) (hq : (kd != 0) = true) (hc : KindR 19 s k stop kd)
    (hmode : ((s[k].toNat == 45) = true ∧ ∃ h : k + 1 < s.size, digB (s[k + 1].toNat : Int) = true) ∨ ((s[k].toNat == 45) = false ∧ winB (s[k].toNat : Int) = true)) (g1 : (s[k].toNat == 32) = false) (g2 : (s[k].toNat == 9) = false) (g3 : (s[k].toNat == 40) = false) (g4 : (s[k].toNat == 41) = false) (g5 : (s[k].toNat == 44) = false) (g6 : (s[k].toNat == 46) = false) (g7 : (s[k].toNat == 60) = false) (g8 : (s[k].toNat == 58) = false) (g9 : (s[k].toNat == 33) = false) : OneAns 14 s k w kd k stop 0 := by
  obtain ⟨j0, hj, hr⟩ := rmode_of s k stop hk hs hmode
  exact rone_rest_yes s k j0 stop kd w hk hm hj (by simpa using hq) hc hr g1 g2 (sig_none s k hk g3 g4 g5 g6 g7 (sig0_no s k hk (.inl g8)) (sig1_no s k hk (.inl g9)))
theorem rone_piece_no (s : ByteArray) (k stop : Nat) (kd : Int) (w : World) (hk : k < s.size) (hm : s.size ≤ 140737488351232) (hs : k + 1 + runL (s.data.toList.drop (k + 1)) = stop) (hq : (kd != 0) = false) (hc : KindR 19 s k stop kd)
    (hmode : ((s[k].toNat == 45) = true ∧ ∃ h : k + 1 < s.size, digB (s[k + 1].toNat : Int) = true) ∨ ((s[k].toNat == 45) = false ∧ winB (s[k].toNat : Int) = true)) (g1 : (s[k].toNat == 32) = false) (g2 : (s[k].toNat == 9) = false) (g3 : (s[k].toNat == 40) = false) (g4 : (s[k].toNat == 41) = false) (g5 : (s[k].toNat == 44) = false) (g6 : (s[k].toNat == 46) = false) (g7 : (s[k].toNat == 60) = false) (g8 : (s[k].toNat == 58) = false) (g9 : (s[k].toNat == 33) = false) : OneAns 14 s k w 0 0 0 5 := by
  obtain ⟨j0, hj, hr⟩ := rmode_of s k stop hk hs hmode
  exact rone_rest_no s k j0 stop kd w hk hm hj (by simpa using hq) hc hr g1 g2 (sig_none s k hk g3 g4 g5 g6 g7 (sig0_no s k hk (.inl g8)) (sig1_no s k hk (.inl g9)))
end Go.Proofs.YtpkccmceobonnaaDoor
