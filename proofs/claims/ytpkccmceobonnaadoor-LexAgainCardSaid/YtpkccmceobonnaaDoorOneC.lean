/-
  Contract: lex.One where no piece begins; One, whole.
-/
import Derived.Test.YtpkccmceobonnaaDoorOneP
namespace Go.Proofs.YtpkccmceobonnaaDoor
open Go.RowKit

/-- an answer's form -/
abbrev OneAns (p : Nat) (s : ByteArray) (a : Int) (w : World) (kd fr to er : Int) : Prop := Calls Tryd.prog p #[.string s, .int .i64 a] w fun e w' => e = .returned (.tuple #[.agg #[.int .u8 kd, .int .i64 fr, .int .i64 to], .int .i64 er]) ∧ Below w.heap.size w w'

set_option maxHeartbeats 1000000 in
theorem one_out (s : ByteArray) (a : Int) (w : World) (_hm : s.size ≤ 140737488351232) (h : a < 0 ∨ (¬ a < 0 ∧ (s.size : Int) ≤ a)) : OneAns 13 s a w 0 0 0 1 := by
  rcases h with h | ⟨h, h2⟩
  all_goals
    go_enter Tryd.func13, Tryd.ntmps13
    go_wp2_with fail
    refine wp_scope_walk ?_
    go_wp2_with fail
    rw [ExS_ret]
    refine bodyPost_ret (v := .tuple #[.agg #[.int .u8 0, .int .i64 0, .int .i64 0], .int .i64 1]) (by simp [results, Tryd.results13, go_sem]) rfl ⟨rfl, ?_⟩
    exact (Below.refl _ _).alloc (Nat.le_refl _) _
set_option maxHeartbeats 1000000 in
theorem one_blank (s : ByteArray) (k : Nat) (w : World) (hk : k < s.size) (hm : s.size ≤ 140737488351232) (h : (s[k].toNat == 32) = true ∨ (s[k].toNat == 32) = false ∧ (s[k].toNat == 9) = true) : OneAns 13 s k w 0 0 0 4 := by
  have hk0 : ¬ (k : Int) < 0 := by omega
  rcases h with h | ⟨h, h2⟩
  all_goals
    go_enter Tryd.func13, Tryd.ntmps13
    go_wp2_with fail
    refine wp_scope_walk ?_
    go_wp2_with fail
    rw [ExS_ret]
    refine bodyPost_ret (v := .tuple #[.agg #[.int .u8 0, .int .i64 0, .int .i64 0], .int .i64 4]) (by simp [results, Tryd.results13, go_sem]) rfl ⟨rfl, ?_⟩
    exact (Below.refl _ _).alloc (Nat.le_refl _) _
set_option maxHeartbeats 2000000 in
theorem one_sign (s : ByteArray) (k : Nat) (w : World) (hk : k < s.size) (hm : s.size ≤ 140737488351232) (_g1 : (s[k].toNat == 32) = false) (_g2 : (s[k].toNat == 9) = false)
    (h : (s[k].toNat == 40) = true ∨ (s[k].toNat == 40) = false ∧ ((s[k].toNat == 41) = true ∨ (s[k].toNat == 41) = false ∧ ((s[k].toNat == 44) = true ∨ (s[k].toNat == 44) = false ∧ ((s[k].toNat == 46) = true ∨ (s[k].toNat == 46) = false ∧ (s[k].toNat == 60) = true)))) : OneAns 13 s k w 4 k (k + 1) 0 := by
  have hk0 : ¬ (k : Int) < 0 := by omega
  rcases h with h | ⟨h3, h | ⟨h4, h | ⟨h5, h | ⟨h6, h⟩⟩⟩⟩
  all_goals
    go_enter Tryd.func13, Tryd.ntmps13
    go_wp2_with fail
    refine wp_scope_walk ?_
    go_wp2_with fail
    go_step3
    refine ExS_goto _ rfl (ins_of_wp ?_)
    go_wp2_with fail
    rw [ExS_ret]
    refine bodyPost_ret (v := .tuple #[.agg #[.int .u8 4, .int .i64 k, .int .i64 (k + 1)], .int .i64 0]) (by simp [results, Tryd.results13, go_sem]) rfl ⟨rfl, ?_⟩
    exact (Below.refl _ _).alloc (Nat.le_refl _) _

set_option maxHeartbeats 2000000 in
theorem one_colon_yes (s : ByteArray) (k : Nat) (w : World) (hk : k < s.size) (hm : s.size ≤ 140737488351232) (_g1 : (s[k].toNat == 32) = false) (_g2 : (s[k].toNat == 9) = false) (_g3 : (s[k].toNat == 40) = false) (_g4 : (s[k].toNat == 41) = false) (_g5 : (s[k].toNat == 44) = false) (_g6 : (s[k].toNat == 46) = false) (_g7 : (s[k].toNat == 60) = false)  (g : (s[k].toNat == 58) = true) (hk1 : k + 1 < s.size) (hn : (s[k + 1].toNat == 45) = true) : OneAns 13 s k w 4 k (k + 2 : Nat) 0 := by
  have hk0 : ¬ (k : Int) < 0 := by omega
  go_enter Tryd.func13, Tryd.ntmps13
  go_wp2_with fail
  refine wp_scope_walk ?_
  go_wp2_with fail
  go_step3
  refine ExS_goto _ rfl (ins_of_wp ?_)
  go_wp2_with fail
  go_step3
  refine ExS_goto _ rfl (ins_of_wp ?_)
  go_wp2_with fail
  go_step3
  go_wp2_with fail
  rw [ExS_ret]
  refine bodyPost_ret (v := .tuple #[.agg #[.int .u8 4, .int .i64 k, .int .i64 (k + 2 : Nat)], .int .i64 0]) (by simp [results, Tryd.results13, go_sem]; try omega) rfl ⟨rfl, ?_⟩
  exact (Below.refl _ _).alloc (Nat.le_refl _) _
set_option maxHeartbeats 2000000 in
theorem one_colon_no (s : ByteArray) (k : Nat) (w : World) (hk : k < s.size) (hm : s.size ≤ 140737488351232) (_g1 : (s[k].toNat == 32) = false) (_g2 : (s[k].toNat == 9) = false) (_g3 : (s[k].toNat == 40) = false) (_g4 : (s[k].toNat == 41) = false) (_g5 : (s[k].toNat == 44) = false) (_g6 : (s[k].toNat == 46) = false) (_g7 : (s[k].toNat == 60) = false)  (g : (s[k].toNat == 58) = true) (h : ¬ k + 1 < s.size ∨ ∃ hk1 : k + 1 < s.size, (s[k + 1].toNat == 45) = false) : OneAns 13 s k w 0 0 0 5 := by
  have hk0 : ¬ (k : Int) < 0 := by omega
  rcases h with h | ⟨hk1, h⟩
  all_goals
    go_enter Tryd.func13, Tryd.ntmps13
    go_wp2_with fail
    refine wp_scope_walk ?_
    go_wp2_with fail
    go_step3
    refine ExS_goto _ rfl (ins_of_wp ?_)
    go_wp2_with fail
    go_step3
    refine ExS_goto _ rfl (ins_of_wp ?_)
    go_wp2_with fail
    rw [ExS_ret]
    refine bodyPost_ret (v := .tuple #[.agg #[.int .u8 0, .int .i64 0, .int .i64 0], .int .i64 5]) (by simp [results, Tryd.results13, go_sem]) rfl ⟨rfl, ?_⟩
    exact (Below.refl _ _).alloc (Nat.le_refl _) _

set_option maxHeartbeats 2000000 in
theorem one_bang_yes (s : ByteArray) (k : Nat) (w : World) (hk : k < s.size) (hm : s.size ≤ 140737488351232) (_g1 : (s[k].toNat == 32) = false) (_g2 : (s[k].toNat == 9) = false) (_g3 : (s[k].toNat == 40) = false) (_g4 : (s[k].toNat == 41) = false) (_g5 : (s[k].toNat == 44) = false) (_g6 : (s[k].toNat == 46) = false) (_g7 : (s[k].toNat == 60) = false) (_g8 : (s[k].toNat == 58) = false) (g : (s[k].toNat == 33) = true) (hk1 : k + 1 < s.size) (hn : (s[k + 1].toNat == 61) = true) : OneAns 13 s k w 4 k (k + 2 : Nat) 0 := by
  have hk0 : ¬ (k : Int) < 0 := by omega
  go_enter Tryd.func13, Tryd.ntmps13
  go_wp2_with fail
  refine wp_scope_walk ?_
  go_wp2_with fail
  go_step3
  refine ExS_goto _ rfl (ins_of_wp ?_)
  go_wp2_with fail
  go_step3
  refine ExS_goto _ rfl (ins_of_wp ?_)
  go_wp2_with fail
  go_step3
  go_wp2_with fail
  rw [ExS_ret]
  refine bodyPost_ret (v := .tuple #[.agg #[.int .u8 4, .int .i64 k, .int .i64 (k + 2 : Nat)], .int .i64 0]) (by simp [results, Tryd.results13, go_sem]; try omega) rfl ⟨rfl, ?_⟩
  exact (Below.refl _ _).alloc (Nat.le_refl _) _
set_option maxHeartbeats 2000000 in
theorem one_bang_no (s : ByteArray) (k : Nat) (w : World) (hk : k < s.size) (hm : s.size ≤ 140737488351232) (_g1 : (s[k].toNat == 32) = false) (_g2 : (s[k].toNat == 9) = false) (_g3 : (s[k].toNat == 40) = false) (_g4 : (s[k].toNat == 41) = false) (_g5 : (s[k].toNat == 44) = false) (_g6 : (s[k].toNat == 46) = false) (_g7 : (s[k].toNat == 60) = false) (_g8 : (s[k].toNat == 58) = false) (g : (s[k].toNat == 33) = true) (h : ¬ k + 1 < s.size ∨ ∃ hk1 : k + 1 < s.size, (s[k + 1].toNat == 61) = false) : OneAns 13 s k w 0 0 0 5 := by
  have hk0 : ¬ (k : Int) < 0 := by omega
  rcases h with h | ⟨hk1, h⟩
  all_goals
    go_enter Tryd.func13, Tryd.ntmps13
    go_wp2_with fail
    refine wp_scope_walk ?_
    go_wp2_with fail
    go_step3
    refine ExS_goto _ rfl (ins_of_wp ?_)
    go_wp2_with fail
    go_step3
    refine ExS_goto _ rfl (ins_of_wp ?_)
    go_wp2_with fail
    rw [ExS_ret]
    refine bodyPost_ret (v := .tuple #[.agg #[.int .u8 0, .int .i64 0, .int .i64 0], .int .i64 5]) (by simp [results, Tryd.results13, go_sem]) rfl ⟨rfl, ?_⟩
    exact (Below.refl _ _).alloc (Nat.le_refl _) _

set_option maxHeartbeats 2000000 in
theorem one_minus_no (s : ByteArray) (k : Nat) (w : World) (hk : k < s.size) (hm : s.size ≤ 140737488351232) (_g1 : (s[k].toNat == 32) = false) (_g2 : (s[k].toNat == 9) = false) (_g3 : (s[k].toNat == 40) = false) (_g4 : (s[k].toNat == 41) = false) (_g5 : (s[k].toNat == 44) = false) (_g6 : (s[k].toNat == 46) = false) (_g7 : (s[k].toNat == 60) = false) (_g8 : (s[k].toNat == 58) = false) (_g9 : (s[k].toNat == 33) = false) (g : (s[k].toNat == 45) = true) (h : ¬ k + 1 < s.size ∨ ∃ hk1 : k + 1 < s.size, digB (s[k + 1].toNat : Int) = false) : OneAns 13 s k w 0 0 0 5 := by
  have hk0 : ¬ (k : Int) < 0 := by omega
  rcases h with h | ⟨hk1, h⟩
  · go_enter Tryd.func13, Tryd.ntmps13
    go_wp2_with fail
    refine wp_scope_walk ?_
    go_wp2_with fail
    go_step3
    refine ExS_goto _ rfl (ins_of_wp ?_)
    go_wp2_with fail
    go_step3
    refine ExS_goto _ rfl (ins_of_wp ?_)
    go_wp2_with fail
    rw [ExS_ret]
    refine bodyPost_ret (v := .tuple #[.agg #[.int .u8 0, .int .i64 0, .int .i64 0], .int .i64 5]) (by simp [results, Tryd.results13, go_sem]) rfl ⟨rfl, ?_⟩
    exact (Below.refl _ _).alloc (Nat.le_refl _) _
  · have HD := Lib.hid (show ∀ wx, Calls Tryd.prog 16 #[.int .u8 (s[k + 1].toNat : Int)] wx fun e w' => e = .returned (.bool false) ∧ wx = w' from fun wx => h ▸ lexdigit_any _ wx)
    clear h
    go_enter Tryd.func13, Tryd.ntmps13
    go_wp2_with fail
    refine wp_scope_walk ?_
    go_wp2_with fail
    go_step3
    refine ExS_goto _ rfl (ins_of_wp ?_)
    go_wp2_with (go_at_call 16; refine (HD.out _).mono ?_; rintro e w' ⟨rfl, rfl⟩)
    go_step3
    refine ExS_goto _ rfl (ins_of_wp ?_)
    go_wp2_with fail
    rw [ExS_ret]
    refine bodyPost_ret (v := .tuple #[.agg #[.int .u8 0, .int .i64 0, .int .i64 0], .int .i64 5]) (by simp [results, Tryd.results13, go_sem]) rfl ⟨rfl, ?_⟩
    exact (Below.refl _ _).alloc (Nat.le_refl _) _
set_option maxHeartbeats 2000000 in
theorem one_other (s : ByteArray) (k : Nat) (w : World) (hk : k < s.size) (hm : s.size ≤ 140737488351232) (g1 : (s[k].toNat == 32) = false) (g2 : (s[k].toNat == 9) = false) (g3 : (s[k].toNat == 40) = false) (g4 : (s[k].toNat == 41) = false) (g5 : (s[k].toNat == 44) = false) (g6 : (s[k].toNat == 46) = false) (g7 : (s[k].toNat == 60) = false) (g8 : (s[k].toNat == 58) = false) (g9 : (s[k].toNat == 33) = false) (g : (s[k].toNat == 45) = false) (h : winB (s[k].toNat : Int) = false) : OneAns 13 s k w 0 0 0 5 := by
  have hk0 : ¬ (k : Int) < 0 := by omega
  have HWI := Lib.hid (show ∀ wx, Calls Tryd.prog 15 #[.int .u8 (s[k].toNat : Int)] wx fun e w' => e = .returned (.bool false) ∧ wx = w' from fun wx => h ▸ within_any _ wx)
  clear h
  go_enter Tryd.func13, Tryd.ntmps13
  go_wp2_with fail
  refine wp_scope_walk ?_
  go_wp2_with (go_at_call 15; refine (HWI.out _).mono ?_; rintro e w' ⟨rfl, rfl⟩)
  go_step3
  refine ExS_goto _ rfl (ins_of_wp ?_)
  go_wp2_with fail
  rw [ExS_ret]
  refine bodyPost_ret (v := .tuple #[.agg #[.int .u8 0, .int .i64 0, .int .i64 0], .int .i64 5]) (by simp [results, Tryd.results13, go_sem]) rfl ⟨rfl, ?_⟩
  exact (Below.refl _ _).alloc (Nat.le_refl _) _
end Go.Proofs.YtpkccmceobonnaaDoor
