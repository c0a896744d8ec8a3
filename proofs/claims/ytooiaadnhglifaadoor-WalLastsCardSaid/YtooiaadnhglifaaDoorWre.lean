/-
  Contract: wal.Record.
-/
import Derived.Test.YtooiaadnhglifaaDoorWap
set_option linter.unusedVariables false
set_option linter.unusedSimpArgs false
namespace Go.Proofs.YtooiaadnhglifaaDoor
open Go.RowKit

theorem run_make_cap (n : Nat) (hn : n ≤ 1000000) : ∃ zs : Array Value, zs.size = n ∧ ∀ w, (Instr.makeSlice 22 (.int .i64 0) (.int .i64 (n : Int))).run Tryd.prog w = .ok (.slice (some ⟨w.heap.size, 0, none⟩) 0 n) (w.alloc (.cells zs 5)) := by
  obtain ⟨i, hi, hz0, hz1, hz2⟩ := info_parts info8
  refine ⟨madeCells (Value.int .u8 0).cells (n * 1), ?_, fun w => ?_⟩
  · rw [show madeCells (Value.int .u8 0).cells (n * 1) = _ from made8 n]; simp [cells8]
  · have := run_makeSlice (P := Tryd.prog) (w := w) 22 5 i _ Tryd.underlying22 hi hz0 .i64 .i64 0 n (by omega) (by omega) (by rw [hz1]; simp; omega) (by rw [hz2]; omega) (by omega)
    rw [this, hz1]; rfl
theorem acc_cap {w : World} {zs : Array Value} {n : Nat} (hz : zs.size = n) (hn : n ≤ 1000000) : Acc (w.alloc (.cells zs 5)) w.heap.size (.slice (some ⟨w.heap.size, 0, none⟩) 0 n) [] :=
  ⟨⟨_, n, rfl, Nat.zero_le _⟩, .inl ⟨rfl, .inr (World.ownsRow_made w zs n (Nat.le_refl _) (by unfold maxLen; omega) (by omega))⟩⟩

set_option maxRecDepth 100000 in
set_option maxHeartbeats 2000000 in
theorem record_good (n : Nat) (h1 : 1 ≤ n) (hn : n < 9223372036854775808) (q : Option Addr) (k c : Nat) (m : List UInt8) (hk : k = m.length) (w : World) (hR : Rd0 w q m) (hc : m.length ≤ c) (hE : Env w) (hz : k ≤ 8192) :
    Calls Tryd.prog 10 #[.int .i64 n, .slice q k c] w fun e w' => ∃ v', e = .returned (.tuple #[v', .int .i64 0]) ∧ Acc w' w.heap.size v' (recS n m) ∧ Below w.heap.size w w' := by
  have hq := hR.low
  obtain ⟨N, hN⟩ : ∃ N, N = 17 + k := ⟨_, rfl⟩
  have w2 : (1 : Int) ≤ (n : Int) := by omega
  have w1 : ¬ (n : Int) < 1 := by omega
  have w4 : ¬ (8192 : Int) < (k : Int) := by omega
  have w3 : (k : Int) ≤ 8192 := by omega
  have s1 : IntKind.i64.wrap (17 + (k : Int)) = (N : Int) := by rw [IntWalk.i64_in _ (by omega)]; omega
  obtain ⟨zs, hzs, hmk⟩ := run_make_cap N (by omega)
  have HA := Lib.hid (fun X => acc_cap (w := X) hzs (by omega))
  have HC := Lib.hid (fun v X hA (h2 : Below w.heap.size w X) => appended_any w.heap.size v n hn q k c m hk X hA (hR.under hq h2 h2.size) hq hc (hE.on h2 hE.size) hE.size h2.size (by omega))
  clear hN hzs hk hR hq hc hE hz h1 hn
  go_enter Tryd.func10, Tryd.ntmps10
  go_wp2_with (go_at_call 24; refine (HC.out _ _ (HA.out _) (below1 _ _)).mono ?_; rintro r w2 ⟨v2, rfl, hA2, hb2⟩; have HA2 := Lib.hid hA2; have HB2 := Lib.hid ((below1 w _).trans hb2); clear hA2 hb2)
  exact bodyPost_ret (results_tmp2 rfl _ _ _) rfl ⟨_, rfl, HA2.out, HB2.out⟩

set_option maxRecDepth 100000 in
set_option maxHeartbeats 2000000 in
theorem record_low (n : Int) (h1 : n < 1) (p : Value) (w : World) :
    Calls Tryd.prog 10 #[.int .i64 n, p] w fun e w' => e = .returned (.tuple #[.slice none 0 0, .int .i64 1]) ∧ Below w.heap.size w w' := by
  go_enter Tryd.func10, Tryd.ntmps10
  go_wp2_with fail
  exact bodyPost_ret (results_tmp2 rfl _ _ _) rfl ⟨rfl, Below.refl _ _⟩
set_option maxRecDepth 100000 in
set_option maxHeartbeats 2000000 in
theorem record_long (n : Int) (h1 : 1 ≤ n) (q : Option Addr) (k c : Nat) (hz : 8192 < k) (w : World) :
    Calls Tryd.prog 10 #[.int .i64 n, .slice q k c] w fun e w' => e = .returned (.tuple #[.slice none 0 0, .int .i64 2]) ∧ Below w.heap.size w w' := by
  have w1 : ¬ n < 1 := by omega
  have w4 : (8192 : Int) < (k : Int) := by omega
  clear hz
  go_enter Tryd.func10, Tryd.ntmps10
  go_wp2_with fail
  exact bodyPost_ret (results_tmp2 rfl _ _ _) rfl ⟨rfl, Below.refl _ _⟩
end Go.Proofs.YtooiaadnhglifaaDoor
