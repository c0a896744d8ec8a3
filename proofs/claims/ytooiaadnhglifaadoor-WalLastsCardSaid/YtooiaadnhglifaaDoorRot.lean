/-
  Contracts: bits.RotateLeft32, sha.turned, the reference's turn.
-/
import Derived.Test.YtooiaadnhglifaaDoorBas
set_option linter.unusedVariables false
set_option linter.unusedSimpArgs false
namespace Go.Proofs.YtooiaadnhglifaaDoor
open Go.RowKit

theorem ret_int {k : IntKind} {a b : Int} (h : a = b) : Ending.returned (.int k a) = .returned (.int k b) := by rw [h]
theorem u32_lt (x : UInt32) : x.toNat < 4294967296 := x.toNat_lt
theorem neg_and (n : Nat) (h1 : 1 ≤ n) (h2 : n ≤ 31) : bits .and .u64 (IntKind.u64.wrap (-(n : Int))) 31 = ((32 - n : Nat) : Int) := by
  have : ∀ k : Fin 31, bits .and .u64 (IntKind.u64.wrap (-((k.val + 1 : Nat) : Int))) 31 = ((32 - (k.val + 1) : Nat) : Int) := by decide
  have := this ⟨n - 1, by omega⟩
  simpa [show n - 1 + 1 = n by omega] using this
theorem rot_val (x : UInt32) (n : Nat) (h1 : 1 ≤ n) (h2 : n ≤ 31) : bits .or .u32 ((x.toNat : Int) * 2 ^ (32 - n) % 4294967296) ((x.toNat : Int) / 2 ^ n) = ((rotS x n).toNat : Int) := by
  have hx := u32_lt x
  have e1 : (x.toNat : Int) * 2 ^ (32 - n) % 4294967296 = ((x.toNat * 2 ^ (32 - n) % 4294967296 : Nat) : Int) := by simp
  have e2 : (x.toNat : Int) / 2 ^ n = ((x.toNat / 2 ^ n : Nat) : Int) := by simp
  have hd : x.toNat / 2 ^ n < 4294967296 := Nat.lt_of_le_of_lt (Nat.div_le_self _ _) hx
  have hb : x.toNat / 2 ^ n ||| x.toNat * 2 ^ (32 - n) % 4294967296 < 4294967296 := Nat.or_lt_two_pow (n := 32) hd (Nat.mod_lt _ (by decide))
  rw [e1, e2, u32_or_nat _ _ (Nat.mod_lt _ (by decide)) hd, rotS, UInt32.toNat_ofNat_of_lt' hb, Nat.or_comm]
theorem bits_or_comm (a b : Int) : bits .or .u32 a b = bits .or .u32 b a := by
  show IntKind.u32.wrap ((BitVec.ofInt 32 a ||| BitVec.ofInt 32 b).toNat : Int) = IntKind.u32.wrap ((BitVec.ofInt 32 b ||| BitVec.ofInt 32 a).toNat : Int)
  rw [BitVec.or_comm]

set_option maxHeartbeats 400000 in
theorem rotl_any (x : UInt32) (n : Nat) (h1 : 1 ≤ n) (h2 : n ≤ 31) (w : World) :
    Calls Tryd.prog 82 #[W32 x, .int .i64 (-(n : Int))] w fun e w' => e = .returned (W32 (rotS x n)) ∧ w = w' := by
  have hx := u32_lt x
  obtain ⟨m, hm⟩ : ∃ m, m = 32 - n := ⟨_, rfl⟩
  have hm1 : 1 ≤ m := by omega
  have hm2 : m ≤ 31 := by omega
  have H := neg_and n h1 h2
  rw [← hm] at H
  have HR := Lib.hid (rot_val x n h1 h2)
  have hn : 32 - (32 - n) = n := by omega
  have HN := Lib.hid hn
  have HM := Lib.hid hm
  clear h1 h2 hn hm
  unfold W32
  go_enter Tryd.func82, Tryd.ntmps82
  go_wp2
  go_ret
  have e := HM.out
  subst e
  exact ⟨ret_int (by rw [HN.out, HR.out]), rfl⟩

/-- sha.turned -/
theorem turned_any (x : UInt32) (n : Nat) (h1 : 1 ≤ n) (h2 : n ≤ 31) (w : World) :
    Calls Tryd.prog 80 #[W32 x, .int .i64 (n : Int)] w fun e w' => e = .returned (W32 (rotS x n)) ∧ w = w' := by
  have HR := Lib.hid (rotl_any x n h1 h2)
  unfold W32 at *
  go_enter Tryd.func80, Tryd.ntmps80
  go_wp2_with (go_at_call 82; refine (HR.out _).mono ?_; rintro e w' ⟨rfl, rfl⟩)
  go_ret
  exact ⟨rfl, rfl⟩
theorem turned_still (x : UInt32) (n : Nat) (m : Int) (hm : m = n) (h1 : 1 ≤ n) (h2 : n ≤ 31) (w : World) :
    Calls Tryd.prog 80 #[W32 x, .int .i64 m] w fun e w' => e = .returned (W32 (rotS x n)) ∧ w' = w := by
  subst hm; exact (turned_any x n h1 h2 w).mono fun e w' h => ⟨h.1, h.2.symm⟩
theorem turned_int (x : UInt32) (m : Int) (h1 : 1 ≤ m) (h2 : m ≤ 31) (w : World) :
    Calls Tryd.prog 80 #[W32 x, .int .i64 m] w fun e w' => e = .returned (W32 (rotS x m.toNat)) ∧ w' = w := turned_still x m.toNat m (by omega) (by omega) (by omega) w
/-- the reference's turn -/
theorem turn_any (x : UInt32) (n : Nat) (h1 : 1 ≤ n) (h2 : n ≤ 31) (w : World) :
    Calls Tryd.prog 66 #[W32 x, .int .u64 (n : Int)] w fun e w' => e = .returned (W32 (rotS x n)) ∧ w = w' := by
  have HR := Lib.hid (rot_val x n h1 h2)
  unfold W32 at *
  go_enter Tryd.func66, Tryd.ntmps66
  go_wp2
  go_ret
  exact ⟨ret_int (by rw [bits_or_comm, HR.out]), rfl⟩
theorem turn_still (x : UInt32) (n : Nat) (m : Int) (hm : m = n) (h1 : 1 ≤ n) (h2 : n ≤ 31) (w : World) :
    Calls Tryd.prog 66 #[W32 x, .int .u64 m] w fun e w' => e = .returned (W32 (rotS x n)) ∧ w' = w := by
  subst hm; exact (turn_any x n h1 h2 w).mono fun e w' h => ⟨h.1, h.2.symm⟩

theorem turn_int (x : UInt32) (m : Int) (h1 : 1 ≤ m) (h2 : m ≤ 31) (w : World) :
    Calls Tryd.prog 66 #[W32 x, .int .u64 m] w fun e w' => e = .returned (W32 (rotS x m.toNat)) ∧ w' = w := turn_still x m.toNat m (by omega) (by omega) (by omega) w

/-! sums and differences of words -/
theorem add_val (x y : UInt32) : ((x.toNat : Int) + (y.toNat : Int)) % 4294967296 = ((x + y).toNat : Int) := by
  rw [UInt32.toNat_add]; simp
theorem add_wrap (x y : UInt32) : IntKind.u32.wrap ((x.toNat : Int) + (y.toNat : Int)) = ((x + y).toNat : Int) := by
  rw [IntKind.wrap_u32', add_val]
theorem xor_val (x y : UInt32) : bits .xor .u32 (x.toNat : Int) (y.toNat : Int) = ((x ^^^ y).toNat : Int) := by
  rw [u32_xor_nat _ _ (u32_lt x) (u32_lt y), UInt32.toNat_xor]
theorem and_val (x y : UInt32) : bits .and .u32 (x.toNat : Int) (y.toNat : Int) = ((x &&& y).toNat : Int) := by
  rw [u32_and_nat _ _ (u32_lt x) (u32_lt y), UInt32.toNat_and]
theorem shr_val (x : UInt32) (n : Nat) : (x.toNat : Int) / ((2 ^ n : Nat) : Int) = ((shrS x n).toNat : Int) := by
  have : x.toNat / 2 ^ n < 4294967296 := Nat.lt_of_le_of_lt (Nat.div_le_self _ _) (u32_lt x)
  rw [shrS, UInt32.toNat_ofNat_of_lt' this]; simp
theorem shr3_val (x : UInt32) : (x.toNat : Int) / 8 = ((shrS x 3).toNat : Int) := shr_val x 3
theorem shr10_val (x : UInt32) : (x.toNat : Int) / 1024 = ((shrS x 10).toNat : Int) := shr_val x 10
theorem sum5_val (a b c d e : UInt32) : (((a.toNat : Int) + (b.toNat : Int) + (c.toNat : Int) + (d.toNat : Int)) % 4294967296 + (e.toNat : Int)) % 4294967296 = ((a + b + c + d + e).toNat : Int) := by
  simp only [UInt32.toNat_add]; omega
theorem not_if : (if IntKind.u32.signed = true then (-1 : Int) else IntKind.u32.max) = 4294967295 := rfl
theorem not_val (x : UInt32) : bits .xor .u32 4294967295 (x.toNat : Int) = ((4294967295 ^^^ x).toNat : Int) := xor_val 4294967295 x
end Go.Proofs.YtooiaadnhglifaaDoor
