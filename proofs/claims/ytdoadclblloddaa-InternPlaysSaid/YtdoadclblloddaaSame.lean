/-
  Contracts: two lists of numbers, two lists of values that are alike.
-/
import Derived.Test.YtdoadclblloddaaCopy
import Derived.Laws.StructEq
namespace Go.Proofs.Ytdoadclblloddaa
open Go.RowKit Go.Maps Go.WideMaps

theorem eqB (s t : ByteArray) (n m : Int) (w : World) : (binOp .eql 31 (.agg #[.string s, .int .i64 n]) (.agg #[.string t, .int .i64 m])).run Try.prog w = .ok (.bool (s.toList == t.toList && n == m)) w := by
  have u9 := Try.underlying9
  have u2 := Try.underlying2
  have a9 := Try.isAgg9
  have z9 := Try.sizeOf9
  have a2 := Try.isAgg2
  have z2 := Try.sizeOf2
  have hS : Try.prog.underlying 31 = some (.struct (Try.prog.fieldsOf 31)) := by kernel_rfl
  have hp : Try.prog.stoodInHeld 31 = false := by kernel_rfl
  rw [run_eql_struct, show (10000 : Nat) = 9999 + 1 from rfl, run_equalIn_agg w 9999 31 _ _ hS hp]
  simp only [Program.fieldsOf, Try.underlying31]
  go_simp
  by_cases h1 : s.toList = t.toList <;> by_cases h2 : n = m <;> simp [h1, h2]
theorem neB (s t : ByteArray) (n m : Int) (w : World) : (binOp .neq 31 (.agg #[.string s, .int .i64 n]) (.agg #[.string t, .int .i64 m])).run Try.prog w = .ok (.bool (!(s.toList == t.toList && n == m))) w := by
  have u9 := Try.underlying9
  have u2 := Try.underlying2
  have a9 := Try.isAgg9
  have z9 := Try.sizeOf9
  have a2 := Try.isAgg2
  have z2 := Try.sizeOf2
  have hS : Try.prog.underlying 31 = some (.struct (Try.prog.fieldsOf 31)) := by kernel_rfl
  have hp : Try.prog.stoodInHeld 31 = false := by kernel_rfl
  rw [run_neq_struct, show (10000 : Nat) = 9999 + 1 from rfl, run_equalIn_agg w 9999 31 _ _ hS hp]
  simp only [Program.fieldsOf, Try.underlying31]
  go_simp
  by_cases h1 : s.toList = t.toList <;> by_cases h2 : n = m <;> simp [h1, h2]
theorem neSame (s : ByteArray) (n : Int) (w : World) : (binOp .neq 31 (.agg #[.string s, .int .i64 n]) (.agg #[.string s, .int .i64 n])).run Try.prog w = .ok (.bool false) w := by
  rw [neB]; simp

set_option maxHeartbeats 1000000 in
set_option maxRecDepth 100000 in
theorem numbers_same (p q : Option Addr) (ns : List Int) (c d : Nat) (w : World) (h1 : Ints w w.heap.size p ns) (h2 : Ints w w.heap.size q ns) (hm : ns.length ≤ maxLen) :
    Calls Try.prog 14 #[.slice p ns.length c, .slice q ns.length d] w fun e w' => e = .returned (.bool true) ∧ Below w.heap.size w w' := by
  unfold maxLen at hm
  have H1 := Lib.hid h1
  have H2 := Lib.hid h2
  clear h1 h2
  go_enter Try.func14, Try.ntmps14
  go_wp2_with fail
  go_loopw [5] (fun i wr => ∃ k : Nat, k ≤ ns.length ∧ i = .int .i64 k ∧ Below w.heap.size w wr) (fun i _ => ns.length - (intOf i).toNat)
  case atStart => exact ⟨0, Nat.zero_le _, rfl, Below.refl _ _⟩
  case round =>
    obtain ⟨k, hk, rfl, hb⟩ := hrel
    have HB := Lib.hid hb
    by_cases hlt : k < ns.length
    · obtain ⟨b1, o1, rfl, hb1, x1⟩ := (H1.out.below HB.out (Nat.le_refl _)).at k hlt
      obtain ⟨b2, o2, rfl, hb2, x2⟩ := (H2.out.below HB.out (Nat.le_refl _)).at k hlt
      clear hb
      generalize ns[k] = z at *
      go_wp2_with fail
      go_quiet (fail)
      all_goals
        go_wp2_with fail
        go_roundw
        case rel => exact ⟨k + 1, by omega, by go_num, below_drewN HB.out _⟩
        case measure => simp [intOf]; omega
    · clear hb
      go_wp2_with fail
      go_ret
      exact ⟨rfl, HB.out⟩

set_option maxHeartbeats 1000000 in
set_option maxRecDepth 100000 in
theorem values_same (p q : Option Addr) (vs : List Vl) (c d : Nat) (w : World) (h1 : Vals w w.heap.size p vs) (h2 : Vals w w.heap.size q vs) (hm : vs.length ≤ maxLen) :
    Calls Try.prog 16 #[.slice p vs.length c, .slice q vs.length d] w fun e w' => e = .returned (.bool true) ∧ Below w.heap.size w w' := by
  unfold maxLen at hm
  have H1 := Lib.hid h1
  have H2 := Lib.hid h2
  clear h1 h2
  go_enter Try.func16, Try.ntmps16
  go_wp2_with fail
  go_loopw [5] (fun i wr => ∃ k : Nat, k ≤ vs.length ∧ i = .int .i64 k ∧ Below w.heap.size w wr) (fun i _ => vs.length - (intOf i).toNat)
  case atStart => exact ⟨0, Nat.zero_le _, rfl, Below.refl _ _⟩
  case round =>
    obtain ⟨k, hk, rfl, hb⟩ := hrel
    have HB := Lib.hid hb
    by_cases hlt : k < vs.length
    · obtain ⟨b1, o1, rfl, hb1, x1, x2⟩ := (H1.out.below HB.out (Nat.le_refl _)).at k hlt
      obtain ⟨b2, o2, rfl, hb2, y1, y2⟩ := (H2.out.below HB.out (Nat.le_refl _)).at k hlt
      have hne : ∀ wx, _ := fun wx => neSame vs[k].1 vs[k].2 wx
      clear hb
      generalize vs[k].1 = s at *
      generalize vs[k].2 = n at *
      go_wp2_with fail
      go_quiet (fail)
      all_goals
        go_wp2_with fail
        go_roundw
        case rel => exact ⟨k + 1, by omega, by go_num, below_drewN HB.out _⟩
        case measure => simp [intOf]; omega
    · clear hb
      go_wp2_with fail
      go_ret
      exact ⟨rfl, HB.out⟩
end Go.Proofs.Ytdoadclblloddaa
