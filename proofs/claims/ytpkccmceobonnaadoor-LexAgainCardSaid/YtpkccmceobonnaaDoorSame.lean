/-
  Tokens held against one another; the law's same.
-/
import Derived.Test.YtpkccmceobonnaaDoorAllP
import Derived.Deep.QuietTactic
import Derived.BigQuiet
namespace Go.Proofs.YtpkccmceobonnaaDoor
open Go.RowKit

theorem eql32 (a b c d e f : Int) (w : World) : (binOp .eql 32 (.agg #[.int .u8 a, .int .i64 b, .int .i64 c]) (.agg #[.int .u8 d, .int .i64 e, .int .i64 f])).run Tryd.prog w = .ok (.bool ((a == d && (b == e && c == f)))) w := by
  have u5 := Tryd.underlying5
  have u3 := Tryd.underlying3
  have a5 := Tryd.isAgg5
  have z5 := Tryd.sizeOf5
  have a3 := Tryd.isAgg3
  have z3 := Tryd.sizeOf3
  have hS : Tryd.prog.underlying 32 = some (.struct (Tryd.prog.fieldsOf 32)) := by kernel_rfl
  have hp : Tryd.prog.stoodInHeld 32 = false := by kernel_rfl
  rw [run_eql_struct, show (10000 : Nat) = 9999 + 1 from rfl, run_equalIn_agg w 9999 32 _ _ hS hp]
  simp only [Program.fieldsOf, Tryd.underlying32]
  go_simp
  by_cases h1 : a = d <;> by_cases h2 : b = e <;> by_cases h3 : c = f <;> simp [h1, h2, h3]
theorem eql32_self (a b c : Int) (w : World) : (binOp .eql 32 (.agg #[.int .u8 a, .int .i64 b, .int .i64 c]) (.agg #[.int .u8 a, .int .i64 b, .int .i64 c])).run Tryd.prog w = .ok (.bool true) w := by
  rw [eql32]; simp
theorem neq32 (a b c d e f : Int) (w : World) : (binOp .neq 32 (.agg #[.int .u8 a, .int .i64 b, .int .i64 c]) (.agg #[.int .u8 d, .int .i64 e, .int .i64 f])).run Tryd.prog w = .ok (.bool (!(a == d && (b == e && c == f)))) w := by
  have u5 := Tryd.underlying5
  have u3 := Tryd.underlying3
  have a5 := Tryd.isAgg5
  have z5 := Tryd.sizeOf5
  have a3 := Tryd.isAgg3
  have z3 := Tryd.sizeOf3
  have hS : Tryd.prog.underlying 32 = some (.struct (Tryd.prog.fieldsOf 32)) := by kernel_rfl
  have hp : Tryd.prog.stoodInHeld 32 = false := by kernel_rfl
  rw [run_neq_struct, show (10000 : Nat) = 9999 + 1 from rfl, run_equalIn_agg w 9999 32 _ _ hS hp]
  simp only [Program.fieldsOf, Tryd.underlying32]
  go_simp
  by_cases h1 : a = d <;> by_cases h2 : b = e <;> by_cases h3 : c = f <;> simp [h1, h2, h3]
theorem neq32_self (a b c : Int) (w : World) : (binOp .neq 32 (.agg #[.int .u8 a, .int .i64 b, .int .i64 c]) (.agg #[.int .u8 a, .int .i64 b, .int .i64 c])).run Tryd.prog w = .ok (.bool false) w := by
  rw [neq32]; simp

theorem TokRow.at {w : World} {v : Value} {l : List Tok} (h : TokRow w v l) (i : Nat) (hi : i < l.length) : ∃ b c, v = .slice (some ⟨b, 0, none⟩) l.length c ∧ b < w.heap.size ∧
    w.cell? ⟨b, i * 3, none⟩ = some (.int .u8 l[i].kind) ∧ w.cell? ⟨b, i * 3 + 1, none⟩ = some (.int .i64 l[i].fr) ∧ w.cell? ⟨b, i * 3 + 2, none⟩ = some (.int .i64 l[i].to) := by
  obtain ⟨q, c, hv, h⟩ := h
  rcases h with h | ⟨b, hq, hl, h⟩
  · subst h; simp at hi
  · exact ⟨b, c, by rw [hv, hq], hl, h i hi⟩

set_option maxHeartbeats 2000000 in
set_option maxRecDepth 100000 in
theorem same_yes (u v : Value) (l : List Tok) (w : World) (hl : l.length ≤ 5000) (hu : TokRow w u l) (hv : TokRow w v l) :
    Calls Tryd.prog 12 #[u, v] w fun e w' => e = .returned (.bool true) ∧ Below w.heap.size w w' := by
  have HU := Lib.hid hu
  have HV := Lib.hid hv
  obtain ⟨q, c, rfl, _⟩ := hu
  obtain ⟨r, d, rfl, _⟩ := hv
  have hn := fun (a b c : Int) (wx : World) => neq32_self a b c wx
  have HN := Lib.hid hn
  clear hn
  go_enter Tryd.func12, Tryd.ntmps12
  go_wp2_with fail
  go_loopw [5] (fun i wr => ∃ k : Nat, k ≤ l.length ∧ i = .int .i64 k ∧ Below w.heap.size w wr) (fun i _ => l.length - (intOf i).toNat)
  case atStart => exact ⟨0, Nat.zero_le _, rfl, Below.refl _ _⟩
  case round =>
    obtain ⟨k, hk, rfl, hb⟩ := hrel
    by_cases hlt : k < l.length
    · obtain ⟨b1, c1, e1, _, x0, x1, x2⟩ := (HU.out.below hb).at k hlt
      obtain ⟨b2, c2, e2, _, y0, y1, y2⟩ := (HV.out.below hb).at k hlt
      cases e1
      cases e2
      have HB := Lib.hid hb
      clear hb
      have hn := fun (wx : World) => HN.out l[k].kind l[k].fr l[k].to wx
      go_wp2_with fail
      go_quiet (fail)
      go_wp2_with fail
      exact ⟨⟨k + 1, by omega, by go_num, below_drewN' HB.out _⟩, by simp [intOf]; omega⟩
    · go_wp2_with fail
      go_ret
      exact ⟨rfl, hb⟩
end Go.Proofs.YtpkccmceobonnaaDoor
