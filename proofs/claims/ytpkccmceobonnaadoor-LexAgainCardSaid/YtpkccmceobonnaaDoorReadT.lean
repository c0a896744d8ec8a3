/-
  Plain facts for the reference's Read: its guard against too great numbers; the result's cells.
-/
import Derived.Test.YtpkccmceobonnaaDoorReadM
namespace Go.Proofs.YtpkccmceobonnaaDoor
open Go.RowKit
theorem guard_tdiv (d : Int) (_h0 : 0 ≤ d) (h1 : d ≤ 9) : ((-9223372036854775808 : Int) + d).tdiv 10 = -((9223372036854775808 - d) / 10) := by
  rw [show (-9223372036854775808 : Int) + d = -(9223372036854775808 - d) by omega, Int.neg_tdiv, Int.tdiv_eq_ediv_of_nonneg (by omega)]
theorem cellsR25 {w wr : World} (hb : Below (w.alloc (.cells #[.string ⟨#[]⟩, .int .i64 0] 43)).heap.size (w.alloc (.cells #[.string ⟨#[]⟩, .int .i64 0] 43)) wr) :
    wr.cell? ⟨w.heap.size, 0, none⟩ = some (.string ⟨#[]⟩) ∧ wr.cell? ⟨w.heap.size, 1, none⟩ = some (.int .i64 0) ∧ wr.frozen? ⟨w.heap.size, 0, none⟩ = false ∧ wr.frozen? ⟨w.heap.size, 1, none⟩ = false ∧ w.heap.size < wr.heap.size := by
  have c0 := hb.cell (p := ⟨w.heap.size, 0, none⟩) (by simp)
  have c1 := hb.cell (p := ⟨w.heap.size, 1, none⟩) (by simp)
  have f0 := hb.frozen (p := ⟨w.heap.size, 0, none⟩) (by simp)
  have f1 := hb.frozen (p := ⟨w.heap.size, 1, none⟩) (by simp)
  have hz := hb.size
  simp [go_sem] at c0 c1 f0 f1 hz
  exact ⟨c0, c1, f0, f1, by omega⟩
end Go.Proofs.YtpkccmceobonnaaDoor
