/-
  The walk of WalNil, by evaluation; what the laws' examples say, too.
-/
import Derived.Test.YtooiaadnhglifaaDoorGeD
import Derived.Test.YtooiaadnhglifaaDoorKnw
set_option linter.unusedVariables false
set_option linter.unusedSimpArgs false
set_option maxRecDepth 100000
namespace Go.Proofs.YtooiaadnhglifaaDoor
open Go.RowKit

def pre1 : List (List UInt8 × List UInt8) := [([0, 0, 0, 0, 0, 0, 0, 1, 120], [2, 143, 13, 245, 184, 89, 111, 188, 209, 12, 151, 32, 183, 164, 120, 79, 142, 126, 4, 246, 41, 189, 90, 98, 191, 189, 241, 57, 103, 139, 102, 36]),
  ([0, 0, 0, 0, 0, 0, 0, 1, 97], [59, 25, 111, 212, 144, 123, 237, 245, 28, 48, 144, 233, 131, 95, 47, 124, 182, 30, 126, 225, 178, 41, 158, 163, 184, 254, 217, 180, 24, 58, 130, 42]),
  ([0, 0, 0, 0, 0, 0, 0, 2, 98], [60, 78, 36, 132, 233, 132, 147, 168, 10, 10, 129, 169, 51, 22, 140, 141, 151, 39, 114, 69, 92, 79, 75, 25, 31, 242, 61, 35, 189, 0, 43, 178])]
theorem pre1_ok : ∀ p ∈ pre1, sumS p.1 = p.2 := by
  unfold pre1
  simp only [List.forall_mem_cons]
  refine ⟨?_, ?_, ?_, fun p hp => by cases hp⟩ <;> decide +kernel
noncomputable def tabs2 : List (Nat × List Value) := [(0, cells32 firstS.l), (1, cells32 roundsS)]
theorem tabs2_at {w : World} (h : Env w) : ∀ g c, (g, c) ∈ tabs2 → ∀ (i : Nat) v, c[i]? = some v → w.cell? ⟨g, i, none⟩ = some v := by
  intro g cs hm
  simp only [tabs2, List.mem_cons, List.not_mem_nil, or_false, Prod.mk.injEq] at hm
  rcases hm with ⟨rfl, rfl⟩ | ⟨rfl, rfl⟩
  · exact h.fst
  · exact h.cst
theorem nil_true : Ge.saysTrueL ((Ge.levL Tryd.prog (Ge.drawF Tryd.prog) (knS pre1) 30).call 8 [.chan (some 70000)] ⟨Ge.tabsH tabs2, 2⟩) = true := by kernel_rfl
theorem nil_walk (v : Value) (hv : v.oneCell' = true) (w : World) (h : Env w) : Calls Tryd.prog 8 #[v] w fun e w' => e = .returned (.bool true) ∧ Below w.heap.size w w' :=
  Ge.groundL (Ge.levL_ok (Ge.drawF_ok Tryd.prog) (knS_ok pre1_ok) 30) (n := 2) tabs2 (by decide +kernel) (by decide) [v] nil_true (.cons (Ge.opq_at 0 rfl hv) .nil) w (tabs2_at h)
theorem oneCell_bytes {W : World} {base : Nat} {v : Value} (hv : Value.okWide Tryd.prog W .any base 22 v) : v.oneCell' = true := by
  have key : ∀ {P : Program} {e : TypeId}, P.underlying 22 = some (.slice e) → Value.okWide P W .any base 22 v → v.oneCell' = true := by
    intro P e hu hv
    simp only [Value.okWide, hu, Cell.okWide] at hv
    cases v <;> simp_all [Cell.ok, Value.oneCell']
  exact key Tryd.underlying22 hv
end Go.Proofs.YtooiaadnhglifaaDoor
