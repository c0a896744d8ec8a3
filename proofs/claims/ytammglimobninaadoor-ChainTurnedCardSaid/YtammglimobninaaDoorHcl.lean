/-
  Contracts: bytes.Clone, chain.isCut.
-/
import Derived.Test.YtammglimobninaaDoorHrb
import Derived.Laws.Cover3
set_option linter.unusedVariables false
set_option linter.unusedSimpArgs false
namespace Go.Proofs.YtammglimobninaaDoor
open Go.RowKit Nm

set_option maxRecDepth 100000 in
theorem clone_any (b o c : Nat) (m : List UInt8) (w : World) (hR : Rd0 w (some ⟨b, o, none⟩) m) (hz : m.length ≤ 1000000000) :
    Calls Tryd.prog 56 #[.slice (some ⟨b, o, none⟩) m.length c] w fun e w' => ∃ v', e = .returned v' ∧ Acc w' w.heap.size v' m ∧ Below w.heap.size w w' := by
  have HR := Lib.hid hR
  clear hR
  have hcmp : ∀ wx : World, (binOp .eql 25 (.slice (some ⟨b, o, none⟩) m.length c) (.slice none 0 0)).run Tryd.prog wx = .ok (.bool false) wx := fun wx => by
    simp only [binOp]
    simp [run_equal_slice_nil wx 25 5 _ _ _ Tryd.underlying25]
  go_enter Tryd.func56, Tryd.ntmps56
  go_wp2_with (refine wpList_app8 rfl _ _ rfl rfl w.heap.size _ [] rfl (acc_made (w := w) (Nat.le_refl _)) _ m _ _ rfl rfl (HR.out.on (below1 _ _)) (by simp; omega) (by simp) ?_; intro v2 w2 hA hb; rw [List.nil_append] at hA; have HA := Lib.hid hA; have HB := Lib.hid ((below1 w (.cells #[] 5)).trans hb); clear hA hb)
  go_ret
  exact ⟨_, rfl, HA.out, HB.out⟩
theorem iscut_any (k : Int) (w : World) : Calls Tryd.prog 36 #[.int .i64 k] w fun e w' => e = .returned (.bool (decide (1 ≤ k) && decide (k ≤ 32))) ∧ w = w' := by
  by_cases h1 : 1 ≤ k
  · go_enter Tryd.func36, Tryd.ntmps36
    go_wp2_with fail
    go_ret
    exact ⟨by simp [h1], rfl⟩
  · have h2 : k < 1 := by omega
    go_enter Tryd.func36, Tryd.ntmps36
    go_wp2_with fail
    go_ret
    exact ⟨by rw [decide_eq_false (show ¬ 1 ≤ k by omega)]; rfl, rfl⟩
end Go.Proofs.YtammglimobninaaDoor
