/-
  PROVED: mandatelaw02.InternFull answers true for every input, and each argument reads afterwards as before. No condition.
-/
import Derived.Test.YtdoadclblloddabFullW
import Derived.Test.YtdoadclblloddabOpen
namespace Go.Proofs.Ytdoadclblloddab
open Go.ChangeShapes Go.WideShapes Go.ChangeAt Go.WideMaps Go.WideElems Go.RowKit Go.Joins Go.Deep
namespace FullP

set_option maxRecDepth 100000 in
theorem lifted (os : Os) (started : os.Started) (H : Type) (enc : TypeId × Value → H) :
    ReturnsInHanded {} Try.checked os 3 .any (Rows.internFullSpec.pre6 enc Try.prog Try.f3 Rows.internFullRow.domain false) (Rows.internFullSpec.post enc Try.prog Try.f3 false true false false) := by
  refine returnsInHanded_of_change (C := Try.checked) own started (by kernel_rfl) Try.func3
    (ChangeSpec.witness6 (enc := enc) (C := Try.checked) false ⟨#[], #[.int .u16 0], []⟩ 8 (by kernel_rfl) (by kernel_rfl) (by kernel_rfl) (by kernel_rfl)) ?_
  intro W base args ds gs before hval0 hW _ _
  have hval : ∀ (j : Nat) t v, Try.f3.params[j]? = some t → args[j]? = some v → Value.okWide Try.prog W .any base t v := hval0
  have hW' := hW
  obtain ⟨p, q, hA0, hV, rfl, hfz, hnd⟩ := hW
  have hA : DataW.TrodAll enc Try.prog W 0 (fun _ => true) true Try.f3.params.toList args.toList ds p := hA0
  rw [Try.params3] at hA hval
  obtain ⟨v0, d0, rfl, rfl, h0⟩ := trodAll_one hA
  obtain ⟨rfl, rfl⟩ := trodVars_none hV
  have k0 := h0
  have lt0 : ∀ x ∈ p, x.block < W.heap.size := by obtain ⟨m, hm⟩ := k0; exact DataW.trod_lt m _ _ _ hm
  obtain ⟨n, rfl, hw⟩ : ∃ n, v0 = .int .u16 n ∧ (Lit.int .u16 n).wf = true := by
    have hv := hval 0 22 v0 rfl rfl
    obtain ⟨fuel, hf⟩ := h0
    have hc : v0.cells.toList = [v0] := by
      simp only [Value.okWide, Try.underlying22, Cell.okWide] at hv
      cases v0 <;> simp_all [Cell.ok, Value.cells]
    rw [hc] at hf
    obtain ⟨n, e, _, z⟩ := DataW.trod_int Try.underlying22 hf
    simp at e
    exact ⟨n, e, z⟩
  have hb : 0 ≤ n ∧ n ≤ 65535 := by
    have h2 : IntKind.u16.min ≤ n ∧ n ≤ IntKind.u16.max := by simpa [Lit.wf] using hw
    exact h2
  obtain ⟨m, rfl⟩ := Int.eq_ofNat_of_zero_le hb.1
  clear hA0 hval0
  refine (FullLaw.walk m W (by omega)).mono fun e W' ⟨he, hb⟩ => ?_
  subst he
  exact ⟨_, rfl, _, _, _, [], _, [], hW', trodAll_mk1 (shut_bool Try.underlying4 _), trodAll_mk1 (Below.trod laidOut (by kernel_rfl) (of_decide_eq_true (by kernel_rfl)) k0 hb lt0), rfl, hb.frame _, fun h => by cases h⟩
end FullP

theorem full_holds : Rows.InternFullSaid :=
  OpenClaim.holds_of_wide 3 Try.f3 rfl rfl rfl rfl rfl rfl rfl ⟨rfl, rfl, rfl, rfl, rfl⟩ rfl rfl rfl rfl rfl (by kernel_rfl) Try.func3 (by kernel_rfl)
    (of_decide_eq_true (by kernel_rfl)) (by unfold Func.isWrapper; first | (rw [if_pos (by decide +kernel)]; kernel_rfl) | (rw [if_neg (by decide +kernel)]; exact ⟨rfl, rfl⟩))
    (fun os started H enc _ => FullP.lifted os started H enc)
end Go.Proofs.Ytdoadclblloddab
