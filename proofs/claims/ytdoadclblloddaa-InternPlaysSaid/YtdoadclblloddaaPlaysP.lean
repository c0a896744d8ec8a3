/-
  PROVED: mandatelaw02.InternPlays answers true for every input, and the argument reads afterwards as before. No condition.
-/
import Derived.Test.YtdoadclblloddaaPlaysO
import Derived.Test.YtdoadclblloddaaPlays0
import Derived.Test.YtdoadclblloddaaPlays1
import Derived.Test.YtdoadclblloddaaPlays2
import Derived.Test.YtdoadclblloddaaPlays3
import Derived.Test.YtdoadclblloddaaPlays4
import Derived.Test.YtdoadclblloddaaPlays5
namespace Go.Proofs.Ytdoadclblloddaa
open Go.ChangeShapes Go.WideShapes Go.ChangeAt Go.WideMaps Go.WideElems Go.RowKit Go.Joins Go.Deep
namespace PlaysP
open PlaysLaw

theorem six (i : Int) (h0 : 0 ≤ i) (h1 : i < 6) : base.1 i := by
  have h : i = 0 ∨ i = 1 ∨ i = 2 ∨ i = 3 ∨ i = 4 ∨ i = 5 := by omega
  rcases h with h | h | h | h | h | h <;> rw [h]
  · exact case0
  · exact case1
  · exact case2
  · exact case3
  · exact case4
  · exact case5

set_option maxRecDepth 100000 in
theorem lifted (os : Os) (started : os.Started) (H : Type) (enc : TypeId × Value → H) :
    ReturnsInHanded {} Try.checked os 3 .any (Rows.internPlaysSpec.pre6 enc Try.prog Try.f3 Rows.internPlaysRow.domain false) (Rows.internPlaysSpec.post enc Try.prog Try.f3 false true false false) := by
  refine returnsInHanded_of_change (C := Try.checked) own started (by kernel_rfl) Try.func3
    (ChangeSpec.witness6 (enc := enc) (C := Try.checked) false ⟨#[], #[.slice none 0 0], []⟩ 8 (by kernel_rfl) (by kernel_rfl) (by kernel_rfl) (by kernel_rfl)) ?_
  intro W base0 args ds gs before hval0 hW _ _
  have hval : ∀ (j : Nat) t v, Try.f3.params[j]? = some t → args[j]? = some v → Value.okWide Try.prog W .any base0 t v := hval0
  have hW' := hW
  obtain ⟨p, q, hA0, hV, rfl, hfz, hnd⟩ := hW
  have hA : DataW.TrodAll enc Try.prog W 0 (fun _ => true) true Try.f3.params.toList args.toList ds p := hA0
  rw [Try.params3] at hA hval
  obtain ⟨v0, d0, rfl, rfl, h0⟩ := trodAll_one hA
  obtain ⟨rfl, rfl⟩ := trodVars_none hV
  have k0 := h0
  have lt0 : ∀ x ∈ p, x.block < W.heap.size := by obtain ⟨m, hm⟩ := k0; exact DataW.trod_lt m _ _ _ hm
  obtain ⟨q, l, c, rfl, hv1, ho1, hm1⟩ := open22v (hval 0 22 v0 rfl rfl) h0
  clear hA0 hval0
  refine (base.2 six q l c W hv1 ho1 hm1).mono fun e W' ⟨he, hb⟩ => ?_
  subst he
  exact ⟨_, rfl, _, _, _, [], _, [], hW', trodAll_mk1 (shut_bool Try.underlying4 _), trodAll_mk1 (Below.trod laidOut (by kernel_rfl) (of_decide_eq_true (by kernel_rfl)) k0 hb lt0), rfl, hb.frame _, fun h => by cases h⟩
end PlaysP

theorem plays_holds : Rows.InternPlaysSaid :=
  OpenClaim.holds_of_wide 3 Try.f3 rfl rfl rfl rfl rfl rfl rfl ⟨rfl, rfl, rfl, rfl, rfl⟩ rfl rfl rfl rfl rfl (by kernel_rfl) Try.func3 (by kernel_rfl)
    (of_decide_eq_true (by kernel_rfl)) (by unfold Func.isWrapper; first | (rw [if_pos (by decide +kernel)]; kernel_rfl) | (rw [if_neg (by decide +kernel)]; exact ⟨rfl, rfl⟩))
    (fun os started H enc _ => PlaysP.lifted os started H enc)
end Go.Proofs.Ytdoadclblloddaa
