/-
  A scope with several labels: the run goes from label to label; each goto goes on at its label's code.
-/
import Derived.Test.YtpkccmceobonnaaDoorRows
import Derived.WalkKit
import Derived.Scope
import Derived.WalkMore
import Derived.ScopeJumps
namespace Go.Proofs.YtpkccmceobonnaaDoor
open Go

section
variable {P : Program} {c : Code} {Q : Exit → Act → World → Prop}
/-- code that runs within the scope c comes to an end as Q says -/
def InS (P : Program) (c : Code) (Q : Exit → Act → World → Prop) (d : Code) (a : Act) (w : World) : Prop :=
  ∀ b k cs, ∃ e a' w', Q e a' w' ∧ Arrives P (lone (b.at a (.code d :: .inScope c :: k)) cs w) b k cs e a' w'
/-- as Q; a goto goes on at its label -/
def ExS (P : Program) (c : Code) (Q : Exit → Act → World → Prop) : Exit → Act → World → Prop
  | .goto l, a, w => ∃ rest, findLabel c l = some rest ∧ InS P c Q rest a w
  | e, a, w => Q e a w
theorem ExS_ret {a : Act} {w : World} : ExS P c Q .ret a w = Q .ret a w := rfl
theorem ExS_goto {a : Act} {w : World} {l : Nat} (rest : Code) (hf : findLabel c l = some rest) (h : InS P c Q rest a w) : ExS P c Q (.goto l) a w := ⟨rest, hf, h⟩
theorem ins_of_wp {d : Code} {a : Act} {w : World} (h : d.wp P (ExS P c Q) a w) : InS P c Q d a w := by
  intro b k cs
  obtain ⟨e, a₁, w₁, hq, harr⟩ := h b (.inScope c :: k) cs
  cases e with
  | normal => exact ⟨.normal, a₁, w₁, hq, Steps.trans harr (.one step_inScope)⟩
  | exit id => exact ⟨.exit id, a₁, w₁, hq, fun k' hk => harr k' (by simp [exitTo, hk])⟩
  | goto l =>
    obtain ⟨rest, hf, hr⟩ := hq
    have hg : gotoIn l (.inScope c :: k) = some (.code rest :: .inScope c :: k) := by simp [gotoIn, hf]
    obtain ⟨e₂, a₂, w₂, hq₂, harr₂⟩ := hr b k cs
    exact ⟨e₂, a₂, w₂, hq₂, .of_steps (harr _ hg) harr₂⟩
  | ret => exact ⟨_, a₁, w₁, hq, harr⟩
  | panic ch => exact ⟨_, a₁, w₁, hq, harr⟩
  | outgrown => exact ⟨_, a₁, w₁, hq, harr⟩
theorem wp_scope_ins {a : Act} {w : World} (h : InS P c Q c a w) : (Code.scope c).wp P Q a w := by
  intro b k cs
  obtain ⟨e, a₁, w₁, hq, harr⟩ := h b k cs
  exact ⟨e, a₁, w₁, hq, .of_steps (.one step_scope) harr⟩
theorem wp_scope_walk {a : Act} {w : World} (h : c.wp P (ExS P c Q) a w) : (Code.scope c).wp P Q a w := wp_scope_ins (ins_of_wp h)
theorem ins_loop (d : Code) (J : Act → World → Prop) (μ : Act → World → Nat)
    (h : ∀ a w, J a w → (∀ a' w', J a' w' → μ a' w' < μ a w → InS P c Q d a' w') → d.wp P (ExS P c Q) a w) {a : Act} {w : World} (hJ : J a w) : InS P c Q d a w := by
  have key : ∀ n a w, μ a w = n → J a w → InS P c Q d a w := by
    intro n
    induction n using Nat.strongRecOn with
    | _ n ih =>
      intro a w hn hJ
      exact ins_of_wp (h a w hJ fun a' w' hj hlt => ih _ (by omega) a' w' rfl hj)
  exact key _ a w rfl hJ
end
end Go.Proofs.YtpkccmceobonnaaDoor
