/-
  Evaluation of closed calls: one operation.
-/
import Derived.Test.YtcganjggdkcfhaaGe9
set_option linter.unusedVariables false
set_option linter.unusedSimpArgs false
namespace Go.Ge

section
variable {P : Program} {μ : Mu} {h : Heap} {w : World} {id nx : Nat}

/-- what an operation that runs no code does -/
def DoesOp (P : Program) (s : Sem Next) (id nx : Nat) (μ : Mu) (h : Heap) (w : World) (v : Value) (h' : Heap) : Prop :=
  ∃ μ' v' w', (s.run P w = .ok (.value v') w' ∨ (s.run P w = .ok .skip w' ∧ v' = undef)) ∧ VR μ' v v' ∧ Rel μ' h' w' ∧ Goes id nx μ h w μ' h' w'
theorem Does.op {s : Sem Value} {v : Value} {h' : Heap} (hs : Does P s id nx μ h w v h') : DoesOp P (do pure (.value (← s))) id nx μ h w v h' := by
  obtain ⟨μ', v', w', h1, h2⟩ := hs
  exact ⟨μ', v', w', .inl (by simp [h1]), h2⟩
theorem undefVR : VR μ undef undef := .tuple .nil
theorem DoesU.op {s : Sem Unit} {h' : Heap} (hs : DoesU P s id nx μ h w h') : DoesOp P (do s; pure .skip) id nx μ h w undef h' := by
  obtain ⟨μ', w', h1, h2, h3⟩ := hs
  exact ⟨μ', undef, w', .inr ⟨by simp [h1], rfl⟩, undefVR, h2, h3⟩

/-- operands are what they are -/
def EvR (μ : Mu) (ev : Operand → Option Value) (ρ : Operand → Value) : Prop := ∀ x v, ev x = some v → VR μ v (ρ x)
def evL (ev : Operand → Option Value) : List Operand → Option (List Value)
  | [] => some []
  | x :: xs => match ev x with
    | some v => match evL ev xs with
      | some vs => some (v :: vs)
      | none => none
    | none => none
theorem evL_rel {ev : Operand → Option Value} {ρ : Operand → Value} (he : EvR μ ev ρ) : ∀ (xs : List Operand) (vs : List Value), evL ev xs = some vs → VRs μ vs (xs.map ρ)
  | [], vs, hl => by simp only [evL] at hl; cases hl; exact .nil
  | x :: xs, vs, hl => by
    simp only [evL] at hl
    split at hl
    · rename_i v hv
      split at hl
      · rename_i vs' hvs; cases hl; exact .cons (he _ _ hv) (evL_rel he xs vs' hvs)
      · cases hl
    · cases hl
def evP (ev : Operand → Option Value) : List (Nat × Operand) → Option (List (Nat × Value))
  | [] => some []
  | (i, x) :: xs => match ev x with
    | some v => match evP ev xs with
      | some vs => some ((i, v) :: vs)
      | none => none
    | none => none
theorem evP_rel {ev : Operand → Option Value} {ρ : Operand → Value} (he : EvR μ ev ρ) : ∀ (xs : List (Nat × Operand)) (vs : List (Nat × Value)), evP ev xs = some vs → PSR μ vs (xs.map fun (i, x) => (i, ρ x))
  | [], vs, hl => by simp only [evP] at hl; cases hl; exact .nil
  | (i, x) :: xs, vs, hl => by
    simp only [evP] at hl
    split at hl
    · rename_i v hv
      split at hl
      · rename_i vs' hvs; cases hl; exact .cons (he _ _ hv) (evP_rel he xs vs' hvs)
      · cases hl
    · cases hl
def evO (ev : Operand → Option Value) : Option Operand → Option (Option Value)
  | none => some none
  | some x => match ev x with
    | some v => some (some v)
    | none => none
theorem evO_rel {ev : Operand → Option Value} {ρ : Operand → Value} (he : EvR μ ev ρ) {x : Option Operand} {v : Option Value} (hl : evO ev x = some v) : OR μ v (x.map ρ) := by
  cases x with
  | none => simp only [evO] at hl; cases hl; exact .none
  | some x =>
    simp only [evO] at hl
    split at hl
    · rename_i v hv; cases hl; exact .some (he _ _ hv)
    · cases hl

/-- two values of which one is nil, or that are of unlike types -/
def aEq (P : Program) (t : TypeId) (a b : Value) : Option Bool :=
  match P.underlying t, a, b with
  | some (.pointer _), .pointer (some _), .pointer none => some false
  | some (.pointer _), .pointer none, .pointer (some _) => some false
  | some (.interface _), .iface _ _, .nilIface => some false
  | some (.interface _), .nilIface, .iface _ _ => some false
  | some (.interface _), .iface t _, .iface u _ => if t = u then none else some false
  | some (.slice _), .slice (some _) _ _, .slice none _ _ => some false
  | some (.slice _), .slice none _ _, .slice (some _) _ _ => some false
  | some (.map _ _), .map (some _), .map none => some false
  | some (.map _ _), .map none, .map (some _) => some false
  | some (.func _ _ _), .func _ _ _, .nilFunc => some false
  | some (.func _ _ _), .nilFunc, .func _ _ _ => some false
  | some (.pointer e), .pointer (some ⟨b, o, none⟩), .pointer (some ⟨b', o', none⟩) => match P.info? e with
    | some ie => if b = b' ∧ ie.size ≠ 0 then some (o == o') else none
    | none => none
  | _, _, _ => none
theorem run_eq_unfold {t : TypeId} {d : TypeDesc} {a b : Value} {x : Result Bool} (hu : P.underlying t = some d) (hx : (Op.equalIn (9999 + 1) t a b).run P w = x) : (Op.equal t a b).run P w = x := hx
theorem aEq_sound (r : Rel μ h w) {t : TypeId} {a a' b b' : Value} {q : Bool} (ha : VR μ a a') (hb : VR μ b b') (hl : aEq P t a b = some q) : (Op.equal t a' b').run P w = .ok q w := by
  unfold aEq at hl
  split at hl
  all_goals first
    | cases hl; done
    | skip
  all_goals rename_i hu
  all_goals refine run_eq_unfold hu ?_
  · cases hl; cases hb.eq_of_dat rfl; cases ha with
    | dat hd => simp [dat] at hd
    | ptr hp => rw [Op.equalIn]; simp [run_underlying hu]
  · cases hl; cases ha.eq_of_dat rfl; cases hb with
    | dat hd => simp [dat] at hd
    | ptr hp => rw [Op.equalIn]; simp [run_underlying hu]
  · cases hl; cases hb.eq_of_dat rfl; cases ha with
    | dat hd => simp [dat] at hd
    | iface hp => rw [Op.equalIn]; simp [run_underlying hu]
  · cases hl; cases ha.eq_of_dat rfl; cases hb with
    | dat hd => simp [dat] at hd
    | iface hp => rw [Op.equalIn]; simp [run_underlying hu]
  · split at hl
    · cases hl
    · rename_i hne
      cases hl
      cases ha with
      | dat hd => simp [dat] at hd
      | iface hp => cases hb with
        | dat hd => simp [dat] at hd
        | iface hq => rw [Op.equalIn]; simp [run_underlying hu, hne]
  · cases hl; cases hb.eq_of_dat rfl; cases ha <;> first | (rename_i hd; simp [dat] at hd; done) | (rw [Op.equalIn]; simp [run_underlying hu]; done)
  · cases hl; cases ha.eq_of_dat rfl; cases hb <;> first | (rename_i hd; simp [dat] at hd; done) | (rw [Op.equalIn]; simp [run_underlying hu]; done)
  · cases hl; cases hb.eq_of_dat rfl; cases ha with
    | dat hd => simp [dat] at hd
    | map hp => rw [Op.equalIn]; simp [run_underlying hu]
  · cases hl; cases ha.eq_of_dat rfl; cases hb with
    | dat hd => simp [dat] at hd
    | map hp => rw [Op.equalIn]; simp [run_underlying hu]
  · cases hl; cases hb.eq_of_dat rfl; cases ha <;> first | (rename_i hd; simp [dat] at hd; done) | (rw [Op.equalIn]; simp [run_underlying hu]; done)
  · cases hl; cases ha.eq_of_dat rfl; cases hb <;> first | (rename_i hd; simp [dat] at hd; done) | (rw [Op.equalIn]; simp [run_underlying hu]; done)
  · rename_i b o b2 o2 hx
    split at hl
    · rename_i ie hie
      split at hl
      · rename_i hc
        obtain ⟨rfl, hs⟩ := hc
        cases hl
        cases ha with
        | dat hd => simp [dat] at hd
        | ptr hp => cases hb with
          | dat hd => simp [dat] at hd
          | ptr hq =>
            rw [hp] at hq
            cases hq
            rw [Op.equalIn]; simp [run_underlying hu, sizeOf, typeInfo, hie, hs, sameAddr]
            rw [Bool.eq_iff_iff, beq_iff_eq, beq_iff_eq, Addr.mk.injEq]
            constructor
            · rintro ⟨_, he, _⟩
              omega
            · rintro rfl
              exact ⟨rfl, rfl, rfl⟩
      · cases hl
    · cases hl
end
end Go.Ge
