/-
  Evaluation of closed calls: entries, clear, delete, min, max.
-/
import Derived.Test.YtcganjggdkcfhaaGe10
set_option linter.unusedVariables false
set_option linter.unusedSimpArgs false
namespace Go.Ge

section
variable {P : Program} {μ : Mu} {h : Heap} {w : World} {id nx : Nat}

def aEntry (h : Heap) (it : Value) : Option Value :=
  match it with
  | .pointer (some ⟨b, 0, none⟩) =>
    match h.get b with
    | some (.iterM (some m) _ seen stepped) =>
      match seen.back?, h.get m with
      | some stamp, some (.map es clock) => if clock = stepped then
          (match es.find? (fun e => e.born == stamp) with
            | some e => some (.tuple ⟨[e.key, e.val]⟩)
            | none => none) else none
      | _, _ => none
    | _ => none
  | _ => none
theorem find_ESR {p : Nat → Bool} : ∀ {es es' : List MapEntry}, ESR μ es es' → ∀ e, es.find? (fun e => p e.born) = some e → ∃ e', es'.find? (fun e => p e.born) = some e' ∧ VR μ e.key e'.key ∧ VR μ e.val e'.val
  | _, _, .nil, e, h => by simp at h
  | _, _, .cons (n := n) a b c, e, h => by
    simp only [List.find?_cons] at h ⊢
    cases hp : p n with
    | true => simp only [hp] at h ⊢; cases h; exact ⟨_, rfl, a, b⟩
    | false => simp only [hp] at h ⊢; exact find_ESR c e h
theorem aEntry_sound (r : Rel μ h w) {it it' v : Value} (hx : VR μ it it') (hl : aEntry h it = some v) : Does P (Instr.entry it') id nx μ h w v h := by
  unfold aEntry at hl
  split at hl
  · rename_i b
    cases hx with
    | dat hd => simp [dat] at hd
    | ptr hp =>
      rename_i p
      split at hl
      · rename_i m since seen stepped hb
        split at hl
        · rename_i stamp es clock hst hm
          split at hl
          · rename_i hcl
            split at hl
            · rename_i e he
              cases hl
              obtain ⟨q, hq, hd, m', ho, q2, hm1, hm2⟩ : ∃ q, μ b = some q ∧ q.disp = 0 ∧ ∃ m', w.heap[q.blk]? = some (.mapIter m' since seen stepped) ∧ ∃ q2, μ m = some q2 ∧ m' = some q2.blk := r.live b _ hb
              rw [hp] at hq
              cases hq
              subst hm2
              have hg : (getObj p.blk).run P w = .ok (.mapIter (some q2.blk) since seen stepped) w := by simp [getObj, Sem.run, ho]
              obtain ⟨es', h1, hes⟩ := getObj_map r hm hm1
              have hgm := run_getObj_map (P := P) h1
              obtain ⟨e', k1, k2, k3⟩ := find_ESR (p := fun n => n == stamp) hes e he
              refine Does.still r (v' := .tuple ⟨[e'.key, e'.val]⟩) ?_ (.tuple (.cons k2 (.cons k3 .nil)))
              have hfa : (⟨es'⟩ : Array MapEntry).find? (fun e => e.born == stamp) = some e' := by simpa using k1
              have hne : (clock != stepped) = false := by simpa using hcl
              unfold Instr.entry
              simp only [hd, Nat.zero_add, Sem.run_bind, hg, Result.andThen_ok, hst, hgm, hne, hfa]
              simp
            · cases hl
          · cases hl
        · cases hl
      · cases hl
  · cases hl

def aClear (P : Program) (h : Heap) (t : TypeId) (x : Value) : Option (Value × Heap) :=
  match P.underlying t, x with
  | some _, .map none => some (.tuple #[], h)
  | some _, .slice none _ _ => some (.tuple #[], h)
  | some _, .map (some b) => match h.get b with
    | some (.map _ clock) => some (.tuple #[], h.set b (some (.map [] clock)))
    | _ => none
  | _, _ => none
theorem aClear_sound (r : Rel μ h w) {t : TypeId} {x x' v : Value} {ty : TypeId} {rest : List TypeId} {rest' : List Value} {h' : Heap} (hx : VR μ x x') (hl : aClear P h t x = some (v, h')) :
    Does P (Builtin.clear_ (t :: rest).toArray ty (x' :: rest').toArray) id nx μ h w v h' := by
  unfold aClear at hl
  split at hl
  · rename_i d hu
    cases hx.eq_of_dat rfl
    cases hl
    refine Does.still r (v' := .tuple #[]) ?_ (.tuple .nil)
    cases d <;> simp [Builtin.clear_, run_underlying hu]
  · rename_i d n c hu
    cases hx.eq_of_dat rfl
    cases hl
    refine Does.still r (v' := .tuple #[]) ?_ (.tuple .nil)
    cases d <;> simp [Builtin.clear_, run_underlying hu]
  · rename_i d b hu
    split at hl
    · rename_i es clock hb
      cases hl
      cases hx with
      | dat hd => simp [dat] at hd
      | map hp =>
        obtain ⟨es', h1, he⟩ := getObj_map r hb hp
        obtain ⟨μ', w', a, b1, b2⟩ := setObj_sound (P := P) (id := id) (nx := nx) r (o' := .map [] clock) (ob := .map #[] clock) hb hp h1 (fun _ _ _ => by simp) ⟨[], rfl, .nil⟩
        refine ⟨μ', .tuple #[], w', ?_, .tuple .nil, b1, b2⟩
        cases d <;> simp [Builtin.clear_, run_underlying hu, run_getObj_map h1, a]
    · cases hl
  · cases hl

theorem min_any (ats : Array TypeId) (t u : TypeId) (args : Array Value) : Builtin.min_ ats t args = Builtin.min_ #[] 0 args := rfl
theorem max_any (ats : Array TypeId) (t u : TypeId) (args : Array Value) : Builtin.max_ ats t args = Builtin.max_ #[] 0 args := rfl
end
end Go.Ge
