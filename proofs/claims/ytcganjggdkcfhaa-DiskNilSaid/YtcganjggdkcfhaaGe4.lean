/-
  Evaluation of closed calls: values that are built, slices.
-/
import Derived.Test.YtcganjggdkcfhaaGe3
set_option linter.unusedVariables false
set_option linter.unusedSimpArgs false
namespace Go.Ge

section
variable {P : Program} {μ : Mu} {h : Heap} {w : World} {id nx : Nat}

/-- parts of a literal -/
inductive PSR (μ : Mu) : List (Nat × Value) → List (Nat × Value) → Prop
  | nil : PSR μ [] []
  | cons {i : Nat} {v v' : Value} {xs xs' : List (Nat × Value)} : VR μ v v' → PSR μ xs xs' → PSR μ ((i, v) :: xs) ((i, v') :: xs')

theorem put_rel {off : Nat} : ∀ {vs vs' : List Value}, VRs μ vs vs' → ∀ (j : Nat) {a a' : Array Value}, VRs μ a.toList a'.toList →
    VRs μ ((vs.zipIdx j).foldl (fun cs (x : Value × Nat) => cs.setIfInBounds (off + x.2) x.1) a).toList ((vs'.zipIdx j).foldl (fun cs (x : Value × Nat) => cs.setIfInBounds (off + x.2) x.1) a').toList
  | _, _, .nil, j, a, a', ha => by simpa using ha
  | _, _, .cons hx hs, j, a, a', ha => by
    simp only [List.zipIdx_cons, List.foldl_cons]
    refine put_rel hs (j + 1) ?_
    simp only [Array.toList_setIfInBounds]
    exact ha.set _ hx
theorem fill_rel {place : Nat → Option (Nat × Nat)} : ∀ {ps ps' : List (Nat × Value)}, PSR μ ps ps' → ∀ {a a' c : Array Value}, VRs μ a.toList a'.toList → Instr.fill place a ps = some c →
    ∃ c', Instr.fill place a' ps' = some c' ∧ VRs μ c.toList c'.toList
  | _, _, .nil, a, a', c, ha, hf => by
    simp only [Instr.fill] at hf
    cases hf
    exact ⟨a', rfl, ha⟩
  | _, _, .cons (i := i) (v := v) (v' := v') hv hs, a, a', c, ha, hf => by
    simp only [Instr.fill] at hf ⊢
    cases hp : place i with
    | none => rw [hp] at hf; cases hf
    | some q =>
      obtain ⟨off, size⟩ := q
      rw [hp] at hf
      simp only at hf ⊢
      have e1 := hv.cells.length
      have e2 := ha.length
      simp only [Array.length_toList] at e1 e2
      rw [← e1, ← e2]
      split at hf
      · cases hf
      · rename_i hc
        rw [if_neg hc]
        refine fill_rel hs ?_ hf
        have := put_rel (off := off) hv.cells 0 ha
        simp only [← Array.foldl_toList, Array.toList_zipIdx]
        exact this

def aBuild (P : Program) (t : TypeId) (ps : List (Nat × Value)) : Option Value :=
  match P.info? t with
  | some i => match i.zero with
    | some z => if z.cells.toList.all dat = true then (match P.built t ps with | some c => some (.agg c) | none => none) else none
    | none => none
  | none => none
theorem built_rel {t : TypeId} {ps ps' : List (Nat × Value)} (hp : PSR μ ps ps') {c : Array Value} {i : TypeInfo} {z : Value} (hi : P.info? t = some i) (hz : i.zero = some z) (hd : z.cells.toList.all dat = true) (hb : P.built t ps = some c) :
    ∃ c', P.built t ps' = some c' ∧ VRs μ c.toList c'.toList := by
  unfold Program.built at hb ⊢
  rw [hi] at hb ⊢
  cases hu : P.underlying t with
  | none => rw [hu] at hb; cases hb
  | some d =>
    rw [hu] at hb
    cases d <;> simp only [hz] at hb ⊢ <;> try (cases hb; done)
    case array n e =>
      cases hie : P.info? e with
      | none => rw [hie] at hb; cases hb
      | some ie => rw [hie] at hb; exact fill_rel hp (VRs.dats hd) hb
    case struct fs =>
      cases hm : fs.toList.mapM (fun f => (P.info? f.type).map fun i => (f.offset, i.size)) with
      | none => rw [hm] at hb; cases hb
      | some places => rw [hm] at hb; exact fill_rel hp (VRs.dats hd) hb
theorem aBuild_sound (r : Rel μ h w) {t : TypeId} {ps ps' : List (Nat × Value)} {v : Value} (hp : PSR μ ps ps') (hl : aBuild P t ps = some v) : Does P (Instr.build t ps'.toArray) id nx μ h w v h := by
  unfold aBuild at hl
  split at hl
  · rename_i i hi
    split at hl
    · rename_i z hz
      split at hl
      · rename_i hd
        split at hl
        · rename_i c hc
          cases hl
          obtain ⟨c', h1, h2⟩ := built_rel hp hi hz hd hc
          exact Does.still r (run_build w t ps'.toArray c' (by simpa using h1)) (.agg h2)
        · cases hl
      · cases hl
    · cases hl
  · cases hl

/-- n cells of a zero -/
def zeros (z : Array Value) (n : Nat) : Array Value := (Array.range n).map (z[· % z.size]!)
theorem arr_range {α : Type} (f : Nat → α) (n : Nat) : (Array.range n).map f = ((List.range n).map f).toArray := Array.ext' (by simp)
theorem range0 : Array.range 0 = #[] := rfl
theorem zeros_dat {z : Array Value} (hd : z.toList.all dat = true) (n : Nat) (hz : z.size ≠ 0 ∨ n = 0) : (zeros z n).toList.all dat = true := by
  rw [List.all_eq_true] at hd ⊢
  intro x hx
  unfold zeros at hx
  simp only [Array.toList_map, List.mem_map, Array.toList_range] at hx
  obtain ⟨i, hi, rfl⟩ := hx
  have hi' : i < n := by simpa using hi
  have hlt : i % z.size < z.size := Nat.mod_lt _ (by omega)
  refine hd _ ?_
  rw [getElem!_pos z (i % z.size) hlt]
  exact Array.getElem_mem_toList hlt

def aBuildSlice (P : Program) (id : Nat) (h : Heap) (t : TypeId) (len : Nat) (ps : List (Nat × Value)) : Option (Value × Heap) :=
  match P.underlying t with
  | some (.slice e) => match P.info? e with
    | some ie =>
      if len * ie.size = 0 then (if ps.isEmpty = true then some (.slice (some ⟨id, 0, none⟩) len len, h.set id (some (.cells [] e none))) else none) else
      match ie.zero with
      | some z => if len * ie.size ≤ 2 ^ 24 ∧ z.cells.size ≠ 0 ∧ z.cells.toList.all dat = true then
          (match Instr.fill (fun i => some (i * ie.size, ie.size)) (zeros z.cells (len * ie.size)) ps with
            | some c => some (.slice (some ⟨id, 0, none⟩) len len, h.set id (some (.cells c.toList e none)))
            | none => none) else none
      | none => none
    | none => none
  | _ => none
theorem aBuildSlice_sound (r : Rel μ h w) {t : TypeId} {len : Nat} {ps ps' : List (Nat × Value)} {v : Value} {h' : Heap} (hlt : id < 65536) (hb : μ id = none) (hh : h.get id = none) (hp : PSR μ ps ps') (hl : aBuildSlice P id h t len ps = some (v, h')) :
    Does P (Instr.buildSlice t len ps'.toArray) id nx μ h w v h' := by
  unfold aBuildSlice at hl
  split at hl
  · rename_i e hu
    split at hl
    · rename_i ie hie
      split at hl
      · rename_i hz
        split at hl
        · rename_i hemp
          cases hl
          have : ps = [] := by simpa using hemp
          subst this
          cases hp
          obtain ⟨μ', h1, h2, h3⟩ := newRow_sound (e := e) (nx := nx) r hlt hb hh (.nil (μ := μ))
          refine ⟨μ', _, _, ?_, by have := VR.slice (o := 0) (len := len) (cap := len) h1; simpa using this, h2, h3⟩
          simp [Instr.buildSlice, run_underlying hu, sizeOf, typeInfo, hie, hz, Instr.fill, newRow, range0]
        · cases hl
      · rename_i hz
        split at hl
        · rename_i z hzz
          split at hl
          · rename_i hn
            split at hl
            · rename_i c hc
              cases hl
              obtain ⟨c', hc', hcr⟩ := fill_rel hp (VRs.dats (μ := μ) (zeros_dat hn.2.2 (len * ie.size) (.inl hn.2.1))) hc
              obtain ⟨μ', h1, h2, h3⟩ := newRow_sound (e := e) (nx := nx) r hlt hb hh hcr
              refine ⟨μ', _, _, run_buildSlice w t e len ps'.toArray c' ie z hu hie hzz (by omega) hz (by simpa [zeros] using hc'), by have := VR.slice (o := 0) (len := len) (cap := len) h1; simpa using this, by simpa using h2, by simpa using h3⟩
            · cases hl
          · cases hl
        · cases hl
    · cases hl
  · cases hl

def aMakeSlice (P : Program) (id : Nat) (h : Heap) (t : TypeId) (len cap : Value) : Option (Value × Heap) :=
  match P.underlying t, len, cap with
  | some (.slice e), .int _ l, .int _ c => match P.info? e with
    | some ie => match ie.zero with
      | some z => if 0 ≤ l ∧ l ≤ c ∧ c ≤ 65536 ∧ ie.bytes ≤ 65536 ∧ z.cells.size ≠ 0 ∧ z.cells.toList.all dat = true then
          some (.slice (some ⟨id, 0, none⟩) l.toNat c.toNat, h.set id (some (.cells (zeros z.cells (c.toNat * ie.size)).toList e none))) else none
      | none => none
    | none => none
  | _, _, _ => none
theorem wrap_small {n : Int} (h0 : 0 ≤ n) (h1 : n ≤ 65536) : IntKind.i64.wrap n = n := by
  have e : IntKind.i64.wrap n = if (true && decide (n % 2 ^ 64 ≥ (2 ^ 63 : Int))) = true then n % 2 ^ 64 - 2 ^ 64 else n % 2 ^ 64 := rfl
  have e2 : n % 2 ^ 64 = n := Int.emod_eq_of_lt h0 (by omega)
  rw [e, e2, if_neg]
  simp
  omega
theorem aMakeSlice_sound (r : Rel μ h w) {t : TypeId} {len cap len' cap' : Value} {v : Value} {h' : Heap} (hlt : id < 65536) (hb : μ id = none) (hh : h.get id = none) (h1 : VR μ len len') (h2 : VR μ cap cap') (hl : aMakeSlice P id h t len cap = some (v, h')) :
    Does P (Instr.makeSlice t len' cap') id nx μ h w v h' := by
  unfold aMakeSlice at hl
  split at hl
  · rename_i e k l k' c hu
    cases h1.eq_of_dat rfl
    cases h2.eq_of_dat rfl
    split at hl
    · rename_i ie hie
      split at hl
      · rename_i z hz
        split at hl
        · rename_i hn
          cases hl
          obtain ⟨n1, n2, n3, n4, n5, n6⟩ := hn
          obtain ⟨μ', h1, h2, h3⟩ := newRow_sound (e := e) (nx := nx) r hlt hb hh (VRs.dats (μ := μ) (zeros_dat n6 (c.toNat * ie.size) (.inl n5)))
          refine ⟨μ', _, _, ?_, by have := VR.slice (o := 0) (len := l.toNat) (cap := c.toNat) h1; simpa using this, h2, h3⟩
          have hb1 : (ie.bytes : Int) * c ≤ 2 ^ 48 := by
            have : (ie.bytes : Int) * c ≤ 65536 * 65536 := Int.mul_le_mul (by omega) (by omega) (by omega) (by omega)
            omega
          have t1 : (decide (c < 0) || decide (2 ^ 48 < (ie.bytes : Int) * c)) = false := by
            simp only [Bool.or_eq_false_iff, decide_eq_false_iff_not]
            omega
          have w1 := wrap_small n1 (by omega)
          have w2 := wrap_small (n := c) (by omega) (by omega)
          have c1 : ¬ (c < 0) := by omega
          have c2 : ¬ ((281474976710656 : Int) < (ie.bytes : Int) * c) := by omega
          have c3 : ¬ (l < 0) := by omega
          have c4 : ¬ (c < l) := by omega
          by_cases hc0 : c.toNat * ie.size = 0
          · simp [Instr.makeSlice, run_underlying hu, typeInfo, hie, asInt, asIntOf, w1, w2, c1, c2, c3, c4, sizeOf, hc0, newRow, zeros, range0]
          · simp [Instr.makeSlice, run_underlying hu, typeInfo, hie, asInt, asIntOf, w1, w2, c1, c2, c3, c4, sizeOf, hc0, newRow, zeros, zeroValue, hz]
            simp_all [arr_range]
        · cases hl
      · cases hl
    · cases hl
  · cases hl
end
end Go.Ge
