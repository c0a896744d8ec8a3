/-
  A map whose keys are texts, with one element for all of them, laid out in the order in which they came: looking up, storing (any program).
-/
import Derived.Test.YtbkdpdklpmcdgaaBas
import Derived.Maps.OwnSet
import Derived.Maps.AppendAt
set_option linter.unusedVariables false
set_option linter.unusedSimpArgs false
namespace Go.Proofs.Ytbkdpdklpmcdgaa
open Go.Maps Go.ChangeMaps Go.WideMaps Go.RowKit

def entS (u : Value) (c : Nat) (p : ByteArray × Nat) : MapEntry := { key := .string p.1, val := u, born := c + p.2 }
def entsS (u : Value) (c : Nat) (l : List ByteArray) : List MapEntry := l.zipIdx.map (entS u c)
/-- block b is a map whose keys are the texts of the list, in the order in which they came, each with the element u -/
def MapS (w : World) (b : Nat) (u : Value) (l : List ByteArray) : Prop := ∃ c, w.heap[b]? = some (.map (entsS u c l).toArray (c + l.length))
theorem entsS_get (u : Value) (c : Nat) (l : List ByteArray) (j : Nat) (h : j < l.length) : (entsS u c l)[j]? = some (entS u c (l[j], j)) := by
  unfold entsS
  rw [List.getElem?_map, List.getElem?_zipIdx]
  simp [List.getElem?_eq_getElem h]
theorem entsS_len (u : Value) (c : Nat) (l : List ByteArray) : (entsS u c l).length = l.length := by simp [entsS]
theorem entsS_snoc (u : Value) (c : Nat) (l : List ByteArray) (v : ByteArray) : entsS u c (l ++ [v]) = entsS u c l ++ [entS u c (v, l.length)] := by
  simp [entsS, List.zipIdx_append]
theorem entsS_mem (u : Value) (c : Nat) (l : List ByteArray) (e : MapEntry) (h : e ∈ entsS u c l) : ∃ j, ∃ h : j < l.length, e = entS u c (l[j], j) := by
  obtain ⟨j, hj, rfl⟩ := List.mem_iff_getElem.1 h
  have hj' : j < l.length := by simpa [entsS_len] using hj
  refine ⟨j, hj', ?_⟩
  have := entsS_get u c l j hj'
  rw [List.getElem?_eq_getElem hj] at this
  exact Option.some.inj this
/-- is a text in a list -/
def hasS (l : List ByteArray) (v : ByteArray) : Bool := l.any fun x => x.data.toList == v.data.toList
theorem hasS_iff {l : List ByteArray} {v : ByteArray} : hasS l v = true ↔ v ∈ l := by
  unfold hasS
  rw [List.any_eq_true]
  constructor
  · rintro ⟨x, hx, h⟩
    have h := beq_iff_eq.1 h
    have : x = v := ByteArray.ext (Array.toList_inj.1 h)
    exact this ▸ hx
  · exact fun h => ⟨v, h, beq_self_eq_true _⟩
theorem hasS_not {l : List ByteArray} {v : ByteArray} : hasS l v = false ↔ v ∉ l := by
  rw [← hasS_iff]; simp
section
variable {P : Program} {k : TypeId} {w : World}
/-- any text that may be can be a key -/
def SKey (P : Program) (k : TypeId) : Prop := ∀ v : ByteArray, v.size ≤ maxLen → ∃ x, keyOf P k (.string v) = some x
theorem findS_in (K : Keyed P k) (S : SKey P k) {l : List ByteArray} (hl : ∀ v ∈ l, v.size ≤ maxLen) (u : Value) (c : Nat) (v : ByteArray) (hv : v ∈ l) :
    ∃ j, (Instr.findKey k (.string v) (entsS u c l)).run P w = .ok (some (j, u)) w ∧ (entsS u c l)[j]? = some (entS u c (v, j)) := by
  obtain ⟨x, hx⟩ := S v (hl v hv)
  have hall : ∀ e ∈ entsS u c l, ∃ y, keyOf P k e.key = some y := by
    intro e he
    obtain ⟨i, hi, rfl⟩ := entsS_mem u c l e he
    exact S _ (hl _ (List.getElem_mem hi))
  obtain ⟨j, hj, e⟩ := List.mem_iff_getElem.1 hv
  rcases K.find w hx (entsS u c l) hall with ⟨_, h2⟩ | ⟨i, e0, h1, h2, h3⟩
  · exfalso
    have := h2 (entS u c (l[j], j)) (List.mem_of_getElem? (entsS_get u c l j hj))
    exact this (by simp [entS, e])
  · have hi : i < l.length := by rw [← entsS_len u c l]; exact (List.getElem?_eq_some_iff.1 h2).1
    have hg := entsS_get u c l i hi
    rw [hg] at h2
    obtain rfl := Option.some.inj h2
    have h3 : l[i] = v := by injection h3
    rw [h3] at hg
    exact ⟨i, h1, hg⟩
theorem findS_out (K : Keyed P k) (S : SKey P k) {l : List ByteArray} (hl : ∀ v ∈ l, v.size ≤ maxLen) (u : Value) (c : Nat) (v : ByteArray) (hz : v.size ≤ maxLen) (h : v ∉ l) :
    (Instr.findKey k (.string v) (entsS u c l)).run P w = .ok none w := by
  obtain ⟨x, hx⟩ := S v hz
  have hall : ∀ e ∈ entsS u c l, ∃ y, keyOf P k e.key = some y := by
    intro e he
    obtain ⟨i, hi, rfl⟩ := entsS_mem u c l e he
    exact S _ (hl _ (List.getElem_mem hi))
  rcases K.find w hx (entsS u c l) hall with ⟨h1, _⟩ | ⟨i, e0, h1, h2, h3⟩
  · exact h1
  · exfalso
    have hi : i < l.length := by rw [← entsS_len u c l]; exact (List.getElem?_eq_some_iff.1 h2).1
    rw [entsS_get u c l i hi] at h2
    obtain rfl := Option.some.inj h2
    have h3 : l[i] = v := by injection h3
    exact h (h3 ▸ List.getElem_mem hi)
/-- is a text in the map -/
theorem lookS (K : Keyed P k) (S : SKey P k) {t e : TypeId} (ht : P.underlying t = some (.map k e)) {u : Value} (hz : (zeroValue e).run P w = .ok u w) {b : Nat} {l : List ByteArray} (hb : MapS w b u l) (hl : ∀ v ∈ l, v.size ≤ maxLen) (v : ByteArray) (hv : v.size ≤ maxLen) :
    (Instr.lookup t (.map (some b)) (.string v) true).run P w = .ok (.tuple #[u, .bool (hasS l v)]) w := by
  obtain ⟨c, hb⟩ := hb
  obtain ⟨x, hx⟩ := S v hv
  have hc := K.check w (entsS u c l).isEmpty hx
  by_cases h : v ∈ l
  · obtain ⟨j, hf, _⟩ := findS_in (w := w) K S hl u c v h
    simp [Instr.lookup, run_underlying ht, MapKept.run_getObj_map hb, hc, hf, hasS_iff.2 h, Result.andThen]
  · have hf := findS_out (w := w) K S hl u c v hv h
    simp [Instr.lookup, run_underlying ht, MapKept.run_getObj_map hb, hc, hf, hz, hasS_not.2 h, Result.andThen]
theorem putS_out (K : Keyed P k) (S : SKey P k) {t e : TypeId} (ht : P.underlying t = some (.map k e)) {b : Nat} {u : Value} {l : List ByteArray} (hb : MapS w b u l) (hl : ∀ v ∈ l, v.size ≤ maxLen) (v : ByteArray) (hv : v.size ≤ maxLen) (h : v ∉ l) :
    ∃ w', (Instr.mapUpdate t (.map (some b)) (.string v) u).run P w = .ok () w' ∧ MapS w' b u (l ++ [v]) ∧ w.grownBy w' (some b) := by
  obtain ⟨x, hx⟩ := S v hv
  obtain ⟨c, hb⟩ := hb
  have hf := findS_out (w := w) K S hl u c v hv h
  have hc := K.check w false hx
  refine ⟨setBlock w b (.map (entsS u c (l ++ [v])).toArray (c + (l ++ [v]).length)), ?_, ⟨c, heap_setBlock_same hb _⟩, ⟨rfl, rfl, rfl, by simp [setBlock], fun i _ hi => heap_setBlock_other hb _ (fun e => hi (by rw [e]))⟩⟩
  simp [Instr.mapUpdate, run_underlying ht, MapKept.run_getObj_map hb, hc, hf, entsS_snoc, MapKept.run_setObj_map _ hb, Result.andThen, setBlock, entS, Nat.add_assoc]
theorem putS_in (K : Keyed P k) (S : SKey P k) {t e : TypeId} (ht : P.underlying t = some (.map k e)) {b : Nat} {u : Value} {l : List ByteArray} (hb : MapS w b u l) (hl : ∀ v ∈ l, v.size ≤ maxLen) (v : ByteArray) (h : v ∈ l) :
    ∃ w', (Instr.mapUpdate t (.map (some b)) (.string v) u).run P w = .ok () w' ∧ MapS w' b u l ∧ w.grownBy w' (some b) := by
  obtain ⟨x, hx⟩ := S v (hl v h)
  obtain ⟨c, hb⟩ := hb
  obtain ⟨j, hf, hg⟩ := findS_in (w := w) K S hl u c v h
  have hc := K.check w false hx
  have hs := K.stays w hx
  have hlt : j < (entsS u c l).length := (List.getElem?_eq_some_iff.1 hg).1
  have hmod : (entsS u c l).modify j (fun e => { key := .string v, val := u, born := e.born }) = entsS u c l := by
    apply List.ext_getElem
    · simp
    · intro i h1 h2
      by_cases hij : j = i
      · subst hij
        rw [List.getElem?_eq_getElem hlt] at hg
        have := Option.some.inj hg
        simp [this, entS]
      · simp [hij]
  refine ⟨setBlock w b (.map (entsS u c l).toArray (c + l.length)), ?_, ⟨c, heap_setBlock_same hb _⟩, ⟨rfl, rfl, rfl, by simp [setBlock], fun i _ hi => heap_setBlock_other hb _ (fun e => hi (by rw [e]))⟩⟩
  simp [Instr.mapUpdate, run_underlying ht, MapKept.run_getObj_map hb, hc, hf, hg, entS, hs, MapKept.run_setObj_map _ hb, Result.andThen, setBlock, hmod]
/-- a list with a text more, unless it is there -/
def addS (l : List ByteArray) (v : ByteArray) : List ByteArray := if hasS l v then l else l ++ [v]
theorem putS (K : Keyed P k) (S : SKey P k) {t e : TypeId} (ht : P.underlying t = some (.map k e)) {b : Nat} {u : Value} {l : List ByteArray} (hb : MapS w b u l) (hl : ∀ v ∈ l, v.size ≤ maxLen) (v : ByteArray) (hv : v.size ≤ maxLen) :
    ∃ w', (Instr.mapUpdate t (.map (some b)) (.string v) u).run P w = .ok () w' ∧ MapS w' b u (addS l v) ∧ w.grownBy w' (some b) := by
  unfold addS
  by_cases h : v ∈ l
  · rw [if_pos (hasS_iff.2 h)]; exact putS_in K S ht hb hl v h
  · rw [if_neg (fun e => h (hasS_iff.1 e))]; exact putS_out K S ht hb hl v hv h
theorem MapS.kept {w w' : World} {b : Nat} {u : Value} {l : List ByteArray} (h : MapS w b u l) (hk : w'.heap[b]? = w.heap[b]?) : MapS w' b u l := by
  obtain ⟨c, hb⟩ := h
  exact ⟨c, hk.trans hb⟩
theorem MapS.lt {w : World} {b : Nat} {u : Value} {l : List ByteArray} (h : MapS w b u l) : b < w.heap.size := by
  obtain ⟨c, hb⟩ := h
  exact (Array.getElem?_eq_some_iff.1 hb).1
theorem MapS.below {w w' : World} {b : Nat} {u : Value} {l : List ByteArray} (h : MapS w b u l) {B : Nat} (hb : Below B w w') (hB : b < B) : MapS w' b u l := h.kept (hb.block b hB)
theorem MapS.on {w w' : World} {b : Nat} {u : Value} {l : List ByteArray} (h : MapS w b u l) (hb : Below w.heap.size w w') : MapS w' b u l := h.below hb h.lt
theorem MapS.far {w w' : World} {b : Nat} {u : Value} {l : List ByteArray} (h : MapS w b u l) {g : Option Nat} (hg : w.grownBy w' g) (hn : g ≠ some b) : MapS w' b u l := h.kept (hg.block b h.lt (fun e => hn e.symm))
theorem addS_mem {l : List ByteArray} {v x : ByteArray} : x ∈ addS l v ↔ x ∈ l ∨ x = v := by
  unfold addS
  split
  · rename_i hh
    constructor
    · exact .inl
    · rintro (h | rfl)
      · exact h
      · exact hasS_iff.1 hh
  · simp
theorem addS_size {l : List ByteArray} (hl : ∀ v ∈ l, v.size ≤ maxLen) {v : ByteArray} (hv : v.size ≤ maxLen) : ∀ x ∈ addS l v, x.size ≤ maxLen := fun x hx => by
  rcases addS_mem.1 hx with h | rfl
  · exact hl x h
  · exact hv
end
end Go.Proofs.Ytbkdpdklpmcdgaa
