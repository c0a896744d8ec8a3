/-
  A map whose keys are values (a string and a number), laid out in the order in which they came: looking up, storing.
-/
import Derived.Maps.OwnSet
import Derived.Maps.AppendAt
namespace Go.Proofs.Ytdoadclblloddaa
open Go.Maps Go.ChangeMaps Go.WideMaps Go.RowKit

abbrev Vl := ByteArray × Int
def vlV (v : Vl) : Value := .agg #[.string v.1, .int .i64 v.2]
def entOf (f : Nat → Value) (c : Nat) (p : Vl × Nat) : MapEntry := { key := vlV p.1, val := f p.2, born := c + p.2 }
def ents (f : Nat → Value) (c : Nat) (l : List Vl) : List MapEntry := l.zipIdx.map (entOf f c)
/-- block b is a map whose keys are the values of the list, in the order in which they came; the i-th one's element is f i -/
def MapOf (w : World) (b : Nat) (l : List Vl) (f : Nat → Value) : Prop := ∃ c, w.heap[b]? = some (.map (ents f c l).toArray (c + l.length))

theorem vlV_inj {a b : Vl} (h : vlV a = vlV b) : a = b := by
  unfold vlV at h
  injection h with h
  have := congrArg Array.toList h
  simp at this
  exact Prod.ext this.1 this.2

theorem ents_get (f : Nat → Value) (c : Nat) (l : List Vl) (j : Nat) (h : j < l.length) : (ents f c l)[j]? = some (entOf f c (l[j], j)) := by
  unfold ents
  rw [List.getElem?_map, List.getElem?_zipIdx]
  simp [List.getElem?_eq_getElem h]
theorem ents_len (f : Nat → Value) (c : Nat) (l : List Vl) : (ents f c l).length = l.length := by simp [ents]
theorem ents_snoc (f : Nat → Value) (c : Nat) (l : List Vl) (v : Vl) : ents f c (l ++ [v]) = ents f c l ++ [entOf f c (v, l.length)] := by
  simp [ents, List.zipIdx_append]
theorem ents_mem (f : Nat → Value) (c : Nat) (l : List Vl) (e : MapEntry) (h : e ∈ ents f c l) : ∃ j, ∃ h : j < l.length, e = entOf f c (l[j], j) := by
  obtain ⟨j, hj, rfl⟩ := List.mem_iff_getElem.1 h
  have hj' : j < l.length := by simpa [ents_len] using hj
  refine ⟨j, hj', ?_⟩
  have := ents_get f c l j hj'
  rw [List.getElem?_eq_getElem hj] at this
  exact Option.some.inj this

instance decVl : DecidableEq Vl := fun a b =>
  if h : a.1.data.toList = b.1.data.toList ∧ a.2 = b.2 then
    isTrue (Prod.ext (ByteArray.ext (Array.toList_inj.1 h.1)) h.2)
  else isFalse (fun e => h (by subst e; exact ⟨rfl, rfl⟩))
instance decMem (v : Vl) (l : List Vl) : Decidable (v ∈ l) :=
  if h : l.any (fun u => decide (u = v)) = true then isTrue (by obtain ⟨u, hu, e⟩ := List.any_eq_true.1 h; rw [decide_eq_true_eq] at e; exact e ▸ hu)
  else isFalse (fun hv => h (List.any_eq_true.2 ⟨v, hv, by simp⟩))
/-- where a value stands in the list -/
def posOf (l : List Vl) (v : Vl) : Nat := l.findIdx fun u => decide (u = v)
theorem posOf_lt {l : List Vl} {v : Vl} (h : v ∈ l) : posOf l v < l.length := List.findIdx_lt_length_of_exists ⟨v, h, by simp⟩
theorem posOf_get {l : List Vl} {v : Vl} (h : v ∈ l) : l[posOf l v]'(posOf_lt h) = v := by
  have := List.findIdx_getElem (xs := l) (p := fun u => decide (u = v)) (w := posOf_lt h)
  exact of_decide_eq_true this
theorem posOf_of {l : List Vl} (hn : l.Nodup) (j : Nat) (hj : j < l.length) : posOf l l[j] = j := by
  have h : l[j] ∈ l := List.getElem_mem hj
  exact (List.getElem_inj (h₀ := posOf_lt h) (h₁ := hj) hn).1 (posOf_get h)

section
variable {P : Program} {k : TypeId} {w : World}

theorem find_in (K : Keyed P k) {l : List Vl} (hl : ∀ v ∈ l, ∃ x, keyOf P k (vlV v) = some x) (hn : l.Nodup) (f : Nat → Value) (c : Nat) (v : Vl) (hv : ∃ x, keyOf P k (vlV v) = some x) (j : Nat) (hj : j < l.length) (e : l[j] = v) :
    (Instr.findKey k (vlV v) (ents f c l)).run P w = .ok (some (j, f j)) w := by
  obtain ⟨x, hx⟩ := hv
  have hall : ∀ e ∈ ents f c l, ∃ y, keyOf P k e.key = some y := by
    intro e he
    obtain ⟨i, hi, rfl⟩ := ents_mem f c l e he
    exact hl _ (List.getElem_mem hi)
  rcases K.find w hx (ents f c l) hall with ⟨_, h2⟩ | ⟨i, e0, h1, h2, h3⟩
  · exfalso
    have := h2 (entOf f c (l[j], j)) (List.mem_of_getElem? (ents_get f c l j hj))
    exact this (by simp [entOf, e])
  · have hi : i < l.length := by rw [← ents_len f c l]; exact (List.getElem?_eq_some_iff.1 h2).1
    rw [ents_get f c l i hi] at h2
    obtain rfl := Option.some.inj h2
    have hij : l[i] = l[j] := by rw [e]; exact vlV_inj h3
    have : i = j := (List.getElem_inj (h₀ := hi) (h₁ := hj) hn).1 hij
    subst this
    exact h1
theorem find_out (K : Keyed P k) {l : List Vl} (hl : ∀ v ∈ l, ∃ x, keyOf P k (vlV v) = some x) (f : Nat → Value) (c : Nat) (v : Vl) (hv : ∃ x, keyOf P k (vlV v) = some x) (h : v ∉ l) :
    (Instr.findKey k (vlV v) (ents f c l)).run P w = .ok none w := by
  obtain ⟨x, hx⟩ := hv
  have hall : ∀ e ∈ ents f c l, ∃ y, keyOf P k e.key = some y := by
    intro e he
    obtain ⟨i, hi, rfl⟩ := ents_mem f c l e he
    exact hl _ (List.getElem_mem hi)
  rcases K.find w hx (ents f c l) hall with ⟨h1, _⟩ | ⟨i, e0, h1, h2, h3⟩
  · exact h1
  · exfalso
    have hi : i < l.length := by rw [← ents_len f c l]; exact (List.getElem?_eq_some_iff.1 h2).1
    rw [ents_get f c l i hi] at h2
    obtain rfl := Option.some.inj h2
    have := vlV_inj h3
    exact h (this ▸ List.getElem_mem hi)

theorem look_in (K : Keyed P k) {t e : TypeId} (ht : P.underlying t = some (.map k e)) {b : Nat} {l : List Vl} {f : Nat → Value} (hb : MapOf w b l f) (hl : ∀ v ∈ l, ∃ x, keyOf P k (vlV v) = some x) (hn : l.Nodup) (v : Vl) (hv : ∃ x, keyOf P k (vlV v) = some x) (j : Nat) (hj : j < l.length) (e : l[j] = v) :
    (Instr.lookup t (.map (some b)) (vlV v) true).run P w = .ok (.tuple #[f j, .bool true]) w := by
  obtain ⟨x, hx⟩ := hv
  obtain ⟨c, hb⟩ := hb
  have hf := find_in K (w := w) hl hn f c v ⟨x, hx⟩ j hj e
  have hc := K.check w (ents f c l).isEmpty hx
  simp [Instr.lookup, run_underlying ht, MapKept.run_getObj_map hb, hc, hf, Result.andThen]
theorem look_out (K : Keyed P k) {t e : TypeId} (ht : P.underlying t = some (.map k e)) {z : Value} (hz : (zeroValue e).run P w = .ok z w) {b : Nat} {l : List Vl} {f : Nat → Value} (hb : MapOf w b l f) (hl : ∀ v ∈ l, ∃ x, keyOf P k (vlV v) = some x) (v : Vl) (hv : ∃ x, keyOf P k (vlV v) = some x) (h : v ∉ l) :
    (Instr.lookup t (.map (some b)) (vlV v) true).run P w = .ok (.tuple #[z, .bool false]) w := by
  obtain ⟨x, hx⟩ := hv
  obtain ⟨c, hb⟩ := hb
  have hf := find_out K (w := w) hl f c v ⟨x, hx⟩ h
  have hc := K.check w (ents f c l).isEmpty hx
  simp [Instr.lookup, run_underlying ht, MapKept.run_getObj_map hb, hc, hf, hz, Result.andThen]
theorem put_out (K : Keyed P k) {t e : TypeId} (ht : P.underlying t = some (.map k e)) {b : Nat} {l : List Vl} {f : Nat → Value} (hb : MapOf w b l f) (hl : ∀ v ∈ l, ∃ x, keyOf P k (vlV v) = some x) (v : Vl) (hv : ∃ x, keyOf P k (vlV v) = some x) (h : v ∉ l) :
    ∃ w', (Instr.mapUpdate t (.map (some b)) (vlV v) (f l.length)).run P w = .ok () w' ∧ MapOf w' b (l ++ [v]) f ∧ w.grownBy w' (some b) := by
  obtain ⟨x, hx⟩ := hv
  obtain ⟨c, hb⟩ := hb
  have hf := find_out K (w := w) hl f c v ⟨x, hx⟩ h
  have hc := K.check w false hx
  refine ⟨setBlock w b (.map (ents f c (l ++ [v])).toArray (c + (l ++ [v]).length)), ?_, ⟨c, heap_setBlock_same hb _⟩, ⟨rfl, rfl, rfl, by simp [setBlock], fun i _ hi => heap_setBlock_other hb _ (fun e => hi (by rw [e]))⟩⟩
  simp [Instr.mapUpdate, run_underlying ht, MapKept.run_getObj_map hb, hc, hf, ents_snoc, MapKept.run_setObj_map _ hb, Result.andThen, setBlock, entOf, Nat.add_assoc]
end

/-- 'clear': the map holds nothing. -/
theorem clear_run {P : Program} {k : TypeId} {w : World} {t e ty : TypeId} (ht : P.underlying t = some (.map k e)) {b : Nat} {l : List Vl} {f : Nat → Value} (hb : MapOf w b l f) :
    ∃ w', (Builtin.clear_ #[t] ty #[.map (some b)]).run P w = .ok (.tuple #[]) w' ∧ MapOf w' b [] f ∧ w.grownBy w' (some b) := by
  obtain ⟨c, hb⟩ := hb
  refine ⟨setBlock w b (.map #[] (c + l.length)), ?_, ⟨c + l.length, heap_setBlock_same hb _⟩, ⟨rfl, rfl, rfl, by simp [setBlock], fun i _ hi => heap_setBlock_other hb _ (fun e => hi (by rw [e]))⟩⟩
  simp [Builtin.clear_, run_underlying ht, MapKept.run_getObj_map hb, MapKept.run_setObj_map _ hb, Result.andThen, setBlock]

/-- A value that is there is stored once more, with the element that it has: nothing changes. -/
theorem put_in_same {P : Program} {k : TypeId} {w : World} (K : Keyed P k) {t e : TypeId} (ht : P.underlying t = some (.map k e)) {b : Nat} {l : List Vl} {u : Value} (hb : MapOf w b l (fun _ => u)) (hl : ∀ v ∈ l, ∃ x, keyOf P k (vlV v) = some x) (hn : l.Nodup) (v : Vl) (h : v ∈ l) :
    ∃ w', (Instr.mapUpdate t (.map (some b)) (vlV v) u).run P w = .ok () w' ∧ MapOf w' b l (fun _ => u) ∧ w.grownBy w' (some b) := by
  obtain ⟨x, hx⟩ := hl v h
  obtain ⟨c, hb⟩ := hb
  obtain ⟨j, hj, e⟩ := List.mem_iff_getElem.1 h
  have hf := find_in K (w := w) hl hn (fun _ => u) c v ⟨x, hx⟩ j hj e
  have hc := K.check w false hx
  have hs := K.stays w hx
  have hg := ents_get (fun _ => u) c l j hj
  have hlt : j < (ents (fun _ => u) c l).length := by rw [ents_len]; exact hj
  have hmod : (ents (fun _ => u) c l).modify j (fun e => { key := vlV v, val := u, born := e.born }) = ents (fun _ => u) c l := by
    apply List.ext_getElem
    · simp
    · intro i h1 h2
      by_cases hij : j = i
      · subst hij
        rw [List.getElem?_eq_getElem hlt] at hg
        have := Option.some.inj hg
        simp [this, entOf, e]
      · simp [hij]
  refine ⟨setBlock w b (.map (ents (fun _ => u) c l).toArray (c + l.length)), ?_, ⟨c, heap_setBlock_same hb _⟩, ⟨rfl, rfl, rfl, by simp [setBlock], fun i _ hi => heap_setBlock_other hb _ (fun e => hi (by rw [e]))⟩⟩
  simp [Instr.mapUpdate, run_underlying ht, MapKept.run_getObj_map hb, hc, hf, hg, entOf, e, hs, MapKept.run_setObj_map _ hb, Result.andThen, setBlock, hmod]

theorem len_run {P : Program} {k : TypeId} {w : World} {t e ty : TypeId} (ht : P.underlying t = some (.map k e)) {b : Nat} {l : List Vl} {f : Nat → Value} (hb : MapOf w b l f) :
    (Builtin.len_ #[t] ty #[.map (some b)]).run P w = .ok (.int .i64 l.length) w := by
  obtain ⟨c, hb⟩ := hb
  simp [Builtin.len_, run_underlying ht, MapKept.run_getObj_map hb, ents_len, Result.andThen, goInt]

theorem MapOf.kept {w w' : World} {b : Nat} {l : List Vl} {f : Nat → Value} (h : MapOf w b l f) (hk : w'.heap[b]? = w.heap[b]?) : MapOf w' b l f := by
  obtain ⟨c, hb⟩ := h
  exact ⟨c, hk.trans hb⟩
theorem MapOf.lt {w : World} {b : Nat} {l : List Vl} {f : Nat → Value} (h : MapOf w b l f) : b < w.heap.size := by
  obtain ⟨c, hb⟩ := h
  exact (Array.getElem?_eq_some_iff.1 hb).1
theorem MapOf.below {w w' : World} {b : Nat} {l : List Vl} {f : Nat → Value} (h : MapOf w b l f) (hb : Below w.heap.size w w') : MapOf w' b l f := h.kept (hb.block b h.lt)

/-- a list with a value more, unless it is there -/
def addV (l : List Vl) (v : Vl) : List Vl := if v ∈ l then l else l ++ [v]
def addAll (l vs : List Vl) : List Vl := vs.foldl addV l
theorem addV_nodup {l : List Vl} (h : l.Nodup) (v : Vl) : (addV l v).Nodup := by
  unfold addV; split
  · exact h
  · rename_i hv; exact List.nodup_append.2 ⟨h, by simp, fun a ha b hb e => by simp at hb; subst e; subst hb; exact hv ha⟩
theorem addAll_snoc (l vs : List Vl) (v : Vl) : addAll l (vs ++ [v]) = addV (addAll l vs) v := by simp [addAll, List.foldl_append]
theorem addAll_append (l a b : List Vl) : addAll l (a ++ b) = addAll (addAll l a) b := by simp [addAll, List.foldl_append]
theorem addAll_nodup {l : List Vl} (h : l.Nodup) (vs : List Vl) : (addAll l vs).Nodup := by
  induction vs generalizing l with
  | nil => exact h
  | cons v r ih => exact ih (addV_nodup h v)
theorem addV_prefix (l : List Vl) (v : Vl) : l <+: addV l v := by unfold addV; split; exact List.prefix_refl _; exact List.prefix_append _ _
theorem addAll_prefix (l vs : List Vl) : l <+: addAll l vs := by
  induction vs generalizing l with
  | nil => exact List.prefix_refl _
  | cons v r ih => exact (addV_prefix l v).trans (ih _)
theorem mem_addV (l : List Vl) (v u : Vl) : u ∈ addV l v ↔ u ∈ l ∨ u = v := by
  unfold addV; split
  · constructor
    · exact .inl
    · rintro (h | rfl) <;> assumption
  · simp
theorem mem_addAll (l vs : List Vl) (u : Vl) : u ∈ addAll l vs ↔ u ∈ l ∨ u ∈ vs := by
  induction vs generalizing l with
  | nil => simp [addAll]
  | cons v r ih =>
    show u ∈ addAll (addV l v) r ↔ _
    rw [ih, mem_addV]; simp [or_assoc]
theorem take_snocV (vs : List Vl) (k : Nat) (h : k < vs.length) : vs.take (k + 1) = vs.take k ++ [vs[k]] := by rw [List.take_succ_eq_append_getElem h]

/-- those of the list that are not in l, each once -/
def news (l vs : List Vl) : List Vl := addAll [] (vs.filter fun v => decide (v ∉ l))
theorem news_snoc_in (l vs : List Vl) (v : Vl) (h : v ∈ l) : news l (vs ++ [v]) = news l vs := by
  unfold news; rw [List.filter_append]; simp [h]
theorem news_snoc_out (l vs : List Vl) (v : Vl) (h : v ∉ l) : news l (vs ++ [v]) = addV (news l vs) v := by
  unfold news; rw [List.filter_append]; simp [h, addAll_snoc]
theorem addAll_past (l vs : List Vl) : ∀ m, addAll (l ++ m) vs = l ++ addAll m (vs.filter fun v => decide (v ∉ l)) := by
  induction vs with
  | nil => intro m; rfl
  | cons v r ih =>
    intro m
    show addAll (addV (l ++ m) v) r = _
    by_cases h : v ∈ l
    · have e : addV (l ++ m) v = l ++ m := by unfold addV; simp [h]
      rw [e, ih]; simp [h]
    · have e : addV (l ++ m) v = l ++ addV m v := by
        unfold addV
        by_cases h2 : v ∈ m <;> simp [h, h2]
      rw [e, ih, List.filter_cons_of_pos (by simpa using h)]; rfl
theorem addAll_news (l vs : List Vl) : addAll l vs = l ++ news l vs := by
  have := addAll_past l vs []
  rwa [List.append_nil] at this
theorem news_nodup (l vs : List Vl) : (news l vs).Nodup := addAll_nodup List.nodup_nil _
theorem mem_news (l vs : List Vl) (u : Vl) (h : u ∈ news l vs) : u ∈ vs := by
  unfold news at h; rw [mem_addAll] at h
  rcases h with h | h
  · simp at h
  · exact (List.mem_filter.1 h).1
end Go.Proofs.Ytdoadclblloddaa
