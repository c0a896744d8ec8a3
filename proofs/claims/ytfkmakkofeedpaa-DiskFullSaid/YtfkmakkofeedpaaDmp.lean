/-
  Files by names: a map from texts to pointers, as a sorted list of files (any program).
-/
import Derived.Maps.Range
import Derived.StringKeys
set_option linter.unusedVariables false
set_option linter.unusedSimpArgs false
namespace Go.Proofs.Ytfkmakkofeedpaa
open Go.Maps Go.RowKit

/-- a file: its name, its block, the slice that holds its bytes, its bytes, how many are sure -/
structure Fil where
  nm : List UInt8
  blk : Nat
  v : Value
  xs : List UInt8
  sure : Nat

/-- how a pointer reads -/
def ptrE (v : Value) : Option (DataW Unit × List MemPlace) :=
  match v with
  | .pointer (some ⟨b, 0, none⟩) => some (.lit (.int .i64 b), [])
  | .pointer none => some (.nil, [])
  | _ => none
theorem ptrE_mk (b : Nat) : ptrE (.pointer (some ⟨b, 0, none⟩)) = some (.lit (.int .i64 b), []) := rfl
theorem ptrE_some {v : Value} {b : Nat} {ps : List MemPlace} (h : ptrE v = some (.lit (.int .i64 b), ps)) : v = .pointer (some ⟨b, 0, none⟩) := by
  unfold ptrE at h
  split at h
  · simp only [Option.some.injEq, Prod.mk.injEq, DataW.lit.injEq, Lit.int.injEq, true_and] at h
    obtain ⟨h, _⟩ := h
    have : ∀ x y : Nat, (x : Int) = (y : Int) → x = y := fun x y h => by omega
    rw [this _ _ h]
  · simp at h
  · cases h
theorem ptrE_nil {v : Value} {ps : List MemPlace} (h : ptrE v = some (.nil, ps)) : v = .pointer none := by
  unfold ptrE at h
  split at h
  · simp at h
  · rfl
  · cases h

def entF (f : Fil) : Lit × DataW Unit := (.string f.nm, .lit (.int .i64 f.blk))
def datF (l : List Fil) : DataW Unit := .map (l.map entF)
/-- a sorted list with a file more; without a name; with a file in its name's place -/
def insF (f : Fil) : List Fil → List Fil
  | [] => [f]
  | y :: r => if bytesBefore f.nm y.nm then f :: y :: r else y :: insF f r
def delF (n : List UInt8) (l : List Fil) : List Fil := l.filter fun g => !(g.nm == n)
def putF (f : Fil) (l : List Fil) : List Fil := insF f (delF f.nm l)
def getF (n : List UInt8) (l : List Fil) : Option Fil := l.find? fun g => g.nm == n
def Srt (l : List Fil) : Prop := l.Pairwise fun f g => bytesBefore f.nm g.nm = true

theorem ins_map (f : Fil) : ∀ l : List Fil, DataW.insert (entF f) (l.map entF) = (insF f l).map entF
  | [] => rfl
  | y :: r => by
    simp only [List.map_cons, DataW.insert, insF]
    have : (entF f).1.before (entF y).1 = bytesBefore f.nm y.nm := rfl
    rw [this]
    split
    · rfl
    · rw [ins_map f r]; rfl
theorem key_same (a b : List UInt8) : (Lit.string a).sameKey (.string b) = (a == b) := rfl
theorem del_map (n : List UInt8) (l : List Fil) : (l.map entF).filter (fun p => !p.1.sameKey (.string n)) = (delF n l).map entF := by
  unfold delF
  rw [List.filter_map]
  rfl
theorem datF_put (l : List Fil) (f : Fil) : (datF l).put (.string f.nm) (.lit (.int .i64 f.blk)) = datF (putF f l) := by
  show DataW.map (DataW.insert (entF f) ((l.map entF).filter fun p => !p.1.sameKey (.string f.nm))) = _
  rw [del_map, ins_map]; rfl
theorem datF_del (l : List Fil) (n : List UInt8) : (datF l).del (.string n) = datF (delF n l) := by
  show DataW.map ((l.map entF).filter fun p => !p.1.sameKey (.string n)) = _
  rw [del_map]; rfl
theorem find_map (n : List UInt8) : ∀ l : List Fil, (l.map entF).find? (fun p => p.1.sameKey (.string n)) = (getF n l).map entF
  | [] => rfl
  | y :: r => by
    unfold getF
    simp only [List.map_cons, List.find?_cons]
    have : (entF y).1.sameKey (.string n) = (y.nm == n) := rfl
    rw [this]
    cases y.nm == n
    · exact find_map n r
    · rfl
theorem datF_at (l : List Fil) (n : List UInt8) (z : DataW Unit) : (datF l).atKey (.string n) z = match getF n l with | some f => .lit (.int .i64 f.blk) | none => z := by
  unfold DataW.atKey datF
  simp only [find_map]
  cases getF n l <;> rfl
theorem datF_size (l : List Fil) : size (datF l) = l.length := by simp [datF, size]
theorem getF_mem {n : List UInt8} {l : List Fil} {f : Fil} (h : getF n l = some f) : f ∈ l ∧ f.nm = n := by
  unfold getF at h
  exact ⟨List.mem_of_find?_eq_some h, by have := List.find?_some h; simpa using this⟩
theorem getF_none {n : List UInt8} {l : List Fil} (h : getF n l = none) : ∀ g ∈ l, g.nm ≠ n := by
  unfold getF at h
  intro g hg
  have := List.find?_eq_none.1 h g hg
  simpa using this
theorem mem_insF {f g : Fil} : ∀ {l : List Fil}, g ∈ insF f l ↔ g = f ∨ g ∈ l
  | [] => by simp [insF]
  | y :: r => by
    unfold insF
    split
    · simp
    · simp only [List.mem_cons, mem_insF (l := r)]
      constructor
      · rintro (h | h | h)
        · exact .inr (.inl h)
        · exact .inl h
        · exact .inr (.inr h)
      · rintro (h | h | h)
        · exact .inr (.inl h)
        · exact .inl h
        · exact .inr (.inr h)
theorem mem_delF {n : List UInt8} {l : List Fil} {g : Fil} : g ∈ delF n l ↔ g ∈ l ∧ g.nm ≠ n := by simp [delF]
theorem mem_putF {f g : Fil} {l : List Fil} : g ∈ putF f l ↔ g = f ∨ (g ∈ l ∧ g.nm ≠ f.nm) := by rw [putF, mem_insF, mem_delF]
theorem srt_del {l : List Fil} (h : Srt l) (n : List UInt8) : Srt (delF n l) := List.Pairwise.filter _ h
theorem srt_ins {f : Fil} : ∀ {l : List Fil}, Srt l → (∀ g ∈ l, g.nm ≠ f.nm) → Srt (insF f l)
  | [], _, _ => by simp [insF, Srt]
  | y :: r, h, hn => by
    obtain ⟨h1, h2⟩ := List.pairwise_cons.1 h
    unfold insF
    split
    · rename_i hb
      refine List.pairwise_cons.2 ⟨fun g hg => ?_, h⟩
      rcases List.mem_cons.1 hg with rfl | hg
      · exact hb
      · exact WideShapes.bytes_trans _ _ _ hb (h1 g hg)
    · rename_i hb
      have hy : bytesBefore y.nm f.nm = true := by
        rcases WideAt.bytes_total y.nm f.nm (hn y (by simp)) with h | h
        · exact h
        · exact absurd h hb
      refine List.pairwise_cons.2 ⟨fun g hg => ?_, srt_ins h2 (fun g hg => hn g (by simp [hg]))⟩
      rcases mem_insF.1 hg with rfl | hg
      · exact hy
      · exact h1 g hg
theorem srt_put {f : Fil} {l : List Fil} (h : Srt l) : Srt (putF f l) := srt_ins (srt_del h _) (fun g hg => (mem_delF.1 hg).2)
theorem srt_ne {l : List Fil} (h : Srt l) : l.Pairwise fun f g => f.nm ≠ g.nm := h.imp fun hb e => by rw [e, WideAt.bytes_irrefl] at hb; cases hb
theorem srt_inj {l : List Fil} (h : Srt l) {f g : Fil} (hf : f ∈ l) (hg : g ∈ l) (e : f.nm = g.nm) : f = g := by
  have := srt_ne h
  induction l with
  | nil => cases hf
  | cons y r ih =>
    obtain ⟨h1, h2⟩ := List.pairwise_cons.1 this
    rcases List.mem_cons.1 hf with ef | hf'
    · rcases List.mem_cons.1 hg with eg | hg'
      · rw [ef, eg]
      · exact absurd (ef ▸ e) (h1 g hg')
    · rcases List.mem_cons.1 hg with eg | hg'
      · exact absurd (eg ▸ e.symm) (h1 f hf')
      · exact ih (List.pairwise_cons.1 h).2 hf' hg' h2
theorem insF_front {f : Fil} {l : List Fil} (h : ∀ g ∈ l, bytesBefore f.nm g.nm = true) : insF f l = f :: l := by
  cases l with
  | nil => rfl
  | cons y r => unfold insF; rw [if_pos (h y (by simp))]
/-- in a sorted list the file stands where its name stood -/
theorem putF_mod {f : Fil} : ∀ {l : List Fil}, Srt l → (∃ g ∈ l, g.nm = f.nm) → putF f l = l.map fun g => if g.nm == f.nm then f else g
  | [], _, h => by obtain ⟨g, hg, _⟩ := h; cases hg
  | y :: r, hs, h => by
    obtain ⟨h1, h2⟩ := List.pairwise_cons.1 hs
    by_cases hy : y.nm = f.nm
    · have hr : ∀ g ∈ r, g.nm ≠ f.nm := fun g hg e => by have := h1 g hg; rw [hy, e, WideAt.bytes_irrefl] at this; cases this
      have hd : delF f.nm (y :: r) = r := by
        unfold delF
        rw [List.filter_cons_of_neg (by simp [hy]), List.filter_eq_self.2 (fun g hg => by simpa using hr g hg)]
      have hm : r.map (fun g => if g.nm == f.nm then f else g) = r := by
        conv => rhs; rw [← List.map_id r]
        exact List.map_congr_left fun g hg => by rw [if_neg (by simpa using hr g hg)]; rfl
      unfold putF
      rw [hd, insF_front (fun g hg => hy ▸ h1 g hg), List.map_cons, if_pos (by simp [hy]), hm]
    · have hg : ∃ g ∈ r, g.nm = f.nm := by
        obtain ⟨g, hg, e⟩ := h
        rcases List.mem_cons.1 hg with rfl | hg
        · exact absurd e hy
        · exact ⟨g, hg, e⟩
      have hd : delF f.nm (y :: r) = y :: delF f.nm r := by unfold delF; rw [List.filter_cons_of_pos (by simp [hy])]
      have hb : ¬ bytesBefore f.nm y.nm = true := by
        obtain ⟨g, hg, e⟩ := hg
        intro hb
        have := WideShapes.bytes_trans _ _ _ hb (h1 g hg)
        rw [e, WideAt.bytes_irrefl] at this; cases this
      have := putF_mod (f := f) h2 hg
      unfold putF at this ⊢
      rw [hd, insF, if_neg hb, this, List.map_cons, if_neg (by simp [hy])]
theorem putF_same {f f' : Fil} {l : List Fil} (hs : Srt l) (hf : f ∈ l) (hn : f'.nm = f.nm) (hb : f'.blk = f.blk) : datF (putF f' l) = datF l := by
  rw [putF_mod hs ⟨f, hf, hn.symm⟩]
  unfold datF
  rw [List.map_map]
  congr 1
  refine List.map_congr_left fun g hg => ?_
  show entF (if g.nm == f'.nm then f' else g) = entF g
  split
  · rename_i h
    have : g = f := srt_inj hs hg hf (by rw [← hn]; simpa using h)
    subst this
    simp [entF, hn, hb]
  · rfl
theorem putF_len {f : Fil} {l : List Fil} (hs : Srt l) (h : ∃ g ∈ l, g.nm = f.nm) : (putF f l).length = l.length := by rw [putF_mod hs h, List.length_map]
theorem insF_len (f : Fil) : ∀ l : List Fil, (insF f l).length = l.length + 1
  | [] => rfl
  | y :: r => by
    unfold insF
    split
    · rfl
    · simp [insF_len f r]
theorem putF_new {f : Fil} {l : List Fil} (h : ∀ g ∈ l, g.nm ≠ f.nm) : putF f l = insF f l := by
  unfold putF delF
  rw [List.filter_eq_self.2 (fun g hg => by simpa using h g hg)]
theorem get_ins (f : Fil) (n : List UInt8) : ∀ l : List Fil, (∀ g ∈ l, g.nm ≠ f.nm) → getF n (insF f l) = if f.nm == n then some f else getF n l
  | [], _ => by
    simp only [insF, getF, List.find?_cons, List.find?_nil]
    cases f.nm == n <;> rfl
  | y :: r, h => by
    unfold insF
    split
    · simp only [getF, List.find?_cons]
      cases f.nm == n <;> rfl
    · have ih := get_ins f n r (fun g hg => h g (by simp [hg]))
      simp only [getF, List.find?_cons] at ih ⊢
      cases hy : y.nm == n
      · simp only [ih]
      · have : ¬ (f.nm == n) = true := by
          intro e
          have e1 : f.nm = n := by simpa using e
          have e2 : y.nm = n := by simpa using hy
          exact h y (by simp) (e2.trans e1.symm)
        simp [this]
theorem get_put (f : Fil) (n : List UInt8) (l : List Fil) : getF n (putF f l) = if f.nm == n then some f else getF n l := by
  unfold putF
  rw [get_ins f n _ (fun g hg => (mem_delF.1 hg).2)]
  split
  · rfl
  · rename_i h
    unfold getF delF
    exact find_filter_keep (fun p hp => by
      have e : p.nm = n := by simpa using hp
      simp only [Bool.not_eq_true'] at h ⊢
      rw [e]
      cases hq : n == f.nm
      · rfl
      · exact absurd (by simpa using (show n = f.nm by simpa using hq).symm) h) l
theorem get_del (n m : List UInt8) (l : List Fil) : getF n (delF m l) = if m == n then none else getF n l := by
  split
  · rename_i h
    have e : m = n := by simpa using h
    unfold getF
    exact List.find?_eq_none.2 fun g hg => by have := (mem_delF.1 hg).2; simpa [← e] using this
  · rename_i h
    unfold getF delF
    exact find_filter_keep (fun p hp => by
      have e : p.nm = n := by simpa using hp
      simp only [Bool.not_eq_true'] at h ⊢
      rw [e]
      cases hq : n == m
      · rfl
      · exact absurd (by simpa using (show n = m by simpa using hq).symm) h) l

/-! the map in memory -/
section
variable {P : Program} {k : TypeId} {w : World} {b n : Nat} {l : List Fil}
/-- block b is the map of the files -/
def MapF (w : World) (P : Program) (k : TypeId) (b : Nat) (l : List Fil) : Prop := w.ownsMap P k ptrE b l.length (datF l)
theorem mapF_of {D : DataW Unit} (h : w.ownsMap P k ptrE b n D) (hD : D = datF l) : MapF w P k b l := by
  subst hD
  obtain ⟨es, clock, hb, F, hs, hD⟩ := h
  refine ⟨es, clock, hb, F, ?_, hD⟩
  have := congrArg size hD
  rw [datF_size] at this
  rw [this]
  simp [size, length_sorted]
theorem MapF.lt (h : MapF w P k b l) : b < w.heap.size := World.ownsMap.lt h
theorem MapF.kept {w' : World} (h : MapF w P k b l) (hk : w'.heap[b]? = w.heap[b]?) : MapF w' P k b l := by
  obtain ⟨es, clock, hb, r⟩ := h
  exact ⟨es, clock, hk.trans hb, r⟩
theorem MapF.same (h : MapF w P k b l) {l' : List Fil} (hd : datF l' = datF l) : MapF w P k b l' := mapF_of h hd.symm
theorem mapF_made (w : World) (P : Program) (k : TypeId) : MapF (w.alloc (.map #[] 0)) P k w.heap.size [] := World.ownsMap_made w P k ptrE
/-- the pointer that a look-up gives -/
def ptrF (o : Option Fil) : Value := match o with | some f => .pointer (some ⟨f.blk, 0, none⟩) | none => .pointer none
theorem MapF.look {t e : TypeId} (h : MapF w P k b l) (hk : P.underlying k = some .string) (ht : P.underlying t = some (.map k e)) (hz : (zeroValue e).run P w = .ok (.pointer none) w) (nm : ByteArray) (hs : nm.size ≤ maxLen) :
    (Instr.lookup t (.map (some b)) (.string nm) false).run P w = .ok (ptrF (getF nm.data.toList l)) w := by
  obtain ⟨v, ps, hr, hv⟩ := World.ownsMap.lookup h (string_keyed hk) ht hz (zd := .nil) (zp := []) rfl (WideMaps.keyOf_string_mk hk hs)
  rw [hr, datF_at] at *
  cases hg : getF nm.data.toList l with
  | none => rw [hg] at hv; rw [ptrE_nil hv]; rfl
  | some f => rw [hg] at hv; rw [ptrE_some hv]; rfl
theorem MapF.store {t e : TypeId} (h : MapF w P k b l) (hk : P.underlying k = some .string) (ht : P.underlying t = some (.map k e)) (hl : l.length < 1000) (nm : ByteArray) (hs : nm.size ≤ maxLen) (f : Fil) (hf : f.nm = nm.data.toList) :
    ∃ w', (Instr.mapUpdate t (.map (some b)) (.string nm) (.pointer (some ⟨f.blk, 0, none⟩))).run P w = .ok () w' ∧ MapF w' P k b (putF f l) ∧ w.grownBy w' (some b) := by
  obtain ⟨w', hr, ho, hg⟩ := World.ownsMap.update h (string_keyed hk) ht (by unfold maxLen; omega) (WideMaps.keyOf_string_mk hk hs) (ptrE_mk f.blk)
  rw [← hf, datF_put] at ho
  exact ⟨w', hr, mapF_of ho rfl, hg⟩
theorem MapF.drop {t e : TypeId} (h : MapF w P k b l) (hk : P.underlying k = some .string) (ht : P.underlying t = some (.map k e)) (nm : ByteArray) (hs : nm.size ≤ maxLen) (ty : TypeId) :
    ∃ w', (Builtin.delete_ #[t, k] ty #[.map (some b), .string nm]).run P w = .ok (.tuple #[]) w' ∧ MapF w' P k b (delF nm.data.toList l) ∧ w.grownBy w' (some b) := by
  obtain ⟨w', hr, ho, hg⟩ := World.ownsMap.drop h (string_keyed hk) ht (WideMaps.keyOf_string_mk hk hs) ty
  rw [datF_del] at ho
  exact ⟨w', hr, mapF_of ho rfl, hg.grown⟩
theorem MapF.len {t e : TypeId} (h : MapF w P k b l) (ht : P.underlying t = some (.map k e)) (ty : TypeId) : (Builtin.len_ #[t] ty #[.map (some b)]).run P w = .ok (.int .i64 l.length) w := by
  have := World.ownsMap.len h ht ty
  rwa [datF_size] at this
end
end Go.Proofs.Ytfkmakkofeedpaa
