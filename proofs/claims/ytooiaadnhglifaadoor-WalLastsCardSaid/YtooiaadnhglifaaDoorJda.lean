/-
  Stp, Dmp, Dsk, Dla, Don, joined.
-/
import Derived.Test.YtooiaadnhglifaaDoorApp
import Derived.Maps.Range
import Derived.StringKeys
import Derived.Test.YtooiaadnhglifaaDoorName
namespace Go.Proofs.YtooiaadnhglifaaDoor
section
set_option linter.unusedVariables false
set_option linter.unusedSimpArgs false
open Go.RowKit

theorem step_app8 {w : World} {ops : Array Oper} {o : Oper} {a : Act} {K : Act → World → Prop} {Q : Exit → Act → World → Prop} {E : Prop} (hgd : o.guard = none) (s x : Operand)
    (ho : o.op = .call { callee := .builtin .append, args := #[s, x], argTypes := #[22, 22] }) (hty : o.type = 22)
    (base : Nat) (v : Value) (xs : List UInt8) (hs : a.eval s = v) (hA : Acc w base v xs) (q : Option Addr) (m : List UInt8) (n c : Nat) (hx : a.eval x = .slice q n c) (hn : n = m.length) (hR : Rd0 w q m) (hz : xs.length + m.length ≤ 100000000000000) (hbase : base ≤ w.heap.size)
    (h : ∀ v' w', Acc w' base v' (xs ++ m) → Below base w w' → K (a.put o.dst v') w') :
    if Region.wanted o (yielded ops a.tmps) = true then Oper.wp Tryd.prog o a w K Q else E := by
  subst hn
  obtain ⟨v', w', hr, h1, h2⟩ := run_app8 w base v xs hA q m c hR hz hbase
  have hw : Region.wanted o (yielded ops a.tmps) = true := by simp [Region.wanted, hgd]
  rw [if_pos hw]
  unfold Oper.wp execOp
  simp only [ho, hty, resolve, invoke, builtin, Sem.run_bind, Sem.run_pure, Result.andThen_ok, List.map_toArray, List.map_cons, List.map_nil, hs, hx, hr]
  exact h v' w' h1 h2
end
section
set_option linter.unusedVariables false
set_option linter.unusedSimpArgs false
open Go.Maps Go.RowKit

/-- a file: its name, its block, the slice that holds its bytes, its bytes, how many are sure -/
structure Fil where
  nm : List UInt8
  blk : Nat
  v : Value
  xs : List UInt8
  sure : Nat

/-- how a pointer reads -/
def ptrE (v : Value) : Option (DataW Unit × List MemPlace) :=
  match v with
  | .pointer (some ⟨b, 0, none⟩) => some (.lit (.int .i64 b), [])
  | .pointer none => some (.nil, [])
  | _ => none
theorem ptrE_mk (b : Nat) : ptrE (.pointer (some ⟨b, 0, none⟩)) = some (.lit (.int .i64 b), []) := rfl
theorem ptrE_some {v : Value} {b : Nat} {ps : List MemPlace} (h : ptrE v = some (.lit (.int .i64 b), ps)) : v = .pointer (some ⟨b, 0, none⟩) := by
  unfold ptrE at h
  split at h
  · simp only [Option.some.injEq, Prod.mk.injEq, DataW.lit.injEq, Lit.int.injEq, true_and] at h
    obtain ⟨h, _⟩ := h
    have : ∀ x y : Nat, (x : Int) = (y : Int) → x = y := fun x y h => by omega
    rw [this _ _ h]
  · simp at h
  · cases h
theorem ptrE_nil {v : Value} {ps : List MemPlace} (h : ptrE v = some (.nil, ps)) : v = .pointer none := by
  unfold ptrE at h
  split at h
  · simp at h
  · rfl
  · cases h

def entF (f : Fil) : Lit × DataW Unit := (.string f.nm, .lit (.int .i64 f.blk))
def datF (l : List Fil) : DataW Unit := .map (l.map entF)
/-- a sorted list with a file more; without a name; with a file in its name's place -/
def insF (f : Fil) : List Fil → List Fil
  | [] => [f]
  | y :: r => if bytesBefore f.nm y.nm then f :: y :: r else y :: insF f r
def delF (n : List UInt8) (l : List Fil) : List Fil := l.filter fun g => !(g.nm == n)
def putF (f : Fil) (l : List Fil) : List Fil := insF f (delF f.nm l)
def getF (n : List UInt8) (l : List Fil) : Option Fil := l.find? fun g => g.nm == n
def Srt (l : List Fil) : Prop := l.Pairwise fun f g => bytesBefore f.nm g.nm = true

theorem ins_map (f : Fil) : ∀ l : List Fil, DataW.insert (entF f) (l.map entF) = (insF f l).map entF
  | [] => rfl
  | y :: r => by
    simp only [List.map_cons, DataW.insert, insF]
    have : (entF f).1.before (entF y).1 = bytesBefore f.nm y.nm := rfl
    rw [this]
    split
    · rfl
    · rw [ins_map f r]; rfl
theorem key_same (a b : List UInt8) : (Lit.string a).sameKey (.string b) = (a == b) := rfl
theorem del_map (n : List UInt8) (l : List Fil) : (l.map entF).filter (fun p => !p.1.sameKey (.string n)) = (delF n l).map entF := by
  unfold delF
  rw [List.filter_map]
  rfl
theorem datF_put (l : List Fil) (f : Fil) : (datF l).put (.string f.nm) (.lit (.int .i64 f.blk)) = datF (putF f l) := by
  show DataW.map (DataW.insert (entF f) ((l.map entF).filter fun p => !p.1.sameKey (.string f.nm))) = _
  rw [del_map, ins_map]; rfl
theorem datF_del (l : List Fil) (n : List UInt8) : (datF l).del (.string n) = datF (delF n l) := by
  show DataW.map ((l.map entF).filter fun p => !p.1.sameKey (.string n)) = _
  rw [del_map]; rfl
theorem find_map (n : List UInt8) : ∀ l : List Fil, (l.map entF).find? (fun p => p.1.sameKey (.string n)) = (getF n l).map entF
  | [] => rfl
  | y :: r => by
    unfold getF
    simp only [List.map_cons, List.find?_cons]
    have : (entF y).1.sameKey (.string n) = (y.nm == n) := rfl
    rw [this]
    cases y.nm == n
    · exact find_map n r
    · rfl
theorem datF_at (l : List Fil) (n : List UInt8) (z : DataW Unit) : (datF l).atKey (.string n) z = match getF n l with | some f => .lit (.int .i64 f.blk) | none => z := by
  unfold DataW.atKey datF
  simp only [find_map]
  cases getF n l <;> rfl
theorem datF_size (l : List Fil) : size (datF l) = l.length := by simp [datF, size]
theorem getF_mem {n : List UInt8} {l : List Fil} {f : Fil} (h : getF n l = some f) : f ∈ l ∧ f.nm = n := by
  unfold getF at h
  exact ⟨List.mem_of_find?_eq_some h, by have := List.find?_some h; simpa using this⟩
theorem getF_none {n : List UInt8} {l : List Fil} (h : getF n l = none) : ∀ g ∈ l, g.nm ≠ n := by
  unfold getF at h
  intro g hg
  have := List.find?_eq_none.1 h g hg
  simpa using this
theorem mem_insF {f g : Fil} : ∀ {l : List Fil}, g ∈ insF f l ↔ g = f ∨ g ∈ l
  | [] => by simp [insF]
  | y :: r => by
    unfold insF
    split
    · simp
    · simp only [List.mem_cons, mem_insF (l := r)]
      constructor
      · rintro (h | h | h)
        · exact .inr (.inl h)
        · exact .inl h
        · exact .inr (.inr h)
      · rintro (h | h | h)
        · exact .inr (.inl h)
        · exact .inl h
        · exact .inr (.inr h)
theorem mem_delF {n : List UInt8} {l : List Fil} {g : Fil} : g ∈ delF n l ↔ g ∈ l ∧ g.nm ≠ n := by simp [delF]
theorem mem_putF {f g : Fil} {l : List Fil} : g ∈ putF f l ↔ g = f ∨ (g ∈ l ∧ g.nm ≠ f.nm) := by rw [putF, mem_insF, mem_delF]
theorem srt_del {l : List Fil} (h : Srt l) (n : List UInt8) : Srt (delF n l) := List.Pairwise.filter _ h
theorem srt_ins {f : Fil} : ∀ {l : List Fil}, Srt l → (∀ g ∈ l, g.nm ≠ f.nm) → Srt (insF f l)
  | [], _, _ => by simp [insF, Srt]
  | y :: r, h, hn => by
    obtain ⟨h1, h2⟩ := List.pairwise_cons.1 h
    unfold insF
    split
    · rename_i hb
      refine List.pairwise_cons.2 ⟨fun g hg => ?_, h⟩
      rcases List.mem_cons.1 hg with rfl | hg
      · exact hb
      · exact WideShapes.bytes_trans _ _ _ hb (h1 g hg)
    · rename_i hb
      have hy : bytesBefore y.nm f.nm = true := by
        rcases WideAt.bytes_total y.nm f.nm (hn y (by simp)) with h | h
        · exact h
        · exact absurd h hb
      refine List.pairwise_cons.2 ⟨fun g hg => ?_, srt_ins h2 (fun g hg => hn g (by simp [hg]))⟩
      rcases mem_insF.1 hg with rfl | hg
      · exact hy
      · exact h1 g hg
theorem srt_put {f : Fil} {l : List Fil} (h : Srt l) : Srt (putF f l) := srt_ins (srt_del h _) (fun g hg => (mem_delF.1 hg).2)
theorem srt_ne {l : List Fil} (h : Srt l) : l.Pairwise fun f g => f.nm ≠ g.nm := h.imp fun hb e => by rw [e, WideAt.bytes_irrefl] at hb; cases hb
theorem srt_inj {l : List Fil} (h : Srt l) {f g : Fil} (hf : f ∈ l) (hg : g ∈ l) (e : f.nm = g.nm) : f = g := by
  have := srt_ne h
  induction l with
  | nil => cases hf
  | cons y r ih =>
    obtain ⟨h1, h2⟩ := List.pairwise_cons.1 this
    rcases List.mem_cons.1 hf with ef | hf'
    · rcases List.mem_cons.1 hg with eg | hg'
      · rw [ef, eg]
      · exact absurd (ef ▸ e) (h1 g hg')
    · rcases List.mem_cons.1 hg with eg | hg'
      · exact absurd (eg ▸ e.symm) (h1 f hf')
      · exact ih (List.pairwise_cons.1 h).2 hf' hg' h2
theorem insF_front {f : Fil} {l : List Fil} (h : ∀ g ∈ l, bytesBefore f.nm g.nm = true) : insF f l = f :: l := by
  cases l with
  | nil => rfl
  | cons y r => unfold insF; rw [if_pos (h y (by simp))]
/-- in a sorted list the file stands where its name stood -/
theorem putF_mod {f : Fil} : ∀ {l : List Fil}, Srt l → (∃ g ∈ l, g.nm = f.nm) → putF f l = l.map fun g => if g.nm == f.nm then f else g
  | [], _, h => by obtain ⟨g, hg, _⟩ := h; cases hg
  | y :: r, hs, h => by
    obtain ⟨h1, h2⟩ := List.pairwise_cons.1 hs
    by_cases hy : y.nm = f.nm
    · have hr : ∀ g ∈ r, g.nm ≠ f.nm := fun g hg e => by have := h1 g hg; rw [hy, e, WideAt.bytes_irrefl] at this; cases this
      have hd : delF f.nm (y :: r) = r := by
        unfold delF
        rw [List.filter_cons_of_neg (by simp [hy]), List.filter_eq_self.2 (fun g hg => by simpa using hr g hg)]
      have hm : r.map (fun g => if g.nm == f.nm then f else g) = r := by
        conv => rhs; rw [← List.map_id r]
        exact List.map_congr_left fun g hg => by rw [if_neg (by simpa using hr g hg)]; rfl
      unfold putF
      rw [hd, insF_front (fun g hg => hy ▸ h1 g hg), List.map_cons, if_pos (by simp [hy]), hm]
    · have hg : ∃ g ∈ r, g.nm = f.nm := by
        obtain ⟨g, hg, e⟩ := h
        rcases List.mem_cons.1 hg with rfl | hg
        · exact absurd e hy
        · exact ⟨g, hg, e⟩
      have hd : delF f.nm (y :: r) = y :: delF f.nm r := by unfold delF; rw [List.filter_cons_of_pos (by simp [hy])]
      have hb : ¬ bytesBefore f.nm y.nm = true := by
        obtain ⟨g, hg, e⟩ := hg
        intro hb
        have := WideShapes.bytes_trans _ _ _ hb (h1 g hg)
        rw [e, WideAt.bytes_irrefl] at this; cases this
      have := putF_mod (f := f) h2 hg
      unfold putF at this ⊢
      rw [hd, insF, if_neg hb, this, List.map_cons, if_neg (by simp [hy])]
theorem putF_same {f f' : Fil} {l : List Fil} (hs : Srt l) (hf : f ∈ l) (hn : f'.nm = f.nm) (hb : f'.blk = f.blk) : datF (putF f' l) = datF l := by
  rw [putF_mod hs ⟨f, hf, hn.symm⟩]
  unfold datF
  rw [List.map_map]
  congr 1
  refine List.map_congr_left fun g hg => ?_
  show entF (if g.nm == f'.nm then f' else g) = entF g
  split
  · rename_i h
    have : g = f := srt_inj hs hg hf (by rw [← hn]; simpa using h)
    subst this
    simp [entF, hn, hb]
  · rfl
theorem putF_len {f : Fil} {l : List Fil} (hs : Srt l) (h : ∃ g ∈ l, g.nm = f.nm) : (putF f l).length = l.length := by rw [putF_mod hs h, List.length_map]
theorem insF_len (f : Fil) : ∀ l : List Fil, (insF f l).length = l.length + 1
  | [] => rfl
  | y :: r => by
    unfold insF
    split
    · rfl
    · simp [insF_len f r]
theorem putF_new {f : Fil} {l : List Fil} (h : ∀ g ∈ l, g.nm ≠ f.nm) : putF f l = insF f l := by
  unfold putF delF
  rw [List.filter_eq_self.2 (fun g hg => by simpa using h g hg)]
theorem get_ins (f : Fil) (n : List UInt8) : ∀ l : List Fil, (∀ g ∈ l, g.nm ≠ f.nm) → getF n (insF f l) = if f.nm == n then some f else getF n l
  | [], _ => by
    simp only [insF, getF, List.find?_cons, List.find?_nil]
    cases f.nm == n <;> rfl
  | y :: r, h => by
    unfold insF
    split
    · simp only [getF, List.find?_cons]
      cases f.nm == n <;> rfl
    · have ih := get_ins f n r (fun g hg => h g (by simp [hg]))
      simp only [getF, List.find?_cons] at ih ⊢
      cases hy : y.nm == n
      · simp only [ih]
      · have : ¬ (f.nm == n) = true := by
          intro e
          have e1 : f.nm = n := by simpa using e
          have e2 : y.nm = n := by simpa using hy
          exact h y (by simp) (e2.trans e1.symm)
        simp [this]
theorem get_put (f : Fil) (n : List UInt8) (l : List Fil) : getF n (putF f l) = if f.nm == n then some f else getF n l := by
  unfold putF
  rw [get_ins f n _ (fun g hg => (mem_delF.1 hg).2)]
  split
  · rfl
  · rename_i h
    unfold getF delF
    exact find_filter_keep (fun p hp => by
      have e : p.nm = n := by simpa using hp
      simp only [Bool.not_eq_true'] at h ⊢
      rw [e]
      cases hq : n == f.nm
      · rfl
      · exact absurd (by simpa using (show n = f.nm by simpa using hq).symm) h) l
theorem get_del (n m : List UInt8) (l : List Fil) : getF n (delF m l) = if m == n then none else getF n l := by
  split
  · rename_i h
    have e : m = n := by simpa using h
    unfold getF
    exact List.find?_eq_none.2 fun g hg => by have := (mem_delF.1 hg).2; simpa [← e] using this
  · rename_i h
    unfold getF delF
    exact find_filter_keep (fun p hp => by
      have e : p.nm = n := by simpa using hp
      simp only [Bool.not_eq_true'] at h ⊢
      rw [e]
      cases hq : n == m
      · rfl
      · exact absurd (by simpa using (show n = m by simpa using hq).symm) h) l

/-! the map in memory -/
section
variable {P : Program} {k : TypeId} {w : World} {b n : Nat} {l : List Fil}
/-- block b is the map of the files -/
def MapF (w : World) (P : Program) (k : TypeId) (b : Nat) (l : List Fil) : Prop := w.ownsMap P k ptrE b l.length (datF l)
theorem mapF_of {D : DataW Unit} (h : w.ownsMap P k ptrE b n D) (hD : D = datF l) : MapF w P k b l := by
  subst hD
  obtain ⟨es, clock, hb, F, hs, hD⟩ := h
  refine ⟨es, clock, hb, F, ?_, hD⟩
  have := congrArg size hD
  rw [datF_size] at this
  rw [this]
  simp [size, length_sorted]
theorem MapF.lt (h : MapF w P k b l) : b < w.heap.size := World.ownsMap.lt h
theorem MapF.kept {w' : World} (h : MapF w P k b l) (hk : w'.heap[b]? = w.heap[b]?) : MapF w' P k b l := by
  obtain ⟨es, clock, hb, r⟩ := h
  exact ⟨es, clock, hk.trans hb, r⟩
theorem MapF.same (h : MapF w P k b l) {l' : List Fil} (hd : datF l' = datF l) : MapF w P k b l' := mapF_of h hd.symm
theorem mapF_made (w : World) (P : Program) (k : TypeId) : MapF (w.alloc (.map #[] 0)) P k w.heap.size [] := World.ownsMap_made w P k ptrE
/-- the pointer that a look-up gives -/
def ptrF (o : Option Fil) : Value := match o with | some f => .pointer (some ⟨f.blk, 0, none⟩) | none => .pointer none
theorem MapF.look {t e : TypeId} (h : MapF w P k b l) (hk : P.underlying k = some .string) (ht : P.underlying t = some (.map k e)) (hz : (zeroValue e).run P w = .ok (.pointer none) w) (nm : ByteArray) (hs : nm.size ≤ maxLen) :
    (Instr.lookup t (.map (some b)) (.string nm) false).run P w = .ok (ptrF (getF nm.data.toList l)) w := by
  obtain ⟨v, ps, hr, hv⟩ := World.ownsMap.lookup h (string_keyed hk) ht hz (zd := .nil) (zp := []) rfl (WideMaps.keyOf_string_mk hk hs)
  rw [hr, datF_at] at *
  cases hg : getF nm.data.toList l with
  | none => rw [hg] at hv; rw [ptrE_nil hv]; rfl
  | some f => rw [hg] at hv; rw [ptrE_some hv]; rfl
theorem MapF.store {t e : TypeId} (h : MapF w P k b l) (hk : P.underlying k = some .string) (ht : P.underlying t = some (.map k e)) (hl : l.length < 1000) (nm : ByteArray) (hs : nm.size ≤ maxLen) (f : Fil) (hf : f.nm = nm.data.toList) :
    ∃ w', (Instr.mapUpdate t (.map (some b)) (.string nm) (.pointer (some ⟨f.blk, 0, none⟩))).run P w = .ok () w' ∧ MapF w' P k b (putF f l) ∧ w.grownBy w' (some b) := by
  obtain ⟨w', hr, ho, hg⟩ := World.ownsMap.update h (string_keyed hk) ht (by unfold maxLen; omega) (WideMaps.keyOf_string_mk hk hs) (ptrE_mk f.blk)
  rw [← hf, datF_put] at ho
  exact ⟨w', hr, mapF_of ho rfl, hg⟩
theorem MapF.drop {t e : TypeId} (h : MapF w P k b l) (hk : P.underlying k = some .string) (ht : P.underlying t = some (.map k e)) (nm : ByteArray) (hs : nm.size ≤ maxLen) (ty : TypeId) :
    ∃ w', (Builtin.delete_ #[t, k] ty #[.map (some b), .string nm]).run P w = .ok (.tuple #[]) w' ∧ MapF w' P k b (delF nm.data.toList l) ∧ w.grownBy w' (some b) := by
  obtain ⟨w', hr, ho, hg⟩ := World.ownsMap.drop h (string_keyed hk) ht (WideMaps.keyOf_string_mk hk hs) ty
  rw [datF_del] at ho
  exact ⟨w', hr, mapF_of ho rfl, hg.grown⟩
theorem MapF.len {t e : TypeId} (h : MapF w P k b l) (ht : P.underlying t = some (.map k e)) (ty : TypeId) : (Builtin.len_ #[t] ty #[.map (some b)]).run P w = .ok (.int .i64 l.length) w := by
  have := World.ownsMap.len h ht ty
  rwa [datF_size] at this
end
end
section
set_option linter.unusedVariables false
set_option linter.unusedSimpArgs false
open Go.Maps Go.RowKit

/-! plain: a disk -/
structure DS where
  fs : List Fil
  on : Bool
  left : Int
def mkF (nm xs : List UInt8) (sure : Nat) : Fil := ⟨nm, 0, undef, xs, sure⟩
def absF (f : Fil) : Fil := mkF f.nm f.xs f.sure
def useS (left : Int) (n : Nat) : Nat × Int × Bool := if left < 0 then (n, left, true) else if n ≤ left.toNat then (n, left - (n : Int), true) else (left.toNat, 0, false)
def bytesOf (nm : List UInt8) : ByteArray := ⟨nm.toArray⟩
def okName (nm : List UInt8) : Bool := Nm.nameB (bytesOf nm)
def DS.use (s : DS) (n : Nat) : DS := ⟨s.fs, (useS s.left n).2.2, (useS s.left n).2.1⟩
/-- the code's answer when there was power enough, or not -/
def okE (b : Bool) : Int := if b then 0 else 20
def appS (s : DS) (nm m : List UInt8) : DS × Int :=
  if s.on = false then (s, 20) else if okName nm = false then (s, 1) else
  match getF nm s.fs with
  | none => if 8 ≤ s.fs.length then (s, 3) else if 1048576 < m.length then (s, 3) else
      (⟨putF (mkF nm (m.take (useS s.left m.length).1) 0) s.fs, (useS s.left m.length).2.2, (useS s.left m.length).2.1⟩, okE (useS s.left m.length).2.2)
  | some f => if 1048576 < f.xs.length + m.length then (s, 3) else
      (⟨putF (mkF nm (f.xs ++ m.take (useS s.left m.length).1) f.sure) s.fs, (useS s.left m.length).2.2, (useS s.left m.length).2.1⟩, okE (useS s.left m.length).2.2)
/-- an act that needs a unit -/
def unitS (s : DS) (fs : List Fil) : DS × Int := if (useS s.left 1).2.2 then (⟨fs, true, (useS s.left 1).2.1⟩, 0) else (s.use 1, 20)
def syncS (s : DS) (nm : List UInt8) : DS × Int :=
  if s.on = false then (s, 20) else match getF nm s.fs with
  | none => (s, 4)
  | some f => unitS s (putF (mkF nm f.xs f.xs.length) s.fs)
def renS (s : DS) (nm tn : List UInt8) : DS × Int :=
  if s.on = false then (s, 20) else match getF nm s.fs with
  | none => (s, 4)
  | some f => if okName tn = false then (s, 1) else unitS s (putF (mkF tn f.xs f.sure) (delF nm s.fs))
def cutS (s : DS) (nm : List UInt8) (n : Int) : DS × Int :=
  if s.on = false then (s, 20) else match getF nm s.fs with
  | none => (s, 4)
  | some f => if n < 0 ∨ (f.xs.length : Int) < n then (s, 1) else unitS s (putF (mkF nm (f.xs.take n.toNat) (min f.sure n.toNat)) s.fs)
def remS (s : DS) (nm : List UInt8) : DS × Int :=
  if s.on = false then (s, 20) else match getF nm s.fs with
  | none => (s, 4)
  | some f => unitS s (delF nm s.fs)
def readS (s : DS) (nm : List UInt8) : List UInt8 × Int :=
  if s.on = false then ([], 20) else match getF nm s.fs with
  | none => ([], 4)
  | some f => (f.xs, 0)
def fuseS (s : DS) (n : Int) : DS := if s.on then ⟨s.fs, true, max n (-1)⟩ else s
/-- a file behind a crash -/
def crF (keep : Int) (f : Fil) : Fil := mkF f.nm (f.xs.take (f.sure + min keep.toNat (f.xs.length - f.sure))) (f.sure + min keep.toNat (f.xs.length - f.sure))
def crashS (s : DS) (keep : Int) : DS := ⟨s.fs.map (crF keep), true, -1⟩
def newS : DS := ⟨[], true, -1⟩

theorem abs_ins (f : Fil) : ∀ l : List Fil, (insF f l).map absF = insF (absF f) (l.map absF)
  | [] => rfl
  | y :: r => by
    simp only [List.map_cons, insF]
    have : bytesBefore (absF f).nm (absF y).nm = bytesBefore f.nm y.nm := rfl
    rw [this]
    split
    · rfl
    · rw [List.map_cons, abs_ins f r]
theorem abs_del (n : List UInt8) (l : List Fil) : (delF n l).map absF = delF n (l.map absF) := by
  unfold delF
  rw [List.filter_map]
  rfl
theorem abs_put (f : Fil) (l : List Fil) : (putF f l).map absF = putF (absF f) (l.map absF) := by
  unfold putF
  rw [abs_ins, abs_del]; rfl
theorem abs_get (n : List UInt8) : ∀ l : List Fil, getF n (l.map absF) = (getF n l).map absF
  | [] => rfl
  | y :: r => by
    unfold getF
    simp only [List.map_cons, List.find?_cons]
    have : ((absF y).nm == n) = (y.nm == n) := rfl
    rw [this]
    cases y.nm == n
    · exact abs_get n r
    · rfl

/-! in memory -/
/-- the bytes of a file -/
def Fb (w : World) (base : Nat) (v : Value) (xs : List UInt8) : Prop := (∃ p d, v = .slice p xs.length d ∧ xs.length ≤ d) ∧ w.ownsRow base 5 1 v xs.length (cells8 xs)
theorem Fb.acc {w : World} {base : Nat} {v : Value} {xs : List UInt8} (h : Fb w base v xs) : Acc w base v xs := ⟨h.1, .inr h.2⟩
theorem Fb.kept {w w' : World} {base : Nat} {v : Value} {xs : List UInt8} (h : Fb w base v xs) (hk : ∀ b, v.ownBlock = some b → w'.heap[b]? = w.heap[b]?) : Fb w' base v xs := by
  refine ⟨h.1, h.2.1, ?_⟩
  rcases h.2.2 with h2 | ⟨g, cap, cur, rfl, h3, h4, h5⟩
  · exact .inl h2
  · exact .inr ⟨g, cap, cur, rfl, h3, (hk g rfl).trans h4, h5⟩
theorem fb_nil (w : World) (base : Nat) : Fb w base (.slice none 0 0) [] := ⟨⟨none, 0, rfl, Nat.le_refl _⟩, World.ownsRow_nil _ _ _ _⟩
/-- the first bytes -/
theorem Fb.cut {w : World} {base : Nat} {p : Option Addr} {n d : Nat} {xs : List UInt8} (h : Fb w base (.slice p n d) xs) (k : Nat) (hk : k ≤ xs.length) : Fb w base (.slice p k d) (xs.take k) := by
  have hl : (xs.take k).length = k := by rw [List.length_take]; omega
  obtain ⟨⟨p', d', he, hd⟩, h1, h2⟩ := h
  cases he
  refine ⟨⟨p, d, by rw [hl], by omega⟩, ?_, ?_⟩
  · rw [cells8_len]; simp
  · rcases h2 with ⟨h2, h3⟩ | ⟨g, cap, cur, h3, h4, h5, h6, h7, h8, h9⟩
    · injection h2 with e1 e2 e3
      subst e1
      subst e3
      have : k = 0 := by omega
      subst this
      exact .inl ⟨rfl, hl⟩
    · injection h3 with e1 e2 e3
      subst e1
      subst e3
      refine .inr ⟨g, d, cur, by rw [hl], h4, h5, by omega, h7, h8, ?_⟩
      rw [hl, Nat.mul_one]
      have e : cells8 (xs.take k) = (cells8 xs).take k := by simp [cells8, List.map_take]
      rw [e, ← h9, Nat.mul_one, List.take_take, Nat.min_eq_left (by omega)]

/-- of the blocks that were there those of O alone have turned; O' is of O or new -/
structure Fr (w w' : World) (O O' : Nat → Prop) : Prop where
  os : w'.os = w.os
  tape : w'.tape = w.tape
  output : w'.output = w.output
  size : w.heap.size ≤ w'.heap.size
  block : ∀ b, b < w.heap.size → ¬ O b → w'.heap[b]? = w.heap[b]?
  own : ∀ b, O' b → O b ∨ w.heap.size ≤ b
theorem Fr.refl (w : World) (O : Nat → Prop) : Fr w w O O := ⟨rfl, rfl, rfl, Nat.le_refl _, fun _ _ _ => rfl, fun _ h => .inl h⟩
theorem Fr.of {w w' : World} (O : Nat → Prop) (h : Below w.heap.size w w') : Fr w w' O O := ⟨h.os, h.tape, h.output, h.size, fun b hb _ => h.block b hb, fun _ h => .inl h⟩
theorem Fr.trans {a b c : World} {O O' O'' : Nat → Prop} (h : Fr a b O O') (k : Fr b c O' O'') : Fr a c O O'' :=
  ⟨k.os.trans h.os, k.tape.trans h.tape, k.output.trans h.output, Nat.le_trans h.size k.size,
    fun i hi ho => (k.block i (Nat.lt_of_lt_of_le hi h.size) (fun e => (h.own i e).elim ho (fun h => by omega))).trans (h.block i hi ho),
    fun i hi => (k.own i hi).elim (h.own i) (fun e => .inr (Nat.le_trans h.size e))⟩
theorem Fr.grown {w w' : World} {O : Nat → Prop} {row : Option Nat} (hg : w.grownBy w' row) (h : ∀ b, row = some b → O b) : Fr w w' O O :=
  ⟨hg.os, hg.tape, hg.output, hg.size, fun b hb ho => hg.block b hb (fun e => ho (h b e.symm)), fun _ h => .inl h⟩
theorem Fr.set (w : World) {O : Nat → Prop} (b : Nat) (hb : O b) (o : Nat) (u : Value) : Fr w (w.setCell ⟨b, o, none⟩ u) O O :=
  ⟨rfl, rfl, rfl, by simp [World.setCell], fun k _ hn => Below.heap_setCell w ⟨b, o, none⟩ u k (fun e => hn (e ▸ hb)), fun _ h => .inl h⟩
theorem Fr.below {w w' : World} {O O' : Nat → Prop} (h : Fr w w' O O') {B : Nat} (hO : ∀ b, O b → B ≤ b) (hB : B ≤ w.heap.size) : Below B w w' :=
  ⟨h.os, h.tape, h.output, h.size, fun b hb => h.block b (by omega) (fun e => by have := hO b e; omega)⟩
theorem Fr.sub {w w' : World} {O O' O'' : Nat → Prop} (h : Fr w w' O O') (hs : ∀ b, O'' b → O' b ∨ w.heap.size ≤ b) : Fr w w' O O'' :=
  ⟨h.os, h.tape, h.output, h.size, h.block, fun b hb => (hs b hb).elim (h.own b) .inr⟩

/-- the blocks of a disk -/
def OwnD (d mb : Nat) (l : List Fil) (b : Nat) : Prop := b = d ∨ b = mb ∨ ∃ f ∈ l, b = f.blk ∨ f.v.ownBlock = some b
/-- a disk at block d, whose map is block mb -/
structure Dl (w : World) (base d mb : Nat) (l : List Fil) (on : Bool) (left : Int) : Prop where
  dsk : Bk w d 68 #[.map (some mb), .bool on, .int .i64 left]
  map : MapF w Tryd.prog 9 mb l
  fil : ∀ f ∈ l, Bk w f.blk 83 #[f.v, .int .i64 f.sure]
  row : ∀ f ∈ l, Fb w base f.v f.xs
  sz : ∀ f ∈ l, f.sure ≤ f.xs.length ∧ f.xs.length ≤ 1048576 ∧ okName f.nm = true
  srt : Srt l
  ap : l.Pairwise fun f g => f.blk ≠ g.blk ∧ ∀ b, f.v.ownBlock = some b → g.v.ownBlock ≠ some b
  bs : base ≤ d ∧ base ≤ mb ∧ ∀ f ∈ l, base ≤ f.blk
  lf : -1 ≤ left ∧ left ≤ 9223372036854775807
  le : l.length ≤ 8
/-- a disk that reads as s, whose blocks are those of O -/
def Dk (w : World) (base d : Nat) (s : DS) (O : Nat → Prop) : Prop := ∃ mb l, Dl w base d mb l s.on s.left ∧ s.fs = l.map absF ∧ O = OwnD d mb l

section
variable {w w' : World} {base d mb : Nat} {l : List Fil} {on : Bool} {left : Int}
theorem row_at {f : Fil} (h : Fb w base f.v f.xs) {b : Nat} (hb : f.v.ownBlock = some b) : base ≤ b ∧ ∃ cur, w.heap[b]? = some (.cells cur 5 (0, 0)) := by
  rcases h.2.2 with ⟨h2, _⟩ | ⟨g, cap, cur, h3, h4, h5, _⟩
  · rw [h2] at hb; cases hb
  · rw [h3] at hb
    obtain rfl : g = b := by simpa [Value.ownBlock] using hb
    exact ⟨h4, cur, h5⟩
theorem Dl.lt (h : Dl w base d mb l on left) : ∀ b, OwnD d mb l b → b < w.heap.size ∧ base ≤ b := by
  rintro b (rfl | rfl | ⟨f, hf, rfl | hb⟩)
  · exact ⟨h.dsk.lt, h.bs.1⟩
  · exact ⟨h.map.lt, h.bs.2.1⟩
  · exact ⟨(h.fil f hf).lt, h.bs.2.2 f hf⟩
  · obtain ⟨h1, cur, h2⟩ := row_at (h.row f hf) hb
    exact ⟨(Array.getElem?_eq_some_iff.1 h2).1, h1⟩
theorem Dl.kept (h : Dl w base d mb l on left) (hk : ∀ b, OwnD d mb l b → w'.heap[b]? = w.heap[b]?) : Dl w' base d mb l on left :=
  ⟨(hk d (.inl rfl)).trans h.dsk, h.map.kept (hk mb (.inr (.inl rfl))), fun f hf => (hk f.blk (.inr (.inr ⟨f, hf, .inl rfl⟩))).trans (h.fil f hf),
    fun f hf => (h.row f hf).kept fun b hb => hk b (.inr (.inr ⟨f, hf, .inr hb⟩)), h.sz, h.srt, h.ap, h.bs, h.lf, h.le⟩
theorem Dl.on_ (h : Dl w base d mb l on left) (hb : Below w.heap.size w w') : Dl w' base d mb l on left := h.kept fun b ho => hb.block b (h.lt b ho).1
/-- kinds of blocks tell them apart -/
theorem Dl.ne_map (h : Dl w base d mb l on left) : mb ≠ d := by
  intro e
  obtain ⟨es, clock, hb, _⟩ := h.map
  have := h.dsk
  unfold Bk at this
  rw [← e, hb] at this
  cases this
theorem Dl.fil_ne (h : Dl w base d mb l on left) {f : Fil} (hf : f ∈ l) : f.blk ≠ d ∧ f.blk ≠ mb := by
  have hb := h.fil f hf
  unfold Bk at hb
  constructor
  · intro e
    have hd := h.dsk
    unfold Bk at hd
    rw [← e, hb] at hd
    injection hd with e; injection e with e1 e2
    exact absurd e2 (by decide)
  · intro e
    obtain ⟨es, clock, hm, _⟩ := h.map
    rw [e, hm] at hb
    cases hb
theorem Dl.row_ne (h : Dl w base d mb l on left) {f : Fil} (hf : f ∈ l) {b : Nat} (hb : f.v.ownBlock = some b) : b ≠ d ∧ b ≠ mb ∧ ∀ g ∈ l, b ≠ g.blk := by
  obtain ⟨_, cur, hc⟩ := row_at (h.row f hf) hb
  refine ⟨?_, ?_, fun g hg e => ?_⟩
  · intro e
    have hd := h.dsk
    unfold Bk at hd
    rw [← e, hc] at hd
    injection hd with e; injection e with e1 e2
    exact absurd e2 (by decide)
  · intro e
    obtain ⟨es, clock, hm, _⟩ := h.map
    rw [e, hm] at hc
    cases hc
  · have hd := h.fil g hg
    unfold Bk at hd
    rw [← e, hc] at hd
    injection hd with e; injection e with e1 e2
    exact absurd e2 (by decide)
end
end
section
set_option linter.unusedVariables false
set_option linter.unusedSimpArgs false
open Go.Maps Go.RowKit

def Apart (f g : Fil) : Prop := f.blk ≠ g.blk ∧ ∀ b, f.v.ownBlock = some b → g.v.ownBlock ≠ some b
theorem Apart.symm {f g : Fil} (h : Apart f g) : Apart g f := ⟨fun e => h.1 e.symm, fun b hb he => h.2 b he hb⟩
theorem pw_ins {R : Fil → Fil → Prop} {f : Fil} : ∀ {l : List Fil}, (∀ g ∈ l, R f g ∧ R g f) → l.Pairwise R → (insF f l).Pairwise R
  | [], _, _ => by simp [insF]
  | y :: r, h, hp => by
    obtain ⟨h1, h2⟩ := List.pairwise_cons.1 hp
    unfold insF
    split
    · exact List.pairwise_cons.2 ⟨fun g hg => (h g hg).1, hp⟩
    · refine List.pairwise_cons.2 ⟨fun g hg => ?_, pw_ins (fun g hg => h g (by simp [hg])) h2⟩
      rcases mem_insF.1 hg with rfl | hg
      · exact (h y (by simp)).2
      · exact h1 g hg
theorem pw_at {R : Fil → Fil → Prop} (hs : ∀ f g, R f g → R g f) : ∀ {l : List Fil}, l.Pairwise R → ∀ {f g : Fil}, f ∈ l → g ∈ l → f ≠ g → R f g
  | [], _, f, g, hf, _, _ => by cases hf
  | y :: r, hp, f, g, hf, hg, hn => by
    obtain ⟨h1, h2⟩ := List.pairwise_cons.1 hp
    rcases List.mem_cons.1 hf with ef | hf'
    · rcases List.mem_cons.1 hg with eg | hg'
      · exact absurd (ef.trans eg.symm) hn
      · rw [ef]; exact h1 g hg'
    · rcases List.mem_cons.1 hg with eg | hg'
      · rw [eg]; exact hs _ _ (h1 f hf')
      · exact pw_at hs h2 hf' hg' hn
section
variable {w w' : World} {base d mb : Nat} {l : List Fil} {on : Bool} {left : Int}
theorem Dl.apart (h : Dl w base d mb l on left) {f g : Fil} (hf : f ∈ l) (hg : g ∈ l) (hn : f.nm ≠ g.nm) : Apart f g :=
  pw_at (R := Apart) (fun _ _ h => h.symm) h.ap hf hg (fun e => hn (e ▸ rfl))
theorem Dl.setLeft (h : Dl w base d mb l on left) (k : Int) (hk : -1 ≤ k ∧ k ≤ 9223372036854775807) : Dl (w.setCell ⟨d, 2, none⟩ (.int .i64 k)) base d mb l on k := by
  have hot : ∀ b, b ≠ d → (w.setCell ⟨d, 2, none⟩ (.int .i64 k)).heap[b]? = w.heap[b]? := fun b hb => Below.heap_setCell w ⟨d, 2, none⟩ _ b hb
  exact ⟨h.dsk.set 2 _, h.map.kept (hot mb h.ne_map), fun f hf => (hot _ (h.fil_ne hf).1).trans (h.fil f hf), fun f hf => (h.row f hf).kept fun b hb => hot b (h.row_ne hf hb).1, h.sz, h.srt, h.ap, h.bs, hk, h.le⟩
theorem Dl.setOn (h : Dl w base d mb l on left) (b : Bool) : Dl (w.setCell ⟨d, 1, none⟩ (.bool b)) base d mb l b left := by
  have hot : ∀ x, x ≠ d → (w.setCell ⟨d, 1, none⟩ (.bool b)).heap[x]? = w.heap[x]? := fun x hx => Below.heap_setCell w ⟨d, 1, none⟩ _ x hx
  exact ⟨h.dsk.set 1 _, h.map.kept (hot mb h.ne_map), fun f hf => (hot _ (h.fil_ne hf).1).trans (h.fil f hf), fun f hf => (h.row f hf).kept fun b hb => hot b (h.row_ne hf hb).1, h.sz, h.srt, h.ap, h.bs, h.lf, h.le⟩
/-- a file more, or another one in its place -/
theorem Dl.put {f' : Fil} (h : Dl w base d mb l on left) (hd : w'.heap[d]? = w.heap[d]?)
    (ho : ∀ g ∈ l, g.nm ≠ f'.nm → w'.heap[g.blk]? = w.heap[g.blk]? ∧ ∀ b, g.v.ownBlock = some b → w'.heap[b]? = w.heap[b]?)
    (hm : MapF w' Tryd.prog 9 mb (putF f' l)) (hb : Bk w' f'.blk 83 #[f'.v, .int .i64 f'.sure]) (hr : Fb w' base f'.v f'.xs)
    (hz : f'.sure ≤ f'.xs.length ∧ f'.xs.length ≤ 1048576 ∧ okName f'.nm = true) (ha : ∀ g ∈ l, g.nm ≠ f'.nm → Apart f' g)
    (hle : (putF f' l).length ≤ 8) (hbb : base ≤ f'.blk) : Dl w' base d mb (putF f' l) on left := by
  refine ⟨hd.trans h.dsk, hm, fun g hg => ?_, fun g hg => ?_, fun g hg => ?_, srt_put h.srt, ?_, ⟨h.bs.1, h.bs.2.1, fun g hg => ?_⟩, h.lf, hle⟩
  · rcases mem_putF.1 hg with rfl | ⟨hg, hn⟩
    · exact hb
    · exact (ho g hg hn).1.trans (h.fil g hg)
  · rcases mem_putF.1 hg with rfl | ⟨hg, hn⟩
    · exact hr
    · exact (h.row g hg).kept (ho g hg hn).2
  · rcases mem_putF.1 hg with rfl | ⟨hg, hn⟩
    · exact hz
    · exact h.sz g hg
  · refine pw_ins (R := Apart) (fun g hg => ?_) (List.Pairwise.filter _ h.ap)
    obtain ⟨hg, hn⟩ := mem_delF.1 hg
    exact ⟨ha g hg hn, (ha g hg hn).symm⟩
  · rcases mem_putF.1 hg with rfl | ⟨hg, hn⟩
    · exact hbb
    · exact h.bs.2.2 g hg
theorem Dl.del (h : Dl w base d mb l on left) (nm : List UInt8) (hk : ∀ b, b ≠ mb → OwnD d mb l b → w'.heap[b]? = w.heap[b]?) (hm : MapF w' Tryd.prog 9 mb (delF nm l)) : Dl w' base d mb (delF nm l) on left := by
  refine ⟨(hk d (fun e => h.ne_map e.symm) (.inl rfl)).trans h.dsk, hm, fun g hg => ?_, fun g hg => ?_, fun g hg => h.sz g (mem_delF.1 hg).1, srt_del h.srt _, List.Pairwise.filter _ h.ap, ⟨h.bs.1, h.bs.2.1, fun g hg => h.bs.2.2 g (mem_delF.1 hg).1⟩, h.lf, Nat.le_trans (List.length_filter_le _ _) h.le⟩
  · have hg := (mem_delF.1 hg).1
    exact (hk g.blk (h.fil_ne hg).2 (.inr (.inr ⟨g, hg, .inl rfl⟩))).trans (h.fil g hg)
  · have hg := (mem_delF.1 hg).1
    exact (h.row g hg).kept fun b hb => hk b (h.row_ne hg hb).2.1 (.inr (.inr ⟨g, hg, .inr hb⟩))
theorem own_put {f' : Fil} {b : Nat} (h : OwnD d mb (putF f' l) b) : OwnD d mb l b ∨ b = f'.blk ∨ f'.v.ownBlock = some b := by
  rcases h with h | h | ⟨g, hg, h⟩
  · exact .inl (.inl h)
  · exact .inl (.inr (.inl h))
  · rcases mem_putF.1 hg with rfl | ⟨hg, _⟩
    · exact .inr h
    · exact .inl (.inr (.inr ⟨g, hg, h⟩))
theorem own_del {nm : List UInt8} {b : Nat} (h : OwnD d mb (delF nm l) b) : OwnD d mb l b := by
  rcases h with h | h | ⟨g, hg, h⟩
  · exact .inl h
  · exact .inr (.inl h)
  · exact .inr (.inr ⟨g, (mem_delF.1 hg).1, h⟩)
/-- a file's own two cells are written anew, and perhaps its row -/
theorem Dl.write {f : Fil} (h : Dl w base d mb l on left) (hf : f ∈ l) (v' : Value) (xs' : List UInt8) (sure' : Nat)
    (hk : ∀ b, b < w.heap.size → b ≠ f.blk → f.v.ownBlock ≠ some b → w'.heap[b]? = w.heap[b]?) (hsz : w.heap.size ≤ w'.heap.size)
    (hb : Bk w' f.blk 83 #[v', .int .i64 sure']) (hr : Fb w' base v' xs') (hz : sure' ≤ xs'.length ∧ xs'.length ≤ 1048576) (hv : ∀ b, v'.ownBlock = some b → f.v.ownBlock = some b ∨ w.heap.size ≤ b) :
    Dl w' base d mb (putF ⟨f.nm, f.blk, v', xs', sure'⟩ l) on left := by
  have hne : ∀ g ∈ l, g.nm ≠ f.nm → Apart f g := fun g hg hn => h.apart hf hg (fun e => hn e.symm)
  have hrd : ∀ b, f.v.ownBlock = some b → b ≠ d ∧ b ≠ mb ∧ ∀ g ∈ l, b ≠ g.blk := fun b hb => h.row_ne hf hb
  refine h.put (f' := ⟨f.nm, f.blk, v', xs', sure'⟩) (hk d h.dsk.lt (fun e => (h.fil_ne hf).1 e.symm) (fun e => (hrd d e).1 rfl)) (fun g hg hn => ⟨?_, fun b hb => ?_⟩) ?_ hb hr ⟨hz.1, hz.2, (h.sz f hf).2.2⟩ (fun g hg hn => ⟨(hne g hg hn).1, fun b hb hb' => ?_⟩) ?_ (h.bs.2.2 f hf)
  · exact hk _ (h.fil g hg).lt (fun e => (hne g hg hn).1 e.symm) (fun e => (hrd _ e).2.2 g hg rfl)
  · exact hk b (h.lt b (.inr (.inr ⟨g, hg, .inr hb⟩))).1 (fun e => (h.row_ne hg hb).2.2 f hf e) (fun e => (hne g hg hn).2 b e hb)
  · have hm := h.map.kept (hk mb h.map.lt (fun e => (h.fil_ne hf).2 e.symm) (fun e => (hrd mb e).2.1 rfl))
    exact hm.same (putF_same h.srt hf rfl rfl)
  · rcases hv b hb with h1 | h1
    · exact (hne g hg hn).2 b h1 hb'
    · have := (h.lt b (.inr (.inr ⟨g, hg, .inr hb'⟩))).1
      omega
  · rw [putF_len (f := ⟨f.nm, f.blk, v', xs', sure'⟩) h.srt ⟨f, hf, rfl⟩]; exact h.le
theorem Dl.remap (h : Dl w base d mb l on left) (hg : w.grownBy w' (some mb)) (hm : MapF w' Tryd.prog 9 mb l) : Dl w' base d mb l on left :=
  ⟨(hg.block d h.dsk.lt (fun e => h.ne_map (Option.some.inj e).symm)).trans h.dsk, hm, fun g hg' => (hg.block g.blk (h.fil g hg').lt (fun e => (h.fil_ne hg').2 (Option.some.inj e))).trans (h.fil g hg'),
    fun g hg' => (h.row g hg').kept fun b hb => hg.block b (h.lt b (.inr (.inr ⟨g, hg', .inr hb⟩))).1 (fun e => (h.row_ne hg' hb).2.1 (Option.some.inj e)), h.sz, h.srt, h.ap, h.bs, h.lf, h.le⟩
end
end
section
set_option linter.unusedVariables false
set_option linter.unusedSimpArgs false
open Go.Maps Go.RowKit

section
variable {w : World} {base d mb : Nat} {l : List Fil} {on : Bool} {left : Int}
theorem Dl.cells (h : Dl w base d mb l on left) : w.cell? ⟨d, 0, none⟩ = some (.map (some mb)) ∧ w.cell? ⟨d, 1, none⟩ = some (.bool on) ∧ w.cell? ⟨d, 2, none⟩ = some (.int .i64 left) ∧ w.frozen? ⟨d, 0, none⟩ = false ∧ w.frozen? ⟨d, 1, none⟩ = false ∧ w.frozen? ⟨d, 2, none⟩ = false :=
  ⟨h.dsk.cell 0 _ rfl, h.dsk.cell 1 _ rfl, h.dsk.cell 2 _ rfl, h.dsk.soft 0, h.dsk.soft 1, h.dsk.soft 2⟩
end
theorem zeroPtr (w : World) : (zeroValue 81).run Tryd.prog w = .ok (.pointer none) w := by kernel_rfl

set_option maxRecDepth 100000 in
theorem on_any (base d mb : Nat) (l : List Fil) (on : Bool) (left : Int) (w : World) (h : Dl w base d mb l on left) :
    Calls Tryd.prog 45 #[.pointer (some ⟨d, 0, none⟩)] w fun e w' => e = .returned (.bool on) ∧ w = w' := by
  obtain ⟨c0, c1, c2, s0, s1, s2⟩ := h.cells
  clear h
  go_enter Tryd.func45, Tryd.ntmps45
  go_wp2_with fail
  go_ret
  exact ⟨rfl, rfl⟩
set_option maxRecDepth 100000 in
theorem on_nil (w : World) : Calls Tryd.prog 45 #[.pointer none] w fun e w' => e = .returned (.bool false) ∧ w = w' := by
  go_enter Tryd.func45, Tryd.ntmps45
  go_wp2_with fail
  go_ret
  exact ⟨rfl, rfl⟩
/-- what find tells -/
def findE (on : Bool) (o : Option Fil) : Int := if on = false then 20 else match o with | some _ => 0 | none => 4
def findP (on : Bool) (o : Option Fil) : Value := if on = false then .pointer none else ptrF o
set_option maxRecDepth 100000 in
theorem find_any (base d mb : Nat) (l : List Fil) (on : Bool) (left : Int) (nm : ByteArray) (hs : nm.size ≤ maxLen) (w : World) (h : Dl w base d mb l on left) :
    Calls Tryd.prog 46 #[.pointer (some ⟨d, 0, none⟩), .string nm] w fun e w' => e = .returned (.tuple #[findP on (getF nm.data.toList l), .int .i64 (findE on (getF nm.data.toList l))]) ∧ w = w' := by
  have HD := Lib.hid h
  obtain ⟨c0, c1, c2, s0, s1, s2⟩ := h.cells
  have hlk := h.map.look Tryd.underlying9 Tryd.underlying66 (zeroPtr w) nm hs
  clear h hs
  generalize getF nm.data.toList l = o at *
  cases on with
  | false =>
    go_enter Tryd.func46, Tryd.ntmps46
    go_wp2_with (go_at_call 45; refine (on_any base d mb l _ left _ HD.out).mono ?_; rintro r w1 ⟨rfl, rfl⟩)
    exact bodyPost_ret (results_tmp2 rfl _ _ _) rfl ⟨rfl, rfl⟩
  | true =>
    cases o with
    | none =>
      rw [show ptrF none = .pointer none from rfl] at hlk
      go_enter Tryd.func46, Tryd.ntmps46
      go_wp2_with (go_at_call 45; refine (on_any base d mb l _ left _ HD.out).mono ?_; rintro r w1 ⟨rfl, rfl⟩)
      exact bodyPost_ret (results_tmp2 rfl _ _ _) rfl ⟨rfl, rfl⟩
    | some f =>
      rw [show ptrF (some f) = .pointer (some ⟨f.blk, 0, none⟩) from rfl] at hlk
      go_enter Tryd.func46, Tryd.ntmps46
      go_wp2_with (go_at_call 45; refine (on_any base d mb l _ left _ HD.out).mono ?_; rintro r w1 ⟨rfl, rfl⟩)
      exact bodyPost_ret (results_tmp2 rfl _ _ _) rfl ⟨rfl, rfl⟩
theorem Fr.set2 (w : World) {d mb : Nat} {l : List Fil} (o : Nat) (u : Value) : Fr w (w.setCell ⟨d, o, none⟩ u) (OwnD d mb l) (OwnD d mb l) := Fr.set w d (.inl rfl) o u
set_option maxRecDepth 100000 in
theorem take_any (base d mb : Nat) (l : List Fil) (left : Int) (n : Nat) (hn : n ≤ 9223372036854775807) (w : World) (h : Dl w base d mb l true left) :
    Calls Tryd.prog 59 #[.pointer (some ⟨d, 0, none⟩), .int .i64 n] w fun e w' => e = .returned (.tuple #[.int .i64 ((useS left n).1 : Int), .int .i64 (okE (useS left n).2.2)]) ∧ Dl w' base d mb l (useS left n).2.2 (useS left n).2.1 ∧ Only d w w' := by
  have HD := Lib.hid h
  obtain ⟨c0, c1, c2, s0, s1, s2⟩ := h.cells
  have hl := h.lf
  clear h
  by_cases h1 : left = -1
  · subst h1
    have HU := Lib.hid (show useS (-1) n = (n, -1, true) by rfl)
    go_enter Tryd.func59, Tryd.ntmps59
    go_wp2_with fail
    exact bodyPost_ret (results_tmp2 rfl _ _ _) rfl ⟨by rw [HU.out]; rfl, by rw [HU.out]; exact HD.out, Only.refl _ _⟩
  · obtain ⟨k, rfl⟩ : ∃ k : Nat, left = (k : Int) := ⟨left.toNat, by omega⟩
    have e1 : ((k : Int) == -1) = false := by rw [beq_eq_false_iff_ne]; exact h1
    by_cases h2 : n ≤ k
    · have HU := Lib.hid (show useS (k : Int) n = (n, (k : Int) - (n : Int), true) by unfold useS; rw [if_neg (by omega), if_pos (by omega)])
      have m1 : min (n : Int) (k : Int) = (n : Int) := by omega
      have m2 : ¬ (n : Int) < (n : Int) := by omega
      have m3 : IntKind.i64.wrap ((k : Int) - (n : Int)) = (k : Int) - (n : Int) := IntWalk.i64_in _ (by omega)
      have HB := Lib.hid (show -1 ≤ (k : Int) - (n : Int) ∧ (k : Int) - (n : Int) ≤ 9223372036854775807 by omega)
      clear h2 hn hl h1
      go_enter Tryd.func59, Tryd.ntmps59
      go_wp2_with fail
      exact bodyPost_ret (results_tmp2 rfl _ _ _) rfl ⟨by rw [HU.out]; rfl, by rw [HU.out]; exact HD.out.setLeft _ HB.out, Only.set d w 2 _⟩
    · have HU := Lib.hid (show useS (k : Int) n = (k, 0, false) by unfold useS; rw [if_neg (by omega), if_neg (by omega)]; rfl)
      have m1 : min (n : Int) (k : Int) = (k : Int) := by omega
      have m2 : (k : Int) < (n : Int) := by omega
      have m3 : IntKind.i64.wrap ((k : Int) - (k : Int)) = 0 := by rw [Int.sub_self]; rfl
      have HX := Lib.hid (HD.out.setLeft 0 (by omega))
      have HY := Lib.hid (HX.out.setOn false)
      clear h2 hn hl h1
      go_enter Tryd.func59, Tryd.ntmps59
      go_wp2_with fail
      exact bodyPost_ret (results_tmp2 rfl _ _ _) rfl ⟨by rw [HU.out]; rfl, by rw [HU.out]; exact HY.out, (Only.set d w 2 _).trans (Only.set d _ 1 _)⟩
set_option maxRecDepth 100000 in
theorem fuse_any (base d mb : Nat) (l : List Fil) (on : Bool) (left n : Int) (hn : n ≤ 9223372036854775807) (w : World) (h : Dl w base d mb l on left) :
    Calls Tryd.prog 19 #[.pointer (some ⟨d, 0, none⟩), .int .i64 n] w fun e w' => e = .returned (.tuple #[]) ∧ Dl w' base d mb l on (if on then max n (-1) else left) ∧ Only d w w' := by
  have HD := Lib.hid h
  obtain ⟨c0, c1, c2, s0, s1, s2⟩ := h.cells
  clear h
  cases on with
  | false =>
    clear hn
    go_enter Tryd.func19, Tryd.ntmps19
    go_wp2_with (go_at_call 45; refine (on_any base d mb l _ left _ HD.out).mono ?_; rintro r w1 ⟨rfl, rfl⟩)
    go_end0
    exact ⟨rfl, HD.out, Only.refl _ _⟩
  | true =>
    have HX := Lib.hid (show ∀ k, k = max n (-1) → Dl (w.setCell ⟨d, 2, none⟩ (.int .i64 k)) base d mb l true (max n (-1)) from fun k hk => by rw [← hk]; exact HD.out.setLeft k (by omega))
    clear hn
    go_enter Tryd.func19, Tryd.ntmps19
    go_wp2_with (go_at_call 45; refine (on_any base d mb l _ left _ HD.out).mono ?_; rintro r w1 ⟨rfl, rfl⟩)
    all_goals
      go_end0
      exact ⟨rfl, HX.out _ (by omega), Only.set d w 2 _⟩
end
end Go.Proofs.YtooiaadnhglifaaDoor
