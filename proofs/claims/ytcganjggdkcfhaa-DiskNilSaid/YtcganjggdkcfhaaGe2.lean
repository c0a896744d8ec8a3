/-
  Evaluation of closed calls: the operations that read, write and make memory.
-/
import Derived.Test.YtcganjggdkcfhaaGe1
import Derived.Laws.CopyRow
import Derived.Laws.Tables
import Derived.Great.BuildSlice
import Derived.ChangeKeysEq
set_option linter.unusedVariables false
set_option linter.unusedSimpArgs false
namespace Go.Ge

/-- what a step that yields a value does -/
def Does (P : Program) (s : Sem Value) (id nx : Nat) (μ : Mu) (h : Heap) (w : World) (v : Value) (h' : Heap) : Prop :=
  ∃ μ' v' w', s.run P w = .ok v' w' ∧ VR μ' v v' ∧ Rel μ' h' w' ∧ Goes id nx μ h w μ' h' w'
/-- a step that yields nothing -/
def DoesU (P : Program) (s : Sem Unit) (id nx : Nat) (μ : Mu) (h : Heap) (w : World) (h' : Heap) : Prop :=
  ∃ μ' w', s.run P w = .ok () w' ∧ Rel μ' h' w' ∧ Goes id nx μ h w μ' h' w'

section
variable {P : Program} {μ : Mu} {h : Heap} {w : World} {id nx : Nat}
theorem Does.still {s : Sem Value} {v v' : Value} (r : Rel μ h w) (hs : s.run P w = .ok v' w) (hv : VR μ v v') : Does P s id nx μ h w v h :=
  ⟨μ, v', w, hs, hv, r, Goes.refl _ _ _ _ _⟩

theorem add_none (b o n : Nat) : (⟨b, o, none⟩ : Addr).add n = ⟨b, o + n, none⟩ := by
  unfold Addr.add
  split
  · rename_i e; subst e; rfl
  · rfl

theorem Rel.cells (r : Rel μ h w) {b : Nat} {c : List Value} {e : TypeId} {g : Option Nat} (hb : h.get b = some (.cells c e g)) {p : Place} (hp : μ b = some p) :
    ∃ (c' : Array Value) (fz : Nat × Nat), w.heap[p.blk]? = some (.cells c' e fz) ∧ FzOk fz c'.size ∧ (∀ (i : Nat) (v : Value), c[i]? = some v → ∃ v', c'[i + p.disp]? = some v' ∧ VR μ v v') ∧
      GrowOk g p c'.size c.length := by
  obtain ⟨q, hq, ho⟩ := r.live b _ hb
  rw [hp] at hq
  cases hq
  exact ho

theorem FzOk.off {fz : Nat × Nat} {n o : Nat} (hz : FzOk fz n) (ho : o < n) : (decide (fz.1 ≤ o) && decide (o < fz.2)) = false := by
  rcases hz with rfl | rfl
  · simp
  · simp; omega
theorem run_storeCells_fz (g o : Nat) (t : TypeId) (fz : Nat × Nat) : ∀ (vs : List Value) (i : Nat) (cur : Array Value) (w : World), w.heap[g]? = some (.cells cur t fz) → FzOk fz cur.size → o + i + vs.length ≤ cur.size → (∀ v ∈ vs, v.oneCell' = true) →
    (storeCells ⟨g, o, none⟩ vs i).run P w = .ok () (w.setRow g (cur.toList.take (o + i) ++ vs ++ cur.toList.drop (o + i + vs.length)).toArray)
  | [], i, cur, w, hg, _, _, _ => by
    simp only [storeCells, List.append_nil, List.length_nil, Nat.add_zero, List.take_append_drop, Array.toArray_toList]
    rw [setRow_self w g cur t fz hg]
    rfl
  | v :: rest, i, cur, w, hg, hz, hl, h1 => by
    have hi : o + i < cur.size := by simp at hl; omega
    have hadd : (⟨g, o, none⟩ : Addr).add i = ⟨g, o + i, none⟩ := by unfold Addr.add; split <;> simp_all
    have hcell : w.cell? ⟨g, o + i, none⟩ = some cur[o + i] := by simp [World.cell?, hg, hi]
    have hfro : w.frozen? ⟨g, o + i, none⟩ = false := by
      obtain ⟨lo, hh⟩ := fz
      have := hz.off hi
      simpa [World.frozen?, hg] using this
    have hst : (store ((⟨g, o, none⟩ : Addr).add i) v).run P w = .ok () (w.setRow g (cur.setIfInBounds (o + i) v)) := by
      rw [hadd, run_store P w _ v _ (h1 v (by simp)), hcell]
      simp [hfro, setCell_eq_setRow w g (o + i) cur t fz v hg]
    have ih := run_storeCells_fz g o t fz rest (i + 1) (cur.setIfInBounds (o + i) v) (w.setRow g (cur.setIfInBounds (o + i) v)) (setRow_heap w g cur _ t _ hg) (by simpa using hz) (by simp at hl ⊢; omega) (fun x hx => h1 x (by simp [hx]))
    simp only [storeCells, Sem.run_bind, hst, Result.andThen_ok, ih, setRow_setRow]
    congr 3
    have e := list_seg_step cur.toList (o + i) v rest (by simp at hl ⊢; omega)
    simpa [Array.toList_setIfInBounds, Nat.add_assoc] using e

/-- the cells of an abstract block from a place on, in the world -/
theorem Rel.span (r : Rel μ h w) {b : Nat} {c : List Value} {e : TypeId} {g : Option Nat} (hb : h.get b = some (.cells c e g)) {p : Place} (hp : μ b = some p) (o n : Nat) (hn : o + n ≤ c.length) :
    ∃ cs' : List Value, cs'.length = n ∧ VRs μ ((c.drop o).take n) cs' ∧ ∀ (j : Nat) (v : Value), cs'[j]? = some v → w.cell? ((⟨p.blk, o + p.disp, none⟩ : Addr).add j) = some v := by
  obtain ⟨c', fz, h1, hz, h2, h3⟩ := r.cells hb hp
  have hget : ∀ j, j < n → ∃ v', c'[o + j + p.disp]? = some v' ∧ ∃ v, c[o + j]? = some v ∧ VR μ v v' := fun j hj => by
    have hlt : o + j < c.length := by omega
    obtain ⟨v', a, b⟩ := h2 (o + j) _ (List.getElem?_eq_getElem hlt)
    exact ⟨v', a, _, List.getElem?_eq_getElem hlt, b⟩
  refine ⟨(c'.toList.drop (o + p.disp)).take n, ?_, ?_, ?_⟩
  · rw [List.length_take, List.length_drop]
    rcases Nat.eq_zero_or_pos n with hz | hz
    · omega
    · obtain ⟨v', a, _⟩ := hget (n - 1) (by omega)
      have := (Array.getElem?_eq_some_iff.1 a).1
      simp only [Array.length_toList]
      omega
  · apply VRs.mk
    · simp only [List.length_take, List.length_drop, Array.length_toList]
      rcases Nat.eq_zero_or_pos n with hz | hz
      · omega
      · obtain ⟨v', a, _⟩ := hget (n - 1) (by omega)
        have := (Array.getElem?_eq_some_iff.1 a).1
        omega
    · intro i v v' hv hv'
      have hi : i < n := by
        have := (List.getElem?_eq_some_iff.1 hv).1
        simp only [List.length_take] at this
        omega
      obtain ⟨u', a, u, b, hr⟩ := hget i hi
      rw [List.getElem?_take_of_lt hi, List.getElem?_drop] at hv hv'
      rw [b] at hv
      cases hv
      rw [Array.getElem?_toList, show o + p.disp + i = o + i + p.disp by omega, a] at hv'
      cases hv'
      exact hr
  · intro j v hj
    have hi : j < n := by
      have := (List.getElem?_eq_some_iff.1 hj).1
      simp only [List.length_take] at this
      omega
    rw [List.getElem?_take_of_lt hi, List.getElem?_drop, Array.getElem?_toList] at hj
    rw [add_none]
    simp [World.cell?, h1, hj]

theorem VR.cells {v v' : Value} (hv : VR μ v v') : VRs μ v.cells.toList v'.cells.toList := by
  cases hv with
  | agg a => exact a
  | dat hd =>
    cases v <;> first
      | (exact .cons (.dat hd) .nil)
      | (simp [Ge.dat] at hd)
  | opq hp hf =>
    rename_i k p
    have e : p.val.cells = #[p.val] := by
      cases hc : p.val <;> first | rfl | (rw [hc] at hf; cases hf)
    rw [e]
    exact .cons (.opq hp hf) .nil
  | _ => exact .cons (by first | exact .ptr ‹_› | exact .slice ‹_› | exact .sliceG ‹_› | exact .sliceE | exact .map ‹_› | exact .func ‹_› ‹_› ‹_› | exact .yield ‹_› | exact .iface ‹_› | exact .tuple ‹_›) .nil

/-! ### load -/
def isAggB (P : Program) (t : TypeId) : Option Bool :=
  match P.underlying t with
  | some (.struct _) | some (.array _ _) => some true
  | some _ => some false
  | none => none
theorem run_isAggB {t : TypeId} {b : Bool} (hu : isAggB P t = some b) (w : World) : (isAgg t).run P w = .ok b w := by
  unfold isAggB at hu
  cases hq : P.underlying t with
  | none => simp [hq] at hu
  | some d => rw [hq] at hu; cases d <;> simp at hu <;> subst hu <;> simp [isAgg, run_underlying hq]

def aLoad (P : Program) (h : Heap) (t : TypeId) (a : Value) : Option Value :=
  match a with
  | .pointer (some ⟨b, o, none⟩) =>
    match h.get b with
    | some (.cells c _ _) =>
      match isAggB P t with
      | some true =>
        match P.info? t with
        | some i => if o + i.size ≤ c.length then some (.agg ⟨(c.drop o).take i.size⟩) else none
        | none => none
      | some false => c[o]?
      | none => none
    | some (.tab _ c) => if isAggB P t = some false then c[o]? else none
    | _ => none
  | _ => none
theorem aLoad_sound (r : Rel μ h w) {t : TypeId} {a a' v : Value} (ha : VR μ a a') (hl : aLoad P h t a = some v) : Does P (Instr.loadAt t a') id nx μ h w v h := by
  unfold aLoad at hl
  split at hl
  · rename_i b o
    cases ha with
    | dat hd => simp [dat] at hd
    | ptr hp =>
      rename_i p
      split at hl
      · rename_i c e g hb
        split at hl
        · rename_i hu
          split at hl
          · rename_i i hi
            split at hl
            · rename_i hn
              obtain ⟨cs', hcl, hcr, hcc⟩ := r.span hb hp o i.size hn
              cases hl
              refine Does.still r ?_ (v' := .agg ⟨cs'⟩) (.agg hcr)
              have := run_loadCells_list (P := P) w ⟨p.blk, o + p.disp, none⟩ cs' hcc
              rw [hcl] at this
              simp [Instr.loadAt, Instr.sureAddr, loadVar, run_isAggB hu, sizeOf, typeInfo, hi, this]
            · cases hl
          · cases hl
        · rename_i hu
          obtain ⟨c', fz, h1, hz, h2, _⟩ := r.cells hb hp
          obtain ⟨v', h3, h4⟩ := h2 o v hl
          refine Does.still r ?_ h4
          have hc : w.cell? ⟨p.blk, o + p.disp, none⟩ = some v' := by simp [World.cell?, h1, h3]
          simp [Instr.loadAt, Instr.sureAddr, loadVar, run_isAggB hu, hc]
        · cases hl
      · rename_i id' c hb
        split at hl
        · rename_i hu
          obtain ⟨q, hq, rfl, c', e, fz, h1, h2⟩ : ∃ q, μ b = some q ∧ q = ⟨id', 0, 0, .nilFunc⟩ ∧ ∃ (c' : Array Value) (e : TypeId) (fz : Nat × Nat), w.heap[q.blk]? = some (.cells c' e fz) ∧ ∀ (i : Nat) (v : Value), c[i]? = some v → c'[i]? = some v ∧ dat v = true := r.live b _ hb
          rw [hp] at hq
          cases hq
          obtain ⟨h3, h4⟩ := h2 o v hl
          refine Does.still r ?_ (.dat h4)
          have hc : w.cell? ⟨id', o + 0, none⟩ = some v := by simp only [World.cell?, h1]; simpa using h3
          simp [Instr.loadAt, Instr.sureAddr, loadVar, run_isAggB hu]
          simp at hc
          simp [hc]
        · cases hl
      · cases hl
  · cases hl

/-! ### store -/
def splice (c : List Value) (o : Nat) (vs : List Value) : List Value := c.take o ++ vs ++ c.drop (o + vs.length)
theorem splice_get (c : List Value) (o : Nat) (vs : List Value) (hn : o + vs.length ≤ c.length) (i : Nat) :
    (splice c o vs)[i]? = if i < o then c[i]? else if i < o + vs.length then vs[i - o]? else c[i]? := by
  unfold splice
  have hl : (c.take o).length = o := by rw [List.length_take]; omega
  by_cases h1 : i < o
  · rw [if_pos h1, List.append_assoc, List.getElem?_append_left (by omega), List.getElem?_take_of_lt h1]
  · rw [if_neg h1]
    by_cases h2 : i < o + vs.length
    · rw [if_pos h2, List.append_assoc, List.getElem?_append_right (by omega), hl, List.getElem?_append_left (by omega)]
    · rw [if_neg h2, List.getElem?_append_right (by simp [hl]; omega)]
      simp only [List.length_append, hl, List.getElem?_drop]
      congr 1
      omega
theorem splice_length (c : List Value) (o : Nat) (vs : List Value) (hn : o + vs.length ≤ c.length) : (splice c o vs).length = c.length := by
  unfold splice
  simp only [List.length_append, List.length_take, List.length_drop]
  omega

/-- cells are written in a live block -/
theorem storeCells_sound (r : Rel μ h w) {b o : Nat} {c : List Value} {e : TypeId} {g : Option Nat} (hb : h.get b = some (.cells c e g)) {p : Place} (hp : μ b = some p) {vs vs' : List Value} (hv : VRs μ vs vs') (hn : o + vs.length ≤ c.length) (h1 : vs.all one = true) :
    DoesU P (storeCells ⟨p.blk, o + p.disp, none⟩ vs') id nx μ h w (h.set b (some (.cells (splice c o vs) e g))) := by
  obtain ⟨c', fz, hc1, hz, hc2, hc3⟩ := r.cells hb hp
  have hvl := hv.length
  have hfit : o + p.disp + 0 + vs'.length ≤ c'.size := by
    cases g with
    | none => obtain ⟨a, b⟩ : p.disp = 0 ∧ c'.size = c.length := hc3; omega
    | some s => obtain ⟨a, b⟩ : c'.size = p.disp + p.cap * s ∧ c.length ≤ p.cap * s := hc3; omega
  have hone : ∀ v ∈ vs', v.oneCell' = true := by
    intro v hm
    obtain ⟨i, hi, rfl⟩ := List.mem_iff_getElem.1 hm
    obtain ⟨v', a, b⟩ := hv.get i vs[i] (List.getElem?_eq_getElem (by omega))
    rw [List.getElem?_eq_getElem hi] at a
    cases a
    exact b.one (List.all_eq_true.1 h1 _ (List.getElem_mem _))
  have hrun := run_storeCells_fz (P := P) p.blk (o + p.disp) e fz vs' 0 c' w hc1 hz hfit hone
  simp only [Nat.add_zero] at hrun
  obtain ⟨hr, hg⟩ := write r (o' := .cells (splice c o vs) e g) (w' := w.setRow p.blk (c'.toList.take (o + p.disp) ++ vs' ++ c'.toList.drop (o + p.disp + vs'.length)).toArray) id nx hb rfl hp (by simp) (by
    rw [setRow_heap w p.blk c' _ e fz hc1]
    have hsz : ((c'.toList.take (o + p.disp) ++ vs' ++ c'.toList.drop (o + p.disp + vs'.length)).toArray).size = c'.size := by
        have := splice_length c'.toList (o + p.disp) vs' (by simpa using hfit)
        unfold splice at this
        simpa using this
    refine ⟨_, fz, rfl, by rw [hsz]; exact hz, fun i v hi => ?_, ?_⟩
    · have hsp : (c'.toList.take (o + p.disp) ++ vs' ++ c'.toList.drop (o + p.disp + vs'.length)) = splice c'.toList (o + p.disp) vs' := rfl
      rw [hsp, List.getElem?_toArray, splice_get _ _ _ (by simpa using hfit)]
      rw [splice_get _ _ _ hn] at hi
      by_cases a1 : i < o
      · rw [if_pos a1] at hi
        rw [if_pos (by omega)]
        simpa using hc2 i v hi
      · rw [if_neg a1] at hi
        rw [if_neg (by omega)]
        by_cases a2 : i < o + vs.length
        · rw [if_pos a2] at hi
          rw [if_pos (by omega)]
          obtain ⟨v', x, y⟩ := hv.get (i - o) v hi
          exact ⟨v', by rw [show i + p.disp - (o + p.disp) = i - o by omega]; exact x, y⟩
        · rw [if_neg a2] at hi
          rw [if_neg (by omega)]
          simpa using hc2 i v hi
    · rw [hsz, splice_length _ _ _ hn]
      exact hc3) (fun k hk => setRow_other w p.blk k _ hk) rfl rfl rfl
  exact ⟨μ, _, hrun, hr, hg⟩

def aStore (P : Program) (h : Heap) (t : TypeId) (a v : Value) : Option Heap :=
  match a with
  | .pointer (some ⟨b, o, none⟩) =>
    match h.get b with
    | some (.cells c e g) =>
      match P.info? t with
      | some i => if v.cells.toList.length = i.size ∧ o + v.cells.toList.length ≤ c.length ∧ v.cells.toList.all one = true then some (h.set b (some (.cells (splice c o v.cells.toList) e g))) else none
      | none => none
    | _ => none
  | _ => none
theorem aStore_sound (r : Rel μ h w) {t : TypeId} {a a' v v' : Value} {h' : Heap} (ha : VR μ a a') (hv : VR μ v v') (hl : aStore P h t a v = some h') : DoesU P (Instr.storeAt t a' v') id nx μ h w h' := by
  unfold aStore at hl
  split at hl
  · rename_i b o
    cases ha with
    | dat hd => simp [dat] at hd
    | ptr hp =>
      rename_i p
      split at hl
      · rename_i c e g hb
        split at hl
        · rename_i i hi
          split at hl
          · rename_i hn
            cases hl
            obtain ⟨μ', w', h1, h2, h3⟩ := storeCells_sound (P := P) (id := id) (nx := nx) r hb hp hv.cells hn.2.1 hn.2.2
            refine ⟨μ', w', ?_, h2, h3⟩
            have hsz : v'.cells.size = i.size := by
              have := hv.cells.length
              simp at this
              rw [← this]
              simpa using hn.1
            simp [Instr.storeAt, Instr.sureAddr, storeVar, sizeOf, typeInfo, hi, hsz, h1]
          · cases hl
        · cases hl
      · cases hl
  · cases hl

/-! ### new blocks -/
/-- a row of cells is made -/
theorem newRow_sound (r : Rel μ h w) {e : TypeId} {c c' : List Value} (hlt : id < 65536) (hb : μ id = none) (hh : h.get id = none) (hc : VRs μ c c') :
    ∃ μ', μ' id = some ⟨w.heap.size, 0, 0, .nilFunc⟩ ∧ Rel μ' (h.set id (some (.cells c e none))) (w.alloc (.cells c'.toArray e)) ∧ Goes id nx μ h w μ' (h.set id (some (.cells c e none))) (w.alloc (.cells c'.toArray e)) := by
  have hle := Mu.le_put (p := ⟨w.heap.size, 0, 0, .nilFunc⟩) hb
  obtain ⟨h1, h2⟩ := make r (o := .cells c e none) (ob := .cells c'.toArray e) nx 0 hlt hb hh ⟨c'.toArray, (0, 0), rfl, .zero _, fun i v hi => by
    obtain ⟨v', a, b⟩ := hc.get i v hi
    exact ⟨v', by simpa using a, b.mono hle⟩, rfl, by simpa using hc.length.symm⟩
  exact ⟨_, Mu.put_self _ _ _, h1, h2⟩

def aBox (id : Nat) (h : Heap) (e : TypeId) (v : Value) : Value × Heap := (.pointer (some ⟨id, 0, none⟩), h.set id (some (.cells v.cells.toList e none)))
theorem aBox_sound (r : Rel μ h w) {e : TypeId} {v v' : Value} (hlt : id < 65536) (hb : μ id = none) (hh : h.get id = none) (hv : VR μ v v') :
    Does P (Instr.box e v') id nx μ h w (aBox id h e v).1 (aBox id h e v).2 := by
  obtain ⟨μ', h1, h2, h3⟩ := newRow_sound (e := e) (nx := nx) r hlt hb hh hv.cells
  refine ⟨μ', .pointer (some ⟨w.heap.size, 0, none⟩), w.alloc (.cells v'.cells e), ?_, ?_, ?_, ?_⟩
  · simp [Instr.box, newVar, newRow]
  · have := VR.ptr (o := 0) h1
    simpa [aBox] using this
  · simpa [aBox] using h2
  · simpa [aBox] using h3

def aZero (P : Program) (t : TypeId) : Option Value :=
  match P.info? t with
  | some i => match i.zero with
    | some z => if z.cells.toList.all dat = true then some z else none
    | none => none
  | none => none
theorem aZero_run {t : TypeId} {z : Value} (hz : aZero P t = some z) (w : World) : (zeroValue t).run P w = .ok z w := by
  unfold aZero at hz
  split at hz
  · rename_i i hi
    split at hz
    · rename_i z' hz'
      split at hz
      · cases hz; simp [zeroValue, typeInfo, hi, hz']
      · cases hz
    · cases hz
  · cases hz
theorem aZero_dat {t : TypeId} {z : Value} (hz : aZero P t = some z) : z.cells.toList.all dat = true := by
  unfold aZero at hz
  split at hz
  · split at hz
    · split at hz
      · cases hz; assumption
      · cases hz
    · cases hz
  · cases hz
theorem VR.of_cells {z : Value} (hz : z.cells.toList.all Ge.dat = true) : VR μ z z := by
  cases z with
  | agg cs =>
    obtain ⟨cs⟩ := cs
    exact .agg (VRs.dats hz)
  | _ => exact .dat (by simpa [Value.cells] using hz)

def aAlloc (P : Program) (id : Nat) (h : Heap) (e : TypeId) : Option (Value × Heap) :=
  match aZero P e with
  | some z => some (aBox id h e z)
  | none => none
theorem aAlloc_sound (r : Rel μ h w) {e : TypeId} {v : Value} {h' : Heap} (hlt : id < 65536) (hb : μ id = none) (hh : h.get id = none) (hl : aAlloc P id h e = some (v, h')) :
    Does P (Instr.alloc e true (.tuple #[])) id nx μ h w v h' := by
  unfold aAlloc at hl
  split at hl
  · rename_i z hz
    cases hl
    obtain ⟨μ', v', w', h1, h2⟩ := aBox_sound (P := P) (e := e) (nx := nx) r hlt hb hh (VR.of_cells (μ := μ) (aZero_dat hz))
    refine ⟨μ', v', w', ?_, h2⟩
    simp [Instr.box] at h1
    simp [Instr.alloc, aZero_run hz, h1]
  · cases hl
end
end Go.Ge
