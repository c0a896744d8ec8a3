/-
  Evaluation of closed calls: append, copy, len.
-/
import Derived.Test.YtcganjggdkcfhaaGe5
set_option linter.unusedVariables false
set_option linter.unusedSimpArgs false
namespace Go.Ge

section
variable {P : Program} {μ : Mu} {h : Heap} {w : World} {id nx : Nat}

def aLen : Value → Option Nat
  | .slice _ n _ => some n
  | .string s => some s.size
  | _ => none
theorem aLen_run {x x' : Value} {n : Nat} (hx : VR μ x x') (hl : aLen x = some n) (w : World) : (Builtin.lenOf x').run P w = .ok n w := by
  cases hx with
  | dat hd => cases x <;> simp [aLen, dat] at hl hd <;> subst hl <;> simp [Builtin.lenOf]
  | slice _ => simp [aLen] at hl; subst hl; simp [Builtin.lenOf]
  | sliceG _ => simp [aLen] at hl; subst hl; simp [Builtin.lenOf]
  | sliceE => simp [aLen] at hl; subst hl; simp [Builtin.lenOf]
  | _ => simp [aLen] at hl

def aCells (h : Heap) (size n : Nat) (x : Value) : Option (List Value) :=
  match x with
  | .slice (some ⟨b, o, sp⟩) _ cap => if n * size = 0 then some [] else
    match h.get b with
    | some (.cells c _ _) => if (sp = none ∨ cap = 0) ∧ o + n * size ≤ c.length then some ((c.drop o).take (n * size)) else none
    | _ => none
  | .slice none _ _ => some []
  | .string s => some ((s.extract 0 n).data.map fun b => .int .u8 b.toNat).toList
  | _ => none
theorem dats_bytes (s : ByteArray) : (s.data.map fun b => (.int .u8 b.toNat : Value)).toList.all dat = true := by
  rw [List.all_eq_true]
  intro x hx
  simp only [Array.toList_map, List.mem_map] at hx
  obtain ⟨b, _, rfl⟩ := hx
  rfl
theorem aCells_run (r : Rel μ h w) {size n : Nat} {x x' : Value} {cs : List Value} (hx : VR μ x x') (hl : aCells h size n x = some cs) :
    ∃ cs' : List Value, (Builtin.firstCells size n x').run P w = .ok cs'.toArray w ∧ VRs μ cs cs' := by
  have hsome : ∀ (a : Addr) (len cap : Nat), n * size = 0 → (Builtin.firstCells size n (.slice (some a) len cap)).run P w = .ok (([] : List Value).toArray) w := by
    intro a len cap hz
    simp [Builtin.firstCells, hz, loadCells, loadCellsFrom]
  unfold aCells at hl
  split at hl
  · rename_i b o sp len cap
    split at hl
    · rename_i hz
      cases hl
      cases hx with
      | dat hd => simp [dat] at hd
      | slice hp => exact ⟨[], hsome _ _ _ hz, .nil⟩
      | sliceG hp => exact ⟨[], hsome _ _ _ hz, .nil⟩
      | sliceE => exact ⟨[], hsome _ _ _ hz, .nil⟩
    · rename_i hz
      split at hl
      · rename_i c e g hb
        split at hl
        · rename_i hn
          cases hl
          have main : ∀ (p : Place), μ b = some p → ∃ cs' : List Value, (loadCells ⟨p.blk, o + p.disp, none⟩ (n * size)).run P w = .ok cs'.toArray w ∧ VRs μ ((c.drop o).take (n * size)) cs' := by
            intro p hp
            obtain ⟨cs', hcl, hcr, hcc⟩ := r.span hb hp o (n * size) hn.2
            have := run_loadCells_list (P := P) w ⟨p.blk, o + p.disp, none⟩ cs' hcc
            rw [hcl] at this
            exact ⟨cs', this, hcr⟩
          cases hx with
          | dat hd => simp [dat] at hd
          | slice hp => exact main _ hp
          | sliceG hp => exact main _ hp
          | sliceE => simp at hn
        · cases hl
      · cases hl
  · cases hl
    cases hx.eq_of_dat rfl
    exact ⟨[], rfl, .nil⟩
  · rename_i s
    cases hl
    cases hx.eq_of_dat rfl
    exact ⟨((s.extract 0 n).data.map fun b => (.int .u8 b.toNat : Value)).toList, by show Result.ok _ _ = _; rw [Array.toArray_toList], VRs.dats (dats_bytes _)⟩
  · cases hl

/-! ### append -/
theorem growBy_le (m : Nat) : ∀ (r c : Nat), Builtin.growBy m r c ≤ max c (m + (m + 768) / 4)
  | 0, c => by simp only [Builtin.growBy]; omega
  | r + 1, c => by
    simp only [Builtin.growBy]
    split
    · omega
    · have := growBy_le m r (c + (c + 768) / 4)
      omega
theorem nextcap_le {need cap : Nat} (hn : cap < need) : Builtin.nextslicecap need cap ≤ 2 * need + 768 := by
  unfold Builtin.nextslicecap
  split
  · omega
  · split
    · omega
    · have := growBy_le need 4 cap
      omega
theorem zeroCells_size (z : Array Value) (n : Nat) : (Builtin.zeroCells z n).size = n * z.size := by simp [Builtin.zeroCells]

def isInt : TypeDesc → Bool | .slice _ | .string => false | _ => true
theorem imax : IntKind.i64.max = 9223372036854775807 := by decide
set_option maxHeartbeats 4000000 in
/-- append makes a new row -/
theorem append_grow (r : Rel μ h w) {st xt e : TypeId} {xd : TypeDesc} {ie : TypeInfo} {z s s' x x' : Value} {base : Option Addr} {len cap n : Nat} {old new : List Value} {ty : TypeId}
    (hs' : s' = .slice base len cap) (hst : P.underlying st = some (.slice e)) (hxt : P.underlying xt = some xd) (hxd : isInt xd = false) (hie : P.info? e = some ie) (hz : aZero P e = some z) (hzs : z.cells.size = ie.size)
    (hx : VR μ x x') (hn : aLen x = some n) (hcap : cap < len + n) (hsm : len + n ≤ 65536) (hby : ie.bytes ≤ 65536)
    (hos : VR μ s s') (ho : aCells h ie.size len s = some old) (hol : old.length = len * ie.size) (hw : aCells h ie.size n x = some new) (hnl : new.length = n * ie.size) :
    ∃ (newCap : Nat) (c' : List Value), len + n ≤ newCap ∧ c'.length = newCap * ie.size ∧ VRs μ (old ++ new) (c'.take ((len + n) * ie.size)) ∧
      (Builtin.append_ #[st, xt] ty #[s', x']).run P w = .ok (.slice (some ⟨w.heap.size, 0, none⟩) (len + n) newCap) (w.drew.alloc (.cells c'.toArray e)) := by
  subst hs'
  have r' : Rel μ h w.drew := r.drew _
  obtain ⟨old', ho1, ho2⟩ := aCells_run (P := P) r' hos ho
  obtain ⟨new', hw1, hw2⟩ := aCells_run (P := P) r' hx hw
  have t := w.tape w.drawn (.appendCap (len + n) cap e)
  let newCap := (Question.appendCap (len + n) cap e).cut (w.tape w.drawn (.appendCap (len + n) cap e))
  have hnc : len + n ≤ newCap := by
    show len + n ≤ (len + n) + _ % _
    omega
  have hsz : (len + n) * ie.size = len * ie.size + n * ie.size := Nat.add_mul _ _ _
  have e1 := ho2.length
  have e2 := hw2.length
  refine ⟨newCap, old' ++ new' ++ (Builtin.zeroCells z.cells (newCap - (len + n))).toList, hnc, ?_, ?_, ?_⟩
  · simp only [List.length_append, Array.length_toList, zeroCells_size, hzs]
    have : newCap * ie.size = (len + n) * ie.size + (newCap - (len + n)) * ie.size := by rw [← Nat.add_mul]; congr 1; omega
    omega
  · rw [List.take_append_of_le_length (by simp; omega), List.take_of_length_le (by simp; omega)]
    exact ho2.append hw2
  · have hlen := aLen_run (P := P) hx hn w
    have c1 : ¬ (len + n ≤ cap) := by omega
    have c2 : ¬ ((9223372036854775807 : Int) < (len : Int) + n ∧ ie.bytes = 0) := by
      rintro ⟨a, _⟩
      omega
    have c3 : ¬ (Builtin.nextslicecap (len + n) cap * ie.bytes > 2 ^ 48) := by
      have h1 := nextcap_le hcap
      have : Builtin.nextslicecap (len + n) cap * ie.bytes ≤ (2 * (len + n) + 768) * 65536 := Nat.mul_le_mul h1 hby
      omega
    have hq : (Question.appendCap (len + n) cap e).forced = false := rfl
    cases xd with
    | slice e' => simp [Builtin.append_, run_underlying hst, run_underlying hxt, sizeOf, typeInfo, hie, hlen, c1, c2, c3, hq, ho1, hw1, aZero_run hz, newRow, newCap, imax]; congr 2; exact Array.ext' (by simp)
    | string => simp [Builtin.append_, run_underlying hst, run_underlying hxt, sizeOf, typeInfo, hie, hlen, c1, c2, c3, hq, ho1, hw1, aZero_run hz, newRow, newCap, imax]; congr 2; exact Array.ext' (by simp)
    | _ => simp [isInt] at hxd

set_option maxHeartbeats 4000000 in
/-- append fits in the row -/
theorem append_fits {st xt e : TypeId} {xd : TypeDesc} {ie : TypeInfo} {x' : Value} {a : Addr} {len cap n : Nat} {new' : List Value} {w' : World} {ty : TypeId}
    (hst : P.underlying st = some (.slice e)) (hxt : P.underlying xt = some xd) (hxd : isInt xd = false) (hie : P.info? e = some ie)
    (hn : (Builtin.lenOf x').run P w = .ok n w) (hcap : len + n ≤ cap) (hw : (Builtin.firstCells ie.size n x').run P w = .ok new'.toArray w) (hs : (storeCells (a.add (len * ie.size)) new').run P w = .ok () w') :
    (Builtin.append_ #[st, xt] ty #[.slice (some a) len cap, x']).run P w = .ok (.slice (some a) (len + n) cap) w' := by
  cases xd with
  | slice e' => simp [Builtin.append_, run_underlying hst, run_underlying hxt, sizeOf, typeInfo, hie, hn, hcap, hw, hs]
  | string => simp [Builtin.append_, run_underlying hst, run_underlying hxt, sizeOf, typeInfo, hie, hn, hcap, hw, hs]
  | _ => simp [isInt] at hxd
set_option maxHeartbeats 4000000 in
theorem append_none {st xt e : TypeId} {xd : TypeDesc} {ie : TypeInfo} {x' : Value} {new' : List Value} {ty : TypeId}
    (hst : P.underlying st = some (.slice e)) (hxt : P.underlying xt = some xd) (hxd : isInt xd = false) (hie : P.info? e = some ie)
    (hn : (Builtin.lenOf x').run P w = .ok 0 w) (hw : (Builtin.firstCells ie.size 0 x').run P w = .ok new'.toArray w) :
    (Builtin.append_ #[st, xt] ty #[.slice none 0 0, x']).run P w = .ok (.slice none 0 0) w := by
  cases xd with
  | slice e' => simp [Builtin.append_, run_underlying hst, run_underlying hxt, sizeOf, typeInfo, hie, hn, hw]
  | string => simp [Builtin.append_, run_underlying hst, run_underlying hxt, sizeOf, typeInfo, hie, hn, hw]
  | _ => simp [isInt] at hxd

/-- a row that grew lies alone -/
theorem made_row {w₁ : World} (r : Rel μ h w₁) (e : TypeId) {c c' : List Value} {s m : Nat} (hlt : id < 65536) (hb : μ id = none) (hh : h.get id = none) (hl : c'.length = m * s) (hc : c.length ≤ m * s) (hv : VRs μ c (c'.take c.length)) (fz : Nat × Nat := (0, 0)) (hz : FzOk fz c'.length := by exact .zero _) :
    ∃ μ', μ' id = some ⟨w₁.heap.size, 0, m, .nilFunc⟩ ∧ Rel μ' (h.set id (some (.cells c e (some s)))) (w₁.alloc (.cells c'.toArray e fz)) ∧ Goes id nx μ h w₁ μ' (h.set id (some (.cells c e (some s)))) (w₁.alloc (.cells c'.toArray e fz)) := by
  have hle := Mu.le_put (p := ⟨w₁.heap.size, 0, m, .nilFunc⟩) hb
  obtain ⟨h1, h2⟩ := make r (o := .cells c e (some s)) (ob := .cells c'.toArray e fz) nx m hlt hb hh ⟨c'.toArray, fz, rfl, by simpa using hz, fun i v hi => by
    obtain ⟨v', a, b⟩ := hv.get i v hi
    refine ⟨v', ?_, b.mono hle⟩
    have hi' := (List.getElem?_eq_some_iff.1 hi).1
    rw [List.getElem?_take_of_lt hi'] at a
    simpa using a, by simpa using hl, hc⟩
  exact ⟨_, Mu.put_self _ _ _, h1, h2⟩

/-- a block is forgotten -/
theorem Rel.forget (r : Rel μ h w) (b : Nat) (hlt : b < 65536) : Rel μ (h.set b none) w := by
  have f : ∀ i o, (h.set b none).get i = some o → h.get i = some o := fun i o hi => by
    rw [Heap.get_set _ _ _ _ hlt] at hi
    split at hi
    · cases hi
    · exact hi
  exact ⟨fun i o hi => r.live i o (f i o hi), fun i j o o' p q hi hj => r.inj i j o o' p q (f i o hi) (f j o' hj)⟩
theorem Goes.forget (r : Rel μ h w) (b : Nat) (hlt : b < 65536) (hnt : ∀ o, h.get b = some o → o.isTab = false) : Goes id nx μ h w μ (h.set b none) w := by
  have f : ∀ i, h.get i = none → (h.set b none).get i = none := fun i hi => by
    rw [Heap.get_set _ _ _ _ hlt]
    split
    · rfl
    · exact hi
  refine ⟨Mu.le_refl _, fun _ _ e => .inl e, fun i _ _ => ⟨rfl, f i⟩, fun j _ _ => f j, fun j o hj ht => ?_, fun _ _ _ => rfl, Nat.le_refl _, rfl, rfl, rfl⟩
  rw [Heap.get_set _ _ _ _ hlt]
  split
  · rename_i e; subst e; rw [hnt o hj] at ht; cases ht
  · exact hj
theorem Heap.get_lt {b : Nat} {o : AObj} (hb : h.get b = some o) : b < 65536 := by
  unfold Heap.get at hb
  split at hb
  · assumption
  · cases hb

/-- a row goes on in place under a new name -/
theorem grown_row (r : Rel μ h w) {b : Nat} {c : List Value} {e : TypeId} {s k : Nat} {p : Place} (hb : h.get b = some (.cells c e (some s))) (hp : μ b = some p) (hlt : id < 65536) (hid : μ id = none) (hh : h.get id = none)
    {new new' : List Value} (hn : VRs μ new new') (hko : k * s ≤ c.length) (hfit : c.length + new.length ≤ p.cap * s) (hone : new.all one = true) :
    ∃ μ' w', μ' id = some ⟨p.blk, p.disp + k * s, p.cap - k, .nilFunc⟩ ∧ (storeCells ⟨p.blk, c.length + p.disp, none⟩ new').run P w = .ok () w' ∧
      Rel μ' ((h.set b none).set id (some (.cells (c.drop (k * s) ++ new) e (some s)))) w' ∧ Goes id nx μ h w μ' ((h.set b none).set id (some (.cells (c.drop (k * s) ++ new) e (some s)))) w' := by
  obtain ⟨c', fz, hc1, hz, hc2, hg1, hg2⟩ : ∃ (c' : Array Value) (fz : Nat × Nat), w.heap[p.blk]? = some (.cells c' e fz) ∧ FzOk fz c'.size ∧ (∀ (i : Nat) (v : Value), c[i]? = some v → ∃ v', c'[i + p.disp]? = some v' ∧ VR μ v v') ∧ c'.size = p.disp + p.cap * s ∧ c.length ≤ p.cap * s := r.cells hb hp
  have hblt := Heap.get_lt hb
  have hbid : b ≠ id := by rintro rfl; rw [hb] at hh; cases hh
  have hnl := hn.length
  have hfit' : c.length + p.disp + 0 + new'.length ≤ c'.size := by omega
  have hone' : ∀ v ∈ new', v.oneCell' = true := by
    intro v hm
    obtain ⟨i, hi, rfl⟩ := List.mem_iff_getElem.1 hm
    obtain ⟨v', a, q⟩ := hn.get i new[i] (List.getElem?_eq_getElem (by omega))
    rw [List.getElem?_eq_getElem hi] at a
    cases a
    exact q.one (List.all_eq_true.1 hone _ (List.getElem_mem _))
  have hrun := run_storeCells_fz (P := P) p.blk (c.length + p.disp) e fz new' 0 c' w hc1 hz hfit' hone'
  simp only [Nat.add_zero] at hrun
  have hle := Mu.le_put (p := ⟨p.blk, p.disp + k * s, p.cap - k, .nilFunc⟩) hid
  have hkc : k * s + (p.cap - k) * s = p.cap * s ∨ s = 0 := by
    rcases Nat.eq_zero_or_pos s with hs | hs
    · exact .inr hs
    · have : k ≤ p.cap := Nat.le_of_mul_le_mul_right (by omega : k * s ≤ p.cap * s) hs
      refine .inl ?_
      rw [← Nat.add_mul]
      congr 1
      omega
  have hsp : splice c'.toList (c.length + p.disp) new' = c'.toList.take (c.length + p.disp) ++ new' ++ c'.toList.drop (c.length + p.disp + new'.length) := rfl
  have hother : ∀ q, q ≠ p.blk → (w.setRow p.blk (splice c'.toList (c.length + p.disp) new').toArray).heap[q]? = w.heap[q]? := fun q hq => setRow_other w p.blk q _ hq
  have hget : ∀ i, ((h.set b none).set id (some (.cells (c.drop (k * s) ++ new) e (some s)))).get i = if i = id then some (.cells (c.drop (k * s) ++ new) e (some s)) else if i = b then none else h.get i := fun i => by
    rw [Heap.get_set _ _ _ _ hlt, Heap.get_set _ _ _ _ hblt]
  refine ⟨μ.put id ⟨p.blk, p.disp + k * s, p.cap - k, .nilFunc⟩, w.setRow p.blk (splice c'.toList (c.length + p.disp) new').toArray, Mu.put_self _ _ _, hrun, ⟨fun i o hi => ?_, fun i j o₁ o₂ q₁ q₂ hi hj hq₁ hq₂ e' => ?_⟩, hle, fun i q hq => ?_, fun i _ hne => ⟨by simp [Mu.put, hne], fun h0 => ?_⟩, fun j q hq h0 => ?_, fun j q hj ht => ?_, fun q hq1 hf => hother q fun e' => hf b _ p hb rfl hp e'.symm, by simp, rfl, rfl, rfl⟩
  · rw [hget] at hi
    split at hi
    · rename_i e'; subst e'; cases hi
      refine ⟨_, Mu.put_self _ _ _, (splice c'.toList (c.length + p.disp) new').toArray, fz, setRow_heap w p.blk c' _ e fz hc1, by
          have := splice_length c'.toList (c.length + p.disp) new' (by simpa using hfit')
          simpa [this] using hz, fun i v hi => ?_, ?_, ?_⟩
      · rw [List.getElem?_toArray, splice_get _ _ _ (by simpa using hfit')]
        by_cases a1 : i < c.length - k * s
        · rw [List.getElem?_append_left (by simpa using a1), List.getElem?_drop] at hi
          obtain ⟨v', x, y⟩ := hc2 _ v hi
          refine ⟨v', ?_, y.mono hle⟩
          rw [if_pos (by dsimp only; omega)]
          simpa [show i + (p.disp + k * s) = k * s + i + p.disp by omega] using x
        · rw [List.getElem?_append_right (by simpa using Nat.le_of_not_lt a1), List.length_drop] at hi
          obtain ⟨v', x, y⟩ := hn.get _ v hi
          have := (List.getElem?_eq_some_iff.1 hi).1
          refine ⟨v', ?_, y.mono hle⟩
          rw [if_neg (by dsimp only; omega), if_pos (by dsimp only; omega)]
          rw [← x]
          congr 1
          dsimp only
          omega
      · have := splice_length c'.toList (c.length + p.disp) new' (by simpa using hfit')
        simp only [List.size_toArray, this, Array.length_toList]
        rcases hkc with hkc | hkc
        · omega
        · subst hkc; simp at *; omega
      · simp only [List.length_append, List.length_drop]
        rcases hkc with hkc | hkc
        · omega
        · subst hkc; simp at *; omega
    · rename_i e'
      split at hi
      · cases hi
      · rename_i e2
        obtain ⟨q, hq, hr⟩ := r.live i o hi
        refine ⟨q, hle _ _ hq, ?_⟩
        rw [hother q.blk fun e3 => e2 (r.inj i b o _ q p hi hb hq hp e3)]
        exact hr.mono hle
  · rw [hget] at hi hj
    unfold Mu.put at hq₁ hq₂
    split at hi <;> split at hj
    · omega
    · rename_i e1 e2
      rw [if_pos e1] at hq₁; rw [if_neg e2] at hq₂
      cases hq₁
      split at hj
      · cases hj
      · rename_i e3
        exact absurd (r.inj j b _ _ q₂ p hj hb hq₂ hp e'.symm) e3
    · rename_i e1 e2
      rw [if_neg e1] at hq₁; rw [if_pos e2] at hq₂
      cases hq₂
      split at hi
      · cases hi
      · rename_i e3
        exact absurd (r.inj i b _ _ q₁ p hi hb hq₁ hp e') e3
    · rename_i e1 e2
      rw [if_neg e1] at hq₁; rw [if_neg e2] at hq₂
      split at hi
      · cases hi
      · split at hj
        · cases hj
        · exact r.inj i j _ _ q₁ q₂ hi hj hq₁ hq₂ e'
  · unfold Mu.put at hq
    split at hq
    · cases hq; exact .inr (.inr fun hf => hf b _ p hb rfl hp rfl)
    · exact .inl hq
  · rw [hget, if_neg hne]
    split
    · rfl
    · exact h0
  · rw [hget]
    split
    · rename_i e'; subst e'; rw [hid] at hq; cases hq
    · split
      · rfl
      · exact h0
  · rw [hget]
    split
    · rename_i e'; subst e'; rw [hh] at hj; cases hj
    · split
      · rename_i e'; subst e'; rw [hb] at hj; cases hj; cases ht
      · exact hj
end
end Go.Ge
