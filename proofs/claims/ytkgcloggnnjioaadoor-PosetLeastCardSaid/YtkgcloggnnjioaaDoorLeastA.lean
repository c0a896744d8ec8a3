/-
  What the law on the least order keeps: its own box, what was seen; the copy of the pairs at a step of a region that draws its order.
-/
import Derived.Test.YtkgcloggnnjioaaDoorFixed
import Derived.Test.YtkgcloggnnjioaaDoorCopy
import Derived.Test.YtkgcloggnnjioaaDoorBAns
import Derived.Deep.OwnRows
namespace Go.Proofs.YtkgcloggnnjioaaDoor
open Go.RowKit

theorem wp_copyP {o : Oper} {a : Act} {w : World} {K : Act → World → Prop} {Q : Exit → Act → World → Prop} (s x : Operand)
    (ho : o.op = Op.call { callee := Callee.builtin Builtin.append, args := #[s, x], argTypes := #[22, 22] }) (k : Nat) (hs : a.eval s = .slice (some ⟨k, 0, none⟩) 0 0) (hk : w.heap[k]? = some (.cells #[] 44 (0, 0)))
    (p : Option Addr) (ps : List (Int × Int)) (c : Nat) (hx : a.eval x = .slice p ps.length c) {B : Nat} (hp : Ps w B p ps) (hm : ps.length * 16 ≤ 140737488355328)
    (h : ∀ g cap w', k ≤ g → Ps w' w'.heap.size (some ⟨g, 0, none⟩) ps → Below k w w' → w'.ownsRow k 44 2 (.slice (some ⟨g, 0, none⟩) ps.length cap) ps.length (cellsI ps) → K (a.put o.dst (.slice (some ⟨g, 0, none⟩) ps.length cap)) w') : o.wp Tryd.prog a w K Q := by
  have hks : k < w.heap.size := (Array.getElem?_eq_some_iff.1 hk).1
  have hown : w.ownsRow k 44 2 (.slice (some ⟨k, 0, none⟩) 0 0) 0 [] := ⟨rfl, .inr ⟨k, 0, #[], rfl, Nat.le_refl _, hk, Nat.le_refl _, by unfold maxLen; omega, rfl, rfl⟩⟩
  rcases Nat.eq_zero_or_pos ps.length with h0 | h0
  · have he : ps = [] := List.length_eq_zero_iff.1 h0
    subst he
    have hrun := run_append_zeroP w o.type k p c
    have hK2 := h k 0 w (Nat.le_refl _) (.inl rfl) (Below.refl _ _) hown
    unfold Oper.wp execOp
    simp only [List.length_nil] at hx hK2
    simp only [ho, resolve, invoke, builtin, Sem.run_bind, Sem.run_pure, Result.andThen_ok, List.map_toArray, List.map_cons, List.map_nil, hs, hx, hrun]
    exact hK2
  · obtain ⟨i0, hi, hz0, hz1, hz2⟩ := info_parts Tryd.info44p
    obtain ⟨b, off, rfl, hb, hc⟩ : ∃ b off, p = some ⟨b, off, none⟩ ∧ b < B ∧ ∀ i (h : i < ps.length), w.cell? ⟨b, off + i * 2, none⟩ = some (.int .i64 ps[i].1) ∧ w.cell? ⟨b, off + i * 2 + 1, none⟩ = some (.int .i64 ps[i].2) := by
      rcases hp with h | h
      · subst h; simp at h0
      · exact h
    refine wp_append_own w s x 22 ho k 44 i0 _ 2 16 und22r hi hz0 hz1 hz2 rfl (by omega) _ 0 [] hs hown ⟨b, off, none⟩ ps.length c (cellsI ps) hx (cellsI_len ps) (cellsI_at hc) (fun u hu => ?_) (by unfold maxLen; omega) (by omega) (by omega) ?_
    · unfold cellsI at hu
      obtain ⟨m, _, hu⟩ := List.mem_flatMap.1 hu
      simp at hu; rcases hu with rfl | rfl <;> rfl
    · intro v' w' hown' hgrow _
      rw [Nat.zero_add, List.nil_append] at hown'
      obtain ⟨g, cap, rfl⟩ := ownsRow_some hown' h0
      have hlt := hown'.lt g rfl
      exact h g cap w' hlt.1 (own_ps hown' hlt.2) ((Below.refl _ w).grown hgrow (by omega) (fun j e => by simp [Value.ownBlock] at e; omega)) hown'
/-- the law's own box lies as it was laid -/
structure LI (w : World) (n : Int) (p : Option Addr) (ps : List (Int × Int)) (c : Nat) (a b : Int) (W : World) : Prop where
  box : W.heap[w.heap.size]? = some (.cells #[.int .i64 n, .slice p ps.length c, .int .i64 a, .int .i64 b] 49 (0, 0))
  below : Below w.heap.size w W
theorem LI.lt {w W : World} {n : Int} {p : Option Addr} {ps : List (Int × Int)} {c : Nat} {a b : Int} (h : LI w n p ps c a b W) : w.heap.size < W.heap.size := (Array.getElem?_eq_some_iff.1 h.box).1
theorem LI.step {w W W' : World} {n : Int} {p : Option Addr} {ps : List (Int × Int)} {c : Nat} {a b : Int} (h : LI w n p ps c a b W) {k : Nat} (hk : w.heap.size < k) (hb : Below k W W') : LI w n p ps c a b W' :=
  ⟨(hb.block _ hk).trans h.box, h.below.trans (hb.mono (by omega))⟩
theorem LI.drewN {w W : World} {n : Int} {p : Option Addr} {ps : List (Int × Int)} {c : Nat} {a b : Int} (h : LI w n p ps c a b W) (m : Nat) : LI w n p ps c a b (W.drewN m) := ⟨h.box, belowN h.below m⟩
theorem LI.drew {w W : World} {n : Int} {p : Option Addr} {ps : List (Int × Int)} {c : Nat} {a b : Int} (h : LI w n p ps c a b W) : LI w n p ps c a b W.drew := ⟨h.box, h.below.drew⟩
theorem LI.cells {w W : World} {n : Int} {p : Option Addr} {ps : List (Int × Int)} {c : Nat} {a b : Int} (h : LI w n p ps c a b W) :
    W.cell? ⟨w.heap.size, 0, none⟩ = some (.int .i64 n) ∧ W.cell? ⟨w.heap.size, 1, none⟩ = some (.slice p ps.length c) ∧ W.cell? ⟨w.heap.size, 2, none⟩ = some (.int .i64 a) ∧ W.cell? ⟨w.heap.size, 3, none⟩ = some (.int .i64 b) := by
  refine ⟨?_, ?_, ?_, ?_⟩ <;> simp [World.cell?, h.box]
theorem LI.alloc {w W : World} {n : Int} {p : Option Addr} {ps : List (Int × Int)} {c : Nat} {a b : Int} (h : LI w n p ps c a b W) (o : Obj) : LI w n p ps c a b (W.alloc o) := h.step h.lt ((Below.refl _ W).alloc (Nat.le_refl _) o)

/-- the copy, at a step of a region that draws its order -/
theorem step_copyL {ops : Array Oper} {o : Oper} {act : Act} {w X : World} {K : Act → World → Prop} {Q : Exit → Act → World → Prop} {E : Prop} (hgd : o.guard = none) (s x : Operand)
    (ho : o.op = Op.call { callee := Callee.builtin Builtin.append, args := #[s, x], argTypes := #[22, 22] }) (k : Nat) (hs : act.eval s = .slice (some ⟨k, 0, none⟩) 0 0) (hk : X.heap[k]? = some (.cells #[] 44 (0, 0)))
    (n : Int) (p : Option Addr) (ps : List (Int × Int)) (c : Nat) (a b : Int) (hx : act.eval x = .slice p ps.length c) (hp : Ps w w.heap.size p ps) (hI : LI w n p ps c a b X) (hkl : w.heap.size < k) (hm : ps.length * 16 ≤ 140737488355328)
    (h : ∀ g cap w', LI w n p ps c a b w' → Ps w' w'.heap.size (some ⟨g, 0, none⟩) ps → K (act.put o.dst (.slice (some ⟨g, 0, none⟩) ps.length cap)) w') :
    if Region.wanted o (yielded ops act.tmps) = true then Oper.wp Tryd.prog o act X K Q else E := by
  have hw : Region.wanted o (yielded ops act.tmps) = true := by simp [Region.wanted, hgd]
  rw [if_pos hw]
  exact wp_copyP s x ho k hs hk p ps c hx (hp.below hI.below (Nat.le_refl _)) hm fun g cap w' _ h2 h3 _ => h g cap w' (hI.step hkl h3) h2

/-- how many are seen -/
def cntB : List Bool → Nat
  | [] => 0
  | b :: l => (if b = true then 1 else 0) + cntB l
theorem cntB_le : ∀ l : List Bool, cntB l ≤ l.length
  | [] => Nat.le_refl _
  | b :: l => by rw [cntB, List.length_cons]; have := cntB_le l; split <;> omega
theorem cntB_set : ∀ (l : List Bool) (i : Nat), i < l.length → l.getD i false = false → cntB l < cntB (l.set i true)
  | [], _, h, _ => by simp at h
  | b :: l, 0, _, h => by
    simp at h; subst h
    rw [List.set_cons_zero, cntB, cntB]; simp
  | b :: l, i + 1, h, h2 => by
    rw [List.set_cons_succ, cntB, cntB]
    have := cntB_set l i (by simpa using h) (by simpa using h2)
    omega
theorem getB_set (l : List Bool) (i j : Nat) : (l.set i true).getD j false = if i = j ∧ i < l.length then true else l.getD j false := by
  rw [List.getD_eq_getElem?_getD, List.getD_eq_getElem?_getD, List.getElem?_set]
  by_cases h : i = j
  · subst h
    by_cases h2 : i < l.length
    · simp [h2]
    · simp [h2]
  · simp [h]
/-- what was seen, as a row -/
def SRow (W : World) (gs : Nat) (sb : List Bool) : Prop := W.rowIs gs 4 sb.length (fun i => .bool (sb.getD i false))
theorem SRow.set {W : World} {gs : Nat} {sb : List Bool} (h : SRow W gs sb) (i : Nat) : SRow (W.setCell ⟨gs, i, none⟩ (.bool true)) gs (sb.set i true) := by
  unfold SRow at *
  rw [List.length_set]
  refine (World.rowIs.set h i (.bool true)).congr fun j hj => ?_
  rw [getB_set]
  by_cases e : j = i
  · subst e; simp [hj]
  · have e' : ¬ (i = j ∧ i < sb.length) := fun h => e h.1.symm
    rw [if_neg e, if_neg e']
/-- a round over the pairs: what was seen, and whether something was added -/
structure SQ (m : Nat) (qs : List (Nat × Nat)) (a : Nat) (s0 sb : List Bool) (ag : Bool) (i : Nat) : Prop where
  len : sb.length = m
  start : sb.getD a false = true
  right : ∀ x, sb.getD x false = true → has (closedM m qs) a x
  same : ag = false → sb = s0 ∧ ∀ j (h : j < qs.length), j < i → sb.getD qs[j].1 false = true → sb.getD qs[j].2 false = true
  more : ag = true → cntB s0 < cntB sb
theorem SQ.next {m : Nat} {qs : List (Nat × Nat)} {a : Nat} {s0 sb : List Bool} {ag : Bool} {i : Nat} (h : SQ m qs a s0 sb ag i) (hi : i < qs.length) (ht : sb.getD qs[i].1 false = true → sb.getD qs[i].2 false = true) : SQ m qs a s0 sb ag (i + 1) :=
  ⟨h.len, h.start, h.right, fun e => ⟨(h.same e).1, fun j hj hji => by
    by_cases e2 : j = i
    · subst e2; exact ht
    · exact (h.same e).2 j hj (by omega)⟩, h.more⟩
theorem SQ.add {m : Nat} {qs : List (Nat × Nat)} {a : Nat} {s0 sb : List Bool} {ag : Bool} {i : Nat} (h : SQ m qs a s0 sb ag i) (hq : ∀ q ∈ qs, q.1 < m ∧ q.2 < m) (hi : i < qs.length) (h1 : sb.getD qs[i].1 false = true) (h2 : sb.getD qs[i].2 false = false) : SQ m qs a s0 (sb.set qs[i].2 true) true (i + 1) := by
  have hb := hq qs[i] (List.getElem_mem hi)
  have hc := cntB_set sb qs[i].2 (by rw [h.len]; exact hb.2) h2
  refine ⟨by rw [List.length_set]; exact h.len, ?_, fun x hx => ?_, fun e => (by cases e), fun _ => ?_⟩
  · rw [getB_set]; split; rfl; exact h.start
  · rw [getB_set] at hx
    split at hx
    · rename_i e
      obtain ⟨e, _⟩ := e
      subst e
      exact closedM_trans hq (h.right _ h1) ((has_closedM hq _ _).2 (.edge (.inr (List.getElem_mem hi))))
    · exact h.right x hx
  · cases ag with
    | true => exact Nat.lt_trans (h.more rfl) hc
    | false => rw [← (h.same rfl).1]; exact hc
theorem SQ.fin {m : Nat} {qs : List (Nat × Nat)} {a : Nat} {s0 sb : List Bool} (h : SQ m qs a s0 sb false qs.length) (hq : ∀ q ∈ qs, q.1 < m ∧ q.2 < m) (b : Nat) : sb.getD b false = true ↔ has (closedM m qs) a b :=
  least_seen hq (S := fun x => sb.getD x false) h.start h.right (fun q hqm hs => by
    obtain ⟨j, hj, rfl⟩ := List.getElem_of_mem hqm
    exact (h.same rfl).2 j hj hj hs) b
end Go.Proofs.YtkgcloggnnjioaaDoor
