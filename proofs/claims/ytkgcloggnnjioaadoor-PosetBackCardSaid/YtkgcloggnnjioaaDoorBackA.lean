/-
  Plain: an order is made again of its pairs, and each pair is needed; appending a row of pairs to one that is owned.
-/
import Derived.Test.YtkgcloggnnjioaaDoorCopy
import Derived.Test.YtkgcloggnnjioaaDoorBAns
import Derived.Test.YtkgcloggnnjioaaDoorPairsW
import Derived.Test.YtkgcloggnnjioaaDoorRefP
namespace Go.Proofs.YtkgcloggnnjioaaDoor
open Go.RowKit

theorem pairsK_nodup {ms : List Nat} (hs : Small ms) (ho : OrdM ms) : ∀ k, k ≤ ms.length → (pairsK ms k).Nodup
  | 0, _ => List.nodup_nil
  | k + 1, hk => by
    rw [← pairsKb_end hs ho (show k < ms.length by omega)]
    unfold pairsKb
    refine List.nodup_append.2 ⟨pairsK_nodup hs ho k (by omega), ?_, ?_⟩
    · refine List.Pairwise.map _ (fun a b (h : a ≠ b) e => h (Prod.mk.inj e).2) ?_
      exact List.Pairwise.filter _ List.nodup_range
    · intro x hx y hy e
      subst e
      obtain ⟨b, _, rfl⟩ := List.mem_map.1 hy
      have := (mem_pairsK hs k (by have := ho.2.1; omega)).1 hx
      omega
/-- the pairs but one -/
def butP (ms : List Nat) (i : Nat) : List (Nat × Nat) := (pairsM ms).take i ++ (pairsM ms).drop (i + 1)
theorem pairs_cov {ms : List Nat} (hs : Small ms) (ho : OrdM ms) {a b : Nat} : (a, b) ∈ pairsM ms ↔ a < ms.length ∧ Cov ms a b := mem_pairsK hs _ ho.2.1
theorem okPs_ups {n : Nat} {ps : List (Nat × Nat)} (h : ∀ q ∈ ps, q.1 < n ∧ q.2 < n) : okPs n (ups ps) = true := by
  unfold okPs
  rw [List.all_eq_true]
  intro q hq
  unfold ups at hq
  obtain ⟨r, hr, rfl⟩ := List.mem_map.1 hq
  rw [okP_iff]
  have := h r hr
  simp; omega
theorem again_ans {ms : List Nat} (hs : Small ms) (ho : OrdM ms) : ansE ms.length (ups (pairsM ms)) = 0 ∧ ansM ms.length (ups (pairsM ms)) = ms := by
  have hb : ∀ q ∈ pairsM ms, q.1 < ms.length ∧ q.2 < ms.length := fun q hq => ord_lt ho ((pairs_cov hs ho (a := q.1) (b := q.2)).1 hq).2.1
  have hc := closed_pairs hs ho
  have := ansE_ord (n := ms.length) (ps := ups (pairsM ms)) ho.1 ho.2.1 (okPs_ups hb) (by rw [natP_ups, hc]; exact ho)
  rwa [natP_ups, hc] at this
theorem but_sub {ms : List Nat} {i : Nat} {q : Nat × Nat} (h : q ∈ butP ms i) : q ∈ pairsM ms := by
  unfold butP at h
  rcases List.mem_append.1 h with h | h
  · exact List.mem_of_mem_take h
  · exact List.mem_of_mem_drop h
theorem but_ans {ms : List Nat} (hs : Small ms) (ho : OrdM ms) {i : Nat} (hi : i < (pairsM ms).length) : ansE ms.length (ups (butP ms i)) = 0 ∧ ansM ms.length (ups (butP ms i)) ≠ ms := by
  have hh : ∀ x y, (x, y) ∈ butP ms i → has ms x y := fun x y h => ((pairs_cov hs ho).1 (but_sub h)).2.1
  have hb : ∀ q ∈ butP ms i, q.1 < ms.length ∧ q.2 < ms.length := fun q hq => ord_lt ho (hh q.1 q.2 hq)
  have hord := less_ord ho hh
  have := ansE_ord (n := ms.length) (ps := ups (butP ms i)) ho.1 ho.2.1 (okPs_ups hb) (by rw [natP_ups]; exact hord)
  rw [natP_ups] at this
  refine ⟨this.1, ?_⟩
  rw [this.2]
  obtain ⟨⟨a, b⟩, hq⟩ : ∃ q, (pairsM ms)[i] = q := ⟨_, rfl⟩
  have hm : (a, b) ∈ pairsM ms := hq ▸ List.getElem_mem hi
  refine less_other ho ((pairs_cov hs ho).1 hm).2 hh fun hin => ?_
  have hnd := pairsK_nodup hs ho ms.length (Nat.le_refl _)
  have he : pairsM ms = (pairsM ms).take i ++ (a, b) :: (pairsM ms).drop (i + 1) := by
    rw [← hq, ← List.drop_eq_getElem_cons hi, List.take_append_drop]
  rw [show pairsK ms ms.length = pairsM ms from rfl, he, List.nodup_append] at hnd
  obtain ⟨_, h2, h3⟩ := hnd
  rcases List.mem_append.1 hin with h | h
  · exact h3 _ h _ (List.mem_cons_self ..) rfl
  · exact (List.nodup_cons.1 h2).1 h
theorem back_at {m : Nat} {ps : List (Int × Int)} (hk : okPs m ps = true) (ho : OrdM (closedM m (natP ps))) {i : Nat} (hi : i < ps.length) : atB (closedM m (natP ps)) ps[i].1 ps[i].2 = true := by
  have hq := (okP_iff _ _).1 (List.all_eq_true.1 hk ps[i] (List.getElem_mem hi))
  have hm : (ps[i].1.toNat, ps[i].2.toNat) ∈ natP ps := List.mem_map.2 ⟨ps[i], List.getElem_mem hi, rfl⟩
  have h := (has_closedM (natP_lt hk) _ _).2 (.edge (.inr hm))
  generalize ps[i] = q at *
  obtain ⟨x, y⟩ := q
  dsimp only at *
  obtain ⟨x, rfl⟩ : ∃ a : Nat, x = a := ⟨x.toNat, by omega⟩
  obtain ⟨y, rfl⟩ : ∃ a : Nat, y = a := ⟨y.toNat, by omega⟩
  rw [atB_nat ho (by rw [closedM_len]; omega) (by rw [closedM_len]; omega)]
  exact h

theorem Ps.take {w : World} {B : Nat} {p : Option Addr} {ps : List (Int × Int)} (h : Ps w B p ps) (i : Nat) : Ps w B p (ps.take i) := by
  rcases h with h | ⟨b, off, rfl, hl, hc⟩
  · exact .inl (by rw [h]; simp)
  · refine .inr ⟨b, off, rfl, hl, fun j hj => ?_⟩
    rw [List.length_take] at hj
    rw [List.getElem_take]
    exact hc j (by omega)
theorem Ps.drop {w : World} {B b off : Nat} {ps : List (Int × Int)} (h : Ps w B (some ⟨b, off, none⟩) ps) (i : Nat) : Ps w B (some ⟨b, off + i * 2, none⟩) (ps.drop i) := by
  rcases h with h | ⟨b', off', e, hl, hc⟩
  · exact .inl (by rw [h]; simp)
  · injection e with e; injection e with e1 e2; subst e1; subst e2
    refine .inr ⟨b, off + i * 2, rfl, hl, fun j hj => ?_⟩
    rw [List.length_drop] at hj
    rw [List.getElem_drop]
    have := hc (i + j) (by omega)
    rw [show off + i * 2 + j * 2 = off + (i + j) * 2 by omega]
    exact this
theorem cellsI_append (l m : List (Int × Int)) : cellsI (l ++ m) = cellsI l ++ cellsI m := by unfold cellsI; rw [List.flatMap_append]
theorem run_append_zeroG (w : World) (ty : TypeId) (q' : Option Addr) (n c' : Nat) (h : n ≤ c') (q : Option Addr) (c : Nat) : (Builtin.append_ #[22, 22] ty #[.slice q' n c', .slice q 0 c]).run Tryd.prog w = .ok (.slice q' n c') w := by
  obtain ⟨i0, hi, hz0, hz1, hz2⟩ := info_parts Tryd.info44p
  cases q <;> cases q' <;> simp [Builtin.append_, run_underlying und22r, sizeOf, typeInfo, hi, Builtin.lenOf, Builtin.firstCells, loadCells, loadCellsFrom, storeCells, Result.andThen, h]
/-- appending a row of pairs to one that is owned -/
theorem wpList_catP {ops : Array Oper} {rest : List Oper} {o : Oper} {a : Act} {w : World} {Q : Exit → Act → World → Prop} (hw : Region.wanted o (yielded ops a.tmps) = true) (s x : Operand)
    (ho : o.op = Op.call { callee := Callee.builtin Builtin.append, args := #[s, x], argTypes := #[22, 22] }) (k : Nat) (v : Value) (L : List (Int × Int)) (hs : a.eval s = v) (hown : w.ownsRow k 44 2 v L.length (cellsI L)) (hkw : k ≤ w.heap.size)
    (p : Option Addr) (ps : List (Int × Int)) (c : Nat) (hx : a.eval x = .slice p ps.length c) {B : Nat} (hp : Ps w B p ps) (hm : (L.length + ps.length) * 16 ≤ 140737488355328)
    (h : ∀ v' w', w'.ownsRow k 44 2 v' (L ++ ps).length (cellsI (L ++ ps)) → Below k w w' → wpList Tryd.prog ops Q rest (a.put o.dst v') w') : wpList Tryd.prog ops Q (o :: rest) a w := by
  refine wpList_wanted hw ?_
  rcases Nat.eq_zero_or_pos ps.length with h0 | h0
  · have he : ps = [] := List.length_eq_zero_iff.1 h0
    subst he
    have hK2 := h v w (by rw [List.append_nil]; exact hown) (Below.refl _ _)
    obtain ⟨q', c', rfl, hle⟩ : ∃ q' c', v = .slice q' L.length c' ∧ L.length ≤ c' := by
      rcases hown.2 with ⟨rfl, e⟩ | ⟨g, cap, cur, rfl, _, _, hle, _⟩
      · exact ⟨none, 0, by rw [e], by omega⟩
      · exact ⟨_, _, rfl, hle⟩
    have hrun := run_append_zeroG w o.type q' L.length c' hle p c
    unfold Oper.wp execOp
    simp only [List.length_nil] at hx
    simp only [ho, resolve, invoke, builtin, Sem.run_bind, Sem.run_pure, Result.andThen_ok, List.map_toArray, List.map_cons, List.map_nil, hs, hx, hrun]
    exact hK2
  · obtain ⟨i0, hi, hz0, hz1, hz2⟩ := info_parts Tryd.info44p
    obtain ⟨b, off, rfl, hb, hc⟩ : ∃ b off, p = some ⟨b, off, none⟩ ∧ b < B ∧ ∀ i (h : i < ps.length), w.cell? ⟨b, off + i * 2, none⟩ = some (.int .i64 ps[i].1) ∧ w.cell? ⟨b, off + i * 2 + 1, none⟩ = some (.int .i64 ps[i].2) := by
      rcases hp with h | h
      · subst h; simp at h0
      · exact h
    refine wp_append_own w s x 22 ho k 44 i0 _ 2 16 und22r hi hz0 hz1 hz2 rfl (by omega) v L.length (cellsI L) hs hown ⟨b, off, none⟩ ps.length c (cellsI ps) hx (cellsI_len ps) (cellsI_at hc) (fun u hu => ?_) (by unfold maxLen; omega) (by omega) hkw ?_
    · unfold cellsI at hu
      obtain ⟨m, _, hu⟩ := List.mem_flatMap.1 hu
      simp at hu; rcases hu with rfl | rfl <;> rfl
    · intro v' w' hown' hgrow _
      refine h v' w' (by rw [List.length_append, cellsI_append]; exact hown') ((Below.refl _ w).grown hgrow hkw fun j e => ?_)
      rcases hown.2 with ⟨rfl, _⟩ | ⟨g, cap, cur, rfl, hbg, _⟩
      · cases e
      · simp [Value.ownBlock] at e; omega
end Go.Proofs.YtkgcloggnnjioaaDoor
