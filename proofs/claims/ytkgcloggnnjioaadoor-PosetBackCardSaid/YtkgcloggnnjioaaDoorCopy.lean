/-
  append([]T{}, l...): a copy of a list of masks, of pairs, in memory of its own.
-/
import Derived.Test.YtkgcloggnnjioaaDoorClosed
import Derived.Test.YtkgcloggnnjioaaDoorPairs
import Derived.Test.YtkgcloggnnjioaaDoorRefB
namespace Go.Proofs.YtkgcloggnnjioaaDoor
open Go.RowKit

theorem wpList_wanted {P : Program} {ops : Array Oper} {rest : List Oper} {o : Oper} {a : Act} {w : World} {Q : Exit → Act → World → Prop} (hw : Region.wanted o (yielded ops a.tmps) = true)
    (h : o.wp P a w (wpList P ops Q rest) Q) : wpList P ops Q (o :: rest) a w := by
  unfold wpList
  rw [if_pos hw]
  exact .inl h
theorem und24r : Tryd.prog.underlying 24 = some (.slice 36) := Tryd.und24p
theorem und22r : Tryd.prog.underlying 22 = some (.slice 44) := Tryd.und22p
theorem run_append_zeroM (w : World) (ty : TypeId) (k : Nat) (q : Option Addr) (c : Nat) : (Builtin.append_ #[24, 24] ty #[.slice (some ⟨k, 0, none⟩) 0 0, .slice q 0 c]).run Tryd.prog w = .ok (.slice (some ⟨k, 0, none⟩) 0 0) w := by
  obtain ⟨i0, hi, hz0, hz1, hz2⟩ := info_parts Tryd.info36p
  cases q <;> simp [Builtin.append_, run_underlying und24r, sizeOf, typeInfo, hi, Builtin.lenOf, Builtin.firstCells, loadCells, loadCellsFrom, storeCells, Result.andThen]
theorem run_append_zeroP (w : World) (ty : TypeId) (k : Nat) (q : Option Addr) (c : Nat) : (Builtin.append_ #[22, 22] ty #[.slice (some ⟨k, 0, none⟩) 0 0, .slice q 0 c]).run Tryd.prog w = .ok (.slice (some ⟨k, 0, none⟩) 0 0) w := by
  obtain ⟨i0, hi, hz0, hz1, hz2⟩ := info_parts Tryd.info44p
  cases q <;> simp [Builtin.append_, run_underlying und22r, sizeOf, typeInfo, hi, Builtin.lenOf, Builtin.firstCells, loadCells, loadCellsFrom, storeCells, Result.andThen]
theorem ownsRow_some {W : World} {base : Nat} {e : TypeId} {size : Nat} {v : Value} {n : Nat} {xs : List Value} (h : W.ownsRow base e size v n xs) (hn : 0 < n) : ∃ g cap, v = .slice (some ⟨g, 0, none⟩) n cap := by
  obtain ⟨m, rfl⟩ : ∃ m, n = m + 1 := ⟨n - 1, by omega⟩
  exact ownsRow_succ h

theorem wpList_copyM {ops : Array Oper} {rest : List Oper} {o : Oper} {a : Act} {w : World} {Q : Exit → Act → World → Prop} (hw : Region.wanted o (yielded ops a.tmps) = true) (s x : Operand)
    (ho : o.op = Op.call { callee := Callee.builtin Builtin.append, args := #[s, x], argTypes := #[24, 24] }) (k : Nat) (hs : a.eval s = .slice (some ⟨k, 0, none⟩) 0 0) (hk : w.heap[k]? = some (.cells #[] 36 (0, 0)))
    (p : Option Addr) (ms : List Nat) (c : Nat) (hx : a.eval x = .slice p ms.length c) {B : Nat} (hp : Us w B p ms) (hm : ms.length * 8 ≤ 140737488355328)
    (h : ∀ g cap w', k ≤ g → Us w' w'.heap.size (some ⟨g, 0, none⟩) ms → Below k w w' → wpList Tryd.prog ops Q rest (a.put o.dst (.slice (some ⟨g, 0, none⟩) ms.length cap)) w') : wpList Tryd.prog ops Q (o :: rest) a w := by
  have hks : k < w.heap.size := (Array.getElem?_eq_some_iff.1 hk).1
  refine wpList_wanted hw ?_
  rcases Nat.eq_zero_or_pos ms.length with h0 | h0
  · have he : ms = [] := List.length_eq_zero_iff.1 h0
    subst he
    have hrun := run_append_zeroM w o.type k p c
    have hK2 := h k 0 w (Nat.le_refl _) (.inl rfl) (Below.refl _ _)
    unfold Oper.wp execOp
    simp only [List.length_nil] at hx hK2
    simp only [ho, resolve, invoke, builtin, Sem.run_bind, Sem.run_pure, Result.andThen_ok, List.map_toArray, List.map_cons, List.map_nil, hs, hx, hrun]
    exact hK2
  · obtain ⟨i0, hi, hz0, hz1, hz2⟩ := info_parts Tryd.info36p
    obtain ⟨b, off, rfl, hb, hc⟩ := hp.cell h0
    have hown : w.ownsRow k 36 1 (.slice (some ⟨k, 0, none⟩) 0 0) 0 [] := ⟨rfl, .inr ⟨k, 0, #[], rfl, Nat.le_refl _, hk, Nat.le_refl _, by unfold maxLen; omega, rfl, rfl⟩⟩
    refine wp_append_own w s x 24 ho k 36 i0 _ 1 8 und24r hi hz0 hz1 hz2 rfl (by omega) _ 0 [] hs hown ⟨b, off, none⟩ ms.length c (cellsM ms) hx (by unfold cellsM; simp) (fun j u hu => ?_) (fun u hu => ?_) (by unfold maxLen; omega) (by omega) (by omega) ?_
    · unfold cellsM at hu
      rw [List.getElem?_map] at hu
      have hj : j < ms.length := by
        apply Classical.byContradiction; intro hc'
        rw [List.getElem?_eq_none (by omega)] at hu; cases hu
      rw [List.getElem?_eq_getElem hj] at hu
      have e : u = .int .u64 (ms.getD j 0 : Nat) := by rw [getD_at hj]; exact (Option.some.inj hu).symm
      rw [Addr.add_lit, e]
      exact hc j hj
    · unfold cellsM at hu
      obtain ⟨m, _, rfl⟩ := List.mem_map.1 hu
      rfl
    · intro v' w' hown' hgrow _
      rw [Nat.zero_add, List.nil_append] at hown'
      obtain ⟨g, cap, rfl⟩ := ownsRow_some hown' h0
      have hlt := hown'.lt g rfl
      have hom : OwnM w' k g ms.length cap ms := ⟨rfl, hown'⟩
      exact h g cap w' hlt.1 (hom.us hlt.2) ((Below.refl _ w).grown hgrow (by omega) (fun j e => by simp [Value.ownBlock] at e; omega))

/-- pairs of whole numbers as cells -/
def cellsI (ps : List (Int × Int)) : List Value := ps.flatMap fun p => [.int .i64 p.1, .int .i64 p.2]
theorem cellsI_len (ps : List (Int × Int)) : (cellsI ps).length = ps.length * 2 := by
  unfold cellsI
  induction ps with
  | nil => rfl
  | cons p ps ih => rw [List.flatMap_cons, List.length_append, ih]; simp; omega
theorem cellsI_ups (ps : List (Nat × Nat)) : cellsI (ups ps) = cellsP ps := by unfold cellsI ups cellsP; rw [List.flatMap_map]
theorem cellsI_get (ps : List (Int × Int)) : ∀ i (h : i < ps.length), (cellsI ps)[i * 2]? = some (.int .i64 ps[i].1) ∧ (cellsI ps)[i * 2 + 1]? = some (.int .i64 ps[i].2) := by
  induction ps with
  | nil => intro i h; simp at h
  | cons p ps ih =>
    intro i h
    have e : cellsI (p :: ps) = .int .i64 p.1 :: .int .i64 p.2 :: cellsI ps := rfl
    cases i with
    | zero => rw [e]; exact ⟨rfl, rfl⟩
    | succ i =>
      have := ih i (by simpa using h)
      rw [e, show (i + 1) * 2 = i * 2 + 1 + 1 by omega, show i * 2 + 1 + 1 + 1 = (i * 2 + 1) + 1 + 1 by omega, List.getElem?_cons_succ, List.getElem?_cons_succ, List.getElem?_cons_succ, List.getElem?_cons_succ]
      exact this
theorem cellsI_at {w : World} {b off : Nat} {ps : List (Int × Int)} (hc : ∀ i (h : i < ps.length), w.cell? ⟨b, off + i * 2, none⟩ = some (.int .i64 ps[i].1) ∧ w.cell? ⟨b, off + i * 2 + 1, none⟩ = some (.int .i64 ps[i].2)) :
    ∀ j u, (cellsI ps)[j]? = some u → w.cell? ((⟨b, off, none⟩ : Addr).add j) = some u := by
  intro j u hu
  have hj : j < ps.length * 2 := by rw [← cellsI_len]; exact (List.getElem?_eq_some_iff.1 hu).1
  obtain ⟨p, q⟩ := cellsI_get ps (j / 2) (by omega)
  have a := hc (j / 2) (by omega)
  rcases Nat.mod_two_eq_zero_or_one j with e | e
  · have e2 : j = j / 2 * 2 := by omega
    rw [show (cellsI ps)[j]? = (cellsI ps)[j / 2 * 2]? from congrArg _ e2, p] at hu
    rw [← Option.some.inj hu, ← a.1, Addr.add_lit, ← e2]
  · have e2 : j = j / 2 * 2 + 1 := by omega
    rw [show (cellsI ps)[j]? = (cellsI ps)[j / 2 * 2 + 1]? from congrArg _ e2, q] at hu
    rw [← Option.some.inj hu, ← a.2, Addr.add_lit, Nat.add_assoc, ← e2]
/-- a row of pairs that a call has made reads as a slice of pairs -/
theorem own_ps {w : World} {base g cap : Nat} {ps : List (Int × Int)} (h : w.ownsRow base 44 2 (.slice (some ⟨g, 0, none⟩) ps.length cap) ps.length (cellsI ps)) {B : Nat} (hB : g < B) : Ps w B (some ⟨g, 0, none⟩) ps := by
  refine .inr ⟨g, 0, rfl, hB, fun i hi => ?_⟩
  obtain ⟨p, q⟩ := cellsI_get ps i hi
  rw [Nat.zero_add, World.ownsRow.cellAt h (i * 2) (by omega), World.ownsRow.cellAt h (i * 2 + 1) (by omega)]
  exact ⟨p, q⟩
theorem own_psv {w : World} {base : Nat} {v : Value} {ps : List (Int × Int)} (h : w.ownsRow base 44 2 v ps.length (cellsI ps)) : ∃ p cap, v = .slice p ps.length cap ∧ Ps w w.heap.size p ps := by
  rcases h.2 with ⟨rfl, h0⟩ | ⟨g, cap, cur, rfl, hb, hg, _⟩
  · exact ⟨none, 0, by rw [h0], .inl (List.length_eq_zero_iff.1 h0)⟩
  · exact ⟨_, cap, rfl, own_ps h (Array.getElem?_eq_some_iff.1 hg).1⟩

theorem wpList_copyP {ops : Array Oper} {rest : List Oper} {o : Oper} {a : Act} {w : World} {Q : Exit → Act → World → Prop} (hw : Region.wanted o (yielded ops a.tmps) = true) (s x : Operand)
    (ho : o.op = Op.call { callee := Callee.builtin Builtin.append, args := #[s, x], argTypes := #[22, 22] }) (k : Nat) (hs : a.eval s = .slice (some ⟨k, 0, none⟩) 0 0) (hk : w.heap[k]? = some (.cells #[] 44 (0, 0)))
    (p : Option Addr) (ps : List (Int × Int)) (c : Nat) (hx : a.eval x = .slice p ps.length c) {B : Nat} (hp : Ps w B p ps) (hm : ps.length * 16 ≤ 140737488355328)
    (h : ∀ g cap w', k ≤ g → Ps w' w'.heap.size (some ⟨g, 0, none⟩) ps → Below k w w' → w'.ownsRow k 44 2 (.slice (some ⟨g, 0, none⟩) ps.length cap) ps.length (cellsI ps) → wpList Tryd.prog ops Q rest (a.put o.dst (.slice (some ⟨g, 0, none⟩) ps.length cap)) w') : wpList Tryd.prog ops Q (o :: rest) a w := by
  have hks : k < w.heap.size := (Array.getElem?_eq_some_iff.1 hk).1
  have hown : w.ownsRow k 44 2 (.slice (some ⟨k, 0, none⟩) 0 0) 0 [] := ⟨rfl, .inr ⟨k, 0, #[], rfl, Nat.le_refl _, hk, Nat.le_refl _, by unfold maxLen; omega, rfl, rfl⟩⟩
  refine wpList_wanted hw ?_
  rcases Nat.eq_zero_or_pos ps.length with h0 | h0
  · have he : ps = [] := List.length_eq_zero_iff.1 h0
    subst he
    have hrun := run_append_zeroP w o.type k p c
    have hK2 := h k 0 w (Nat.le_refl _) (.inl rfl) (Below.refl _ _) hown
    unfold Oper.wp execOp
    simp only [List.length_nil] at hx hK2
    simp only [ho, resolve, invoke, builtin, Sem.run_bind, Sem.run_pure, Result.andThen_ok, List.map_toArray, List.map_cons, List.map_nil, hs, hx, hrun]
    exact hK2
  · obtain ⟨i0, hi, hz0, hz1, hz2⟩ := info_parts Tryd.info44p
    obtain ⟨b, off, rfl, hb, hc⟩ : ∃ b off, p = some ⟨b, off, none⟩ ∧ b < B ∧ ∀ i (h : i < ps.length), w.cell? ⟨b, off + i * 2, none⟩ = some (.int .i64 ps[i].1) ∧ w.cell? ⟨b, off + i * 2 + 1, none⟩ = some (.int .i64 ps[i].2) := by
      rcases hp with h | h
      · subst h; simp at h0
      · exact h
    refine wp_append_own w s x 22 ho k 44 i0 _ 2 16 und22r hi hz0 hz1 hz2 rfl (by omega) _ 0 [] hs hown ⟨b, off, none⟩ ps.length c (cellsI ps) hx (cellsI_len ps) (cellsI_at hc) (fun u hu => ?_) (by unfold maxLen; omega) (by omega) (by omega) ?_
    · unfold cellsI at hu
      obtain ⟨m, _, hu⟩ := List.mem_flatMap.1 hu
      simp at hu; rcases hu with rfl | rfl <;> rfl
    · intro v' w' hown' hgrow _
      rw [Nat.zero_add, List.nil_append] at hown'
      obtain ⟨g, cap, rfl⟩ := ownsRow_some hown' h0
      have hlt := hown'.lt g rfl
      exact h g cap w' hlt.1 (own_ps hown' hlt.2) ((Below.refl _ w).grown hgrow (by omega) (fun j e => by simp [Value.ownBlock] at e; omega)) hown'
end Go.Proofs.YtkgcloggnnjioaaDoor
