/-
  append([]Value{}, l...): a copy of a list, in memory of its own.
-/
import Derived.Test.YtdoadclblloddaaOpen
namespace Go.Proofs.Ytdoadclblloddaa
open Go.RowKit Go.Maps Go.WideMaps

theorem run_append_zero (w : World) (ty : TypeId) (B : Nat) (q : Option Addr) (c : Nat) : (Builtin.append_ #[26, 26] ty #[.slice (some ⟨B, 0, none⟩) 0 0, .slice q 0 c]).run Try.prog w = .ok (.slice (some ⟨B, 0, none⟩) 0 0) w := by
  obtain ⟨i0, hi, hz0, hz1, hz2⟩ := info_parts info31
  cases q <;> simp [Builtin.append_, run_underlying Try.underlying26, sizeOf, typeInfo, hi, Builtin.lenOf, Builtin.firstCells, loadCells, loadCellsFrom, storeCells, Result.andThen]

theorem vals_cells {w : World} {B : Nat} {q : Option Addr} {l : List Vl} (hl : 0 < l.length) (h : Vals w B q l) : ∃ b off, q = some ⟨b, off, none⟩ ∧ ∀ j u, (flatV l)[j]? = some u → w.cell? ((⟨b, off, none⟩ : Addr).add j) = some u := by
  rcases h with h | ⟨b, off, he, hb, hc⟩
  · subst h; simp at hl
  · refine ⟨b, off, he, ?_⟩
    intro j u hu
    have hj : j < l.length * 2 := by rw [← flatV_length]; exact (List.getElem?_eq_some_iff.1 hu).1
    obtain ⟨p, q⟩ := flatV_get l (j / 2) (by omega)
    have a := hc (j / 2) (by omega)
    rcases Nat.mod_two_eq_zero_or_one j with e | e
    · have e2 : j = j / 2 * 2 := by omega
      rw [show (flatV l)[j]? = (flatV l)[j / 2 * 2]? from congrArg _ e2, p] at hu
      rw [← Option.some.inj hu, ← a.1]
      rw [Addr.add_lit, ← e2]
    · have e2 : j = j / 2 * 2 + 1 := by omega
      rw [show (flatV l)[j]? = (flatV l)[j / 2 * 2 + 1]? from congrArg _ e2, q] at hu
      rw [← Option.some.inj hu, ← a.2]
      rw [Addr.add_lit, Nat.add_assoc, ← e2]

/-- the copy at the append, for the walk -/
theorem wpList_copy (w : World) {ops : Array Oper} {rest : List Oper} {o : Oper} {a : Act} {Q : Exit → Act → World → Prop} (hgd : o.guard = none) (s x : Operand)
    (ho : o.op = .call { callee := .builtin .append, args := #[s, x], argTypes := #[26, 26] }) (B : Nat) (hs : a.eval s = .slice (some ⟨B, 0, none⟩) 0 0) (hB : RowOf w B 31 [])
    (q : Option Addr) (vs : List Vl) (c : Nat) (hx : a.eval x = .slice q vs.length c) {B0 : Nat} (hv : Vals w B0 q vs) (hm : vs.length * 24 ≤ 140737488355328)
    (h : ∀ g cap w', B ≤ g → g < w'.heap.size → Vals w' w'.heap.size (some ⟨g, 0, none⟩) vs → Below B w w' → wpList Try.prog ops Q rest (a.put o.dst (.slice (some ⟨g, 0, none⟩) vs.length cap)) w') : wpList Try.prog ops Q (o :: rest) a w := by
  rcases Nat.eq_zero_or_pos vs.length with h0 | h0
  · have he : vs = [] := List.length_eq_zero_iff.1 h0
    subst he
    refine wpList_plain hgd fun K hK => ?_
    have hrun := run_append_zero w o.type B q c
    have hK2 := hK _ _ (h B 0 w (Nat.le_refl _) hB.lt (.inl rfl) (Below.refl _ _))
    unfold Oper.wp execOp
    simp only [List.length_nil] at hx hK2
    simp only [ho, resolve, invoke, builtin, Sem.run_bind, Sem.run_pure, Result.andThen_ok, List.map_toArray, List.map_cons, List.map_nil, hs, hx, hrun]
    exact hK2
  · obtain ⟨i0, hi, hz0, hz1, hz2⟩ := info_parts info31
    obtain ⟨b, off, rfl, hc⟩ := vals_cells h0 hv
    have hown : w.ownsRow 0 31 2 (.slice (some ⟨B, 0, none⟩) 0 0) 0 [] := ⟨rfl, .inr ⟨B, 0, #[], rfl, Nat.zero_le _, hB, Nat.le_refl _, by unfold maxLen; omega, rfl, rfl⟩⟩
    refine wpList_append_lies w hgd s x 26 ho 0 31 i0 _ 2 24 Try.underlying26 hi hz0 hz1 hz2 rfl (by omega) _ 0 [] hs hown ⟨b, off, none⟩ vs.length c (flatV vs) hx (flatV_length vs) hc (flatV_one vs) h0 (by unfold maxLen; omega) (by omega) (Nat.zero_le _) _ rfl ?_
    intro g cap w' hw hg hat hlt
    rw [Nat.zero_add, List.nil_append] at hw
    rw [Nat.zero_add]
    have hBg : B ≤ g := by
      rcases hat with e | e
      · simp [Value.ownBlock] at e; omega
      · have := hB.lt; omega
    refine h g cap w' hBg hlt (.inr ⟨g, 0, rfl, hlt, fun i hi => ?_⟩) ?_
    · obtain ⟨p, q⟩ := flatV_get vs i hi
      have c1 := hw.cells (g := g) rfl (i * 2) _ p
      have c2 := hw.cells (g := g) rfl (i * 2 + 1) _ q
      rw [Addr.add_lit] at c1 c2
      exact ⟨c1, c2⟩
    · exact (Below.refl _ _).grown hg (Nat.le_of_lt hB.lt) (fun k hk => by simp [Value.ownBlock] at hk; omega)
end Go.Proofs.Ytdoadclblloddaa
