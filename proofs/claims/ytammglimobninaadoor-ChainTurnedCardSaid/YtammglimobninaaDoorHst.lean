/-
  A text is appended to bytes.
-/
import Derived.Test.YtammglimobninaaDoorHnu
import Derived.Lib.AppendStr
set_option linter.unusedVariables false
set_option linter.unusedSimpArgs false
namespace Go.Proofs.YtammglimobninaaDoor
open Go.RowKit Lib

theorem strCells8 (s : ByteArray) : strCells s = cells8 s.data.toList := rfl
theorem run_appstr8 (w : World) (base : Nat) (v : Value) (xs : List UInt8) (hA : Acc w base v xs) (h0 : xs ≠ []) (s : ByteArray) (hz : xs.length + s.size ≤ 100000000000000) (hbase : base ≤ w.heap.size) :
    ∃ v' w', (Builtin.append_ #[25, 9] 25 #[v, .string s]).run Tryd.prog w = .ok v' w' ∧ Acc w' base v' (xs ++ s.data.toList) ∧ Below base w w' := by
  obtain ⟨i, hi, hz0, hz1, hz2⟩ := info_parts info8
  have hpos : 0 < xs.length := List.length_pos_iff.2 h0
  have hown : w.ownsRow base 5 1 v xs.length (cells8 xs) := by
    rcases hA.2 with ⟨h, _⟩ | h
    · exact absurd h h0
    · exact h
  obtain ⟨v', w', hr, ho, hg, _⟩ := run_append_own_string (P := Tryd.prog) w base 25 9 25 5 i Tryd.underlying25 Tryd.underlying9 hi hz0 hz1 hz2 v xs.length (cells8 xs) hown s (by unfold maxLen; omega) (by omega) hbase
  have e : cells8 (xs ++ s.data.toList) = cells8 xs ++ strCells s := by simp [cells8, strCells8]
  have el : (xs ++ s.data.toList).length = xs.length + s.size := by rw [List.length_append]; rfl
  obtain ⟨g, cap, rfl, hge, hlt⟩ := ho.form (by omega)
  refine ⟨_, w', hr, ⟨⟨_, cap, by rw [el], ?_⟩, .inr ?_⟩, (Below.refl _ _).grown hg hbase (fun k hk => (hown.lt k hk).1)⟩
  · rcases ho.2 with ⟨h, _⟩ | ⟨_, _, _, h1, _, _, h2, _⟩
    · cases h
    · cases h1; rw [el]; exact h2
  · rw [el, e]; exact ho
theorem wpList_appstr8 {w : World} {ops : Array Oper} {rest : List Oper} {o : Oper} {a : Act} {Q : Exit → Act → World → Prop} (hgd : o.guard = none) (s x : Operand)
    (ho : o.op = .call { callee := .builtin .append, args := #[s, x], argTypes := #[25, 9] }) (hty : o.type = 25)
    (base : Nat) (v : Value) (xs : List UInt8) (hs : a.eval s = v) (hA : Acc w base v xs) (h0 : xs ≠ []) (t : ByteArray) (hx : a.eval x = .string t) (hz : xs.length + t.size ≤ 100000000000000) (hbase : base ≤ w.heap.size)
    (h : ∀ v' w', Acc w' base v' (xs ++ t.data.toList) → Below base w w' → wpList Tryd.prog ops Q rest (a.put o.dst v') w') : wpList Tryd.prog ops Q (o :: rest) a w := by
  obtain ⟨v', w', hr, h1, h2⟩ := run_appstr8 w base v xs hA h0 t hz hbase
  refine wpList_plain hgd fun K hK => ?_
  unfold Oper.wp execOp
  simp only [ho, hty, resolve, invoke, builtin, Sem.run_bind, Sem.run_pure, Result.andThen_ok, List.map_toArray, List.map_cons, List.map_nil, hs, hx, hr]
  exact hK _ _ (h v' w' h1 h2)
end Go.Proofs.YtammglimobninaaDoor
