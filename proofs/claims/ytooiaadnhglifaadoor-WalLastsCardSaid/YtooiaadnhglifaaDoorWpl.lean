/-
  A growing list of bytes; bytes.Clone.
-/
import Derived.Test.YtooiaadnhglifaaDoorWsw
import Derived.Test.YtooiaadnhglifaaDoorOpw
set_option linter.unusedVariables false
set_option linter.unusedSimpArgs false
namespace Go.Proofs.YtooiaadnhglifaaDoor
open Go.RowKit

theorem infoSl : (Tryd.prog.info? 22).map (fun i => (i.zero, i.size, i.bytes)) = some (some (.slice none 0 0), 1, 24) := by kernel_rfl

/-- a list of bytes that the call makes -/
structure Pl (w : World) (base : Nat) (v : Value) (l : List SlA) : Prop where
  form : ∃ p d, v = .slice p l.length d ∧ l.length ≤ d
  own : w.ownsRow base 22 1 v l.length (flatE encS l)
  ok : ∀ x ∈ l, Rd0 w x.q x.m ∧ x.m.length ≤ x.c
  far : ∀ x ∈ l, ∀ g, v.ownBlock = some g → x.m = [] ∨ ∀ b, x.q = some b → b.block ≠ g
theorem pl_nil (w : World) (base : Nat) : Pl w base (.slice none 0 0) [] := ⟨⟨none, 0, rfl, Nat.le_refl _⟩, World.ownsRow_nil _ _ _ _, fun x hx => (by cases hx), fun x hx => (by cases hx)⟩
theorem Pl.on {w w' : World} {base : Nat} {v : Value} {l : List SlA} (h : Pl w base v l) (hb : Below w.heap.size w w') : Pl w' base v l :=
  ⟨h.form, owns_on h.own hb (Nat.le_refl _), fun x hx => ⟨(h.ok x hx).1.on hb, (h.ok x hx).2⟩, h.far⟩
theorem Rd0.grown {w w' : World} {q : Option Addr} {m : List UInt8} {row : Option Nat} (h : Rd0 w q m) (hg : w.grownBy w' row) (hf : ∀ g, row = some g → m = [] ∨ ∀ b, q = some b → b.block ≠ g) : Rd0 w' q m := by
  rcases h with h | ⟨b, off, rfl, h2, h3⟩
  · exact .inl h
  · cases row with
    | none => exact .inr ⟨b, off, rfl, Nat.lt_of_lt_of_le h2 hg.size, fun i v hv => hg.cell (h3 i v hv) (by simp)⟩
    | some g =>
      rcases hf g rfl with h0 | h0
      · exact .inl h0
      · exact .inr ⟨b, off, rfl, Nat.lt_of_lt_of_le h2 hg.size, fun i v hv => hg.cell (h3 i v hv) (by have := h0 _ rfl; simp at this ⊢; exact this)⟩
theorem wpList_pl {w : World} {ops : Array Oper} {rest : List Oper} {o : Oper} {a : Act} {Q : Exit → Act → World → Prop} (hgd : o.guard = none) (s x : Operand)
    (ho : o.op = .call { callee := .builtin .append, args := #[s, x], argTypes := #[30, 30] })
    (base : Nat) (v : Value) (l : List SlA) (hs : a.eval s = v) (hP : Pl w base v l) (y : SlA) (ab : Nat) (n c : Nat) (hx : a.eval x = .slice (some ⟨ab, 0, none⟩) n c) (hn : n = 1) (hy0 : w.cell? ⟨ab, 0, none⟩ = some (.slice y.q y.m.length y.c))
    (hy : Rd0 w y.q y.m) (hyc : y.m.length ≤ y.c) (hne : ∀ g, v.ownBlock = some g → y.m = [] ∨ ∀ b, y.q = some b → b.block ≠ g) (hl : l.length ≤ 1000000) (hbase : base ≤ w.heap.size)
    (h : ∀ v' w', Pl w' base v' (l ++ [y]) → Below base w w' → wpList Tryd.prog ops Q rest (a.put o.dst v') w') : wpList Tryd.prog ops Q (o :: rest) a w := by
  subst hn
  obtain ⟨i, hi, hz0, hz1, hz2⟩ := info_parts infoSl
  have ho0 := hP.own
  obtain ⟨g, cap, w', hr, how, hg, hat, hlt⟩ := run_append_lies (P := Tryd.prog) (w := w) 30 o.type base 22 i _ 1 24 Tryd.underlying30 hi hz0 hz1 hz2 rfl (by decide) v l.length (flatE encS l) hP.own ⟨ab, 0, none⟩ 1 c [.slice y.q y.m.length y.c] rfl
    (fun j u hu => by
      obtain rfl : j = 0 := by have := (List.getElem?_eq_some_iff.1 hu).1; simpa using this
      cases hu
      rw [Addr.add_mid]; exact hy0)
    (by intro u hu; simp at hu; subst hu; rfl) (by decide) (by unfold maxLen; omega) (by omega) hbase w.heap.size rfl
  have hfl : flatE encS (l ++ [y]) = flatE encS l ++ [.slice y.q y.m.length y.c] := by simp [flatE, encS]
  have hmem : ∀ x ∈ l ++ [y], (Rd0 w x.q x.m ∧ x.m.length ≤ x.c) ∧ ∀ g, v.ownBlock = some g → x.m = [] ∨ ∀ b, x.q = some b → b.block ≠ g := by
    intro x hx
    rcases List.mem_append.1 hx with hx | hx
    · exact ⟨hP.ok x hx, hP.far x hx⟩
    · obtain rfl : x = y := by simpa using hx
      exact ⟨⟨hy, hyc⟩, hne⟩
  have hPl : Pl w' base (.slice (some ⟨g, 0, none⟩) (l.length + 1) cap) (l ++ [y]) := by
    refine ⟨⟨_, cap, by rw [List.length_append]; rfl, ?_⟩, by rw [List.length_append, hfl]; exact how, fun x hx => ⟨(hmem x hx).1.1.grown hg (hmem x hx).2, (hmem x hx).1.2⟩, fun x hx g' hg' => ?_⟩
    · rcases how.2 with ⟨h, _⟩ | ⟨_, _, _, h1, _, _, h2, _⟩
      · cases h
      · cases h1; rw [List.length_append]; exact h2
    · obtain rfl : g = g' := by simpa [Value.ownBlock] using hg'
      rcases hat with hat | hat
      · exact (hmem x hx).2 g hat
      · rcases (hmem x hx).1.1 with h0 | ⟨b, off, h1, h2, _⟩
        · exact .inl h0
        · refine .inr fun b' hb' => ?_
          rw [h1] at hb'; cases hb'
          show b ≠ g
          omega
  refine wpList_plain hgd fun K hK => ?_
  unfold Oper.wp execOp
  simp only [ho, resolve, invoke, builtin, Sem.run_bind, Sem.run_pure, Result.andThen_ok, List.map_toArray, List.map_cons, List.map_nil, hs, hx, hr]
  exact hK _ _ (h _ w' hPl ((Below.refl _ _).grown hg hbase (fun k hk => (hP.own.lt k hk).1)))

set_option maxRecDepth 100000 in
theorem clone_any (b o n c : Nat) (m : List UInt8) (hn : n = m.length) (w : World) (hR : Rd0 w (some ⟨b, o, none⟩) m) (hz : m.length ≤ 1000000000) :
    Calls Tryd.prog 30 #[.slice (some ⟨b, o, none⟩) n c] w fun e w' => ∃ v', e = .returned v' ∧ Acc w' w.heap.size v' m ∧ Below w.heap.size w w' := by
  subst hn
  have HR := Lib.hid hR
  clear hR
  have hcmp : ∀ wx : World, (binOp .eql 22 (.slice (some ⟨b, o, none⟩) m.length c) (.slice none 0 0)).run Tryd.prog wx = .ok (.bool false) wx := fun wx => by
    simp only [binOp]
    simp [run_equal_slice_nil wx 22 5 _ _ _ Tryd.underlying22]
  go_enter Tryd.func30, Tryd.ntmps30
  go_wp2_with (refine wpList_app8 rfl _ _ rfl rfl w.heap.size _ [] rfl (acc_made (w := w) (Nat.le_refl _)) _ m _ _ rfl rfl (HR.out.on (below1 _ _)) (by simp; omega) (by simp) ?_; intro v2 w2 hA hb; rw [List.nil_append] at hA; have HA := Lib.hid hA; have HB := Lib.hid ((below1 w (.cells #[] 5)).trans hb); clear hA hb)
  go_ret
  exact ⟨_, rfl, HA.out, HB.out⟩
end Go.Proofs.YtooiaadnhglifaaDoor
