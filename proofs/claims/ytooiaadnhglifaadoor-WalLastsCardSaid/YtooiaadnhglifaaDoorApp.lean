/-
  Bytes appended to bytes: a list of bytes that grows.
-/
import Derived.Test.YtooiaadnhglifaaDoorPrt
import Derived.Test.YtooiaadnhglifaaDoorRws
set_option linter.unusedVariables false
set_option linter.unusedSimpArgs false
namespace Go.Proofs.YtooiaadnhglifaaDoor
open Go.RowKit

/-- nothing is appended -/
theorem run_append_zero {P : Program} (w : World) (t ty e : TypeId) (i : TypeInfo) (ht : P.underlying t = some (.slice e)) (hi : P.info? e = some i) (p q : Option Addr) (n d c : Nat) (hn : n ≤ d) : (Builtin.append_ #[t, t] ty #[.slice p n d, .slice q 0 c]).run P w = .ok (.slice p n d) w := by
  cases p <;> cases q <;> simp [Builtin.append_, run_underlying ht, sizeOf, typeInfo, hi, Builtin.lenOf, Builtin.firstCells, loadCells, loadCellsFrom, storeCells, Result.andThen, hn]

/-- a slice that holds these bytes and may be appended to -/
def Acc (w : World) (base : Nat) (v : Value) (xs : List UInt8) : Prop := (∃ p d, v = .slice p xs.length d ∧ xs.length ≤ d) ∧ ((xs = [] ∧ Grw w base 5 1 v 0 []) ∨ w.ownsRow base 5 1 v xs.length (cells8 xs))
theorem acc_nil {w : World} {base : Nat} : Acc w base (.slice none 0 0) [] := ⟨⟨none, 0, rfl, Nat.le_refl _⟩, .inl ⟨rfl, grw_nil⟩⟩
theorem acc_made {w : World} {base : Nat} (hb : base ≤ w.heap.size) : Acc (w.alloc (.cells #[] 5)) base (.slice (some ⟨w.heap.size, 0, none⟩) 0 0) [] := ⟨⟨_, 0, rfl, Nat.le_refl _⟩, .inl ⟨rfl, grw_made hb⟩⟩
theorem Acc.on {w w' : World} {base : Nat} {v : Value} {xs : List UInt8} (h : Acc w base v xs) (hbase : base ≤ w.heap.size) (hb : Below w.heap.size w w') : Acc w' base v xs :=
  ⟨h.1, h.2.imp (fun h => ⟨h.1, h.2.on hbase hb⟩) (fun h => owns_on h hb (Nat.le_refl _))⟩
theorem Acc.grw {w : World} {base : Nat} {v : Value} {xs : List UInt8} (h : Acc w base v xs) : Grw w base 5 1 v xs.length (cells8 xs) := by
  obtain ⟨_, h2⟩ := h
  rcases h2 with ⟨hx, h2⟩ | h2
  · subst hx; exact h2
  · exact .inr h2
theorem Acc.rd {w : World} {base : Nat} {v : Value} {xs : List UInt8} (h : Acc w base v xs) : ∃ p d, v = .slice p xs.length d ∧ xs.length ≤ d ∧ Rd0 w p xs := by
  obtain ⟨⟨p, d, hv, hd⟩, hg⟩ := h
  refine ⟨p, d, hv, hd, ?_⟩
  rcases hg with ⟨h, _⟩ | ho
  · exact .inl h
  by_cases h0 : xs = []
  · exact .inl h0
  have hpos : 0 < xs.length := List.length_pos_iff.2 h0
  obtain ⟨g, cap, hv', hge, hgl⟩ := ho.form hpos
  rw [hv] at hv'
  cases hv'
  subst hv
  exact .inr ⟨g, 0, rfl, hgl, fun i u hu => by have := ho.cells (g := g) rfl i u hu; rwa [Addr.add_mid] at this⟩
theorem Acc.form {w : World} {base : Nat} {v : Value} {xs : List UInt8} (h : Acc w base v xs) (n : Nat) (hn : n = xs.length) : ∃ p d, v = .slice p n d ∧ n ≤ d := by
  subst hn; exact h.1
theorem rd0_lit (w : World) (T : TypeId) (l : List UInt8) : Rd0 (w.alloc (.cells (cells8 l).toArray T)) (some ⟨w.heap.size, 0, none⟩) l :=
  .inr ⟨w.heap.size, 0, rfl, by simp, fun i v hv => by rw [Nat.zero_add]; exact (Bk.new w T (cells8 l).toArray).cell i v (by rw [List.toList_toArray]; exact hv)⟩
theorem run_app8 (w : World) (base : Nat) (v : Value) (xs : List UInt8) (hA : Acc w base v xs) (q : Option Addr) (m : List UInt8) (c : Nat) (hR : Rd0 w q m) (hz : xs.length + m.length ≤ 100000000000000) (hbase : base ≤ w.heap.size) :
    ∃ v' w', (Builtin.append_ #[22, 22] 22 #[v, .slice q m.length c]).run Tryd.prog w = .ok v' w' ∧ Acc w' base v' (xs ++ m) ∧ Below base w w' := by
  obtain ⟨i, hi, hz0, hz1, hz2⟩ := info_parts info8
  rcases hR with rfl | ⟨b, off, rfl, hbl, hc⟩
  · obtain ⟨⟨p, d, hv, hd⟩, hg⟩ := id hA
    rw [hv]
    refine ⟨_, w, run_append_zero w _ _ 5 i Tryd.underlying22 hi p q _ d c hd, ?_, Below.refl _ _⟩
    rw [← hv, List.append_nil]; exact hA
  · by_cases h0 : m = []
    · subst h0
      obtain ⟨⟨p, d, hv, hd⟩, hg⟩ := id hA
      rw [hv]
      refine ⟨_, w, run_append_zero w _ _ 5 i Tryd.underlying22 hi p _ _ d c hd, ?_, Below.refl _ _⟩
      rw [← hv, List.append_nil]; exact hA
    · have hpos : 0 < m.length := List.length_pos_iff.2 h0
      obtain ⟨g, cap, w', hr, ho, hb, hge, hlt⟩ := run_append_grw (P := Tryd.prog) w 22 22 base 5 i _ 1 1 Tryd.underlying22 hi hz0 hz1 hz2 rfl (by decide) v xs.length (cells8 xs) hA.grw ⟨b, off, none⟩ m.length c (cells8 m) (by rw [cells8_len, Nat.mul_one]) (fun j u hu => by rw [Addr.add_mid]; exact hc j u hu) (by intro u hu; obtain ⟨x, _, rfl⟩ := List.mem_map.1 hu; rfl) hpos (by unfold maxLen; omega) (by omega) hbase
      refine ⟨_, w', hr, ⟨⟨_, cap, by rw [List.length_append], ?_⟩, .inr ?_⟩, hb⟩
      · rcases ho.2 with ⟨h, _⟩ | ⟨_, _, _, h1, _, _, h2, _⟩
        · cases h
        · cases h1; rw [List.length_append]; exact h2
      · have e : cells8 (xs ++ m) = cells8 xs ++ cells8 m := by simp [cells8]
        rw [List.length_append, e]; exact ho
theorem wpList_app8 {w : World} {ops : Array Oper} {rest : List Oper} {o : Oper} {a : Act} {Q : Exit → Act → World → Prop} (hgd : o.guard = none) (s x : Operand)
    (ho : o.op = .call { callee := .builtin .append, args := #[s, x], argTypes := #[22, 22] }) (hty : o.type = 22)
    (base : Nat) (v : Value) (xs : List UInt8) (hs : a.eval s = v) (hA : Acc w base v xs) (q : Option Addr) (m : List UInt8) (n c : Nat) (hx : a.eval x = .slice q n c) (hn : n = m.length) (hR : Rd0 w q m) (hz : xs.length + m.length ≤ 100000000000000) (hbase : base ≤ w.heap.size)
    (h : ∀ v' w', Acc w' base v' (xs ++ m) → Below base w w' → wpList Tryd.prog ops Q rest (a.put o.dst v') w') : wpList Tryd.prog ops Q (o :: rest) a w := by
  subst hn
  obtain ⟨v', w', hr, h1, h2⟩ := run_app8 w base v xs hA q m c hR hz hbase
  refine wpList_plain hgd fun K hK => ?_
  unfold Oper.wp execOp
  simp only [ho, hty, resolve, invoke, builtin, Sem.run_bind, Sem.run_pure, Result.andThen_ok, List.map_toArray, List.map_cons, List.map_nil, hs, hx, hr]
  exact hK _ _ (h v' w' h1 h2)
end Go.Proofs.YtooiaadnhglifaaDoor
