/-
  Bytes in memory, for seats without layer 17 (there: Prt, App, Cts, Wap, Wsh, Wrb, Wpl).
-/
import Derived.Test.YtfkmakkofeedpaaBas
import Derived.Test.YtfkmakkofeedpaaRws
import Derived.Laws.BytesString
import Derived.Laws.IdiomStrings
set_option linter.unusedVariables false
set_option linter.unusedSimpArgs false
namespace Go.Proofs.Ytfkmakkofeedpaa
open Go.RowKit

theorem cells8_len (l : List UInt8) : (cells8 l).length = l.length := by simp [cells8]
theorem cells8_one (l : List UInt8) : (cells8 l).toArray.all (·.oneCell') = true := all_oneCell_toArray (by intro v hv; obtain ⟨x, _, rfl⟩ := List.mem_map.1 hv; rfl)
theorem info8 : (Try.prog.info? 5).map (fun i => (i.zero, i.size, i.bytes)) = some (some (.int .u8 0), 1, 1) := by kernel_rfl
theorem info_parts {t : TypeId} {z : Value} {s b : Nat} (h : (Try.prog.info? t).map (fun i => (i.zero, i.size, i.bytes)) = some (some z, s, b)) : ∃ i, Try.prog.info? t = some i ∧ i.zero = some z ∧ i.size = s ∧ i.bytes = b := by
  obtain ⟨i, h1, h2⟩ := Option.map_eq_some_iff.1 h
  injection h2 with h2 h3; injection h3 with h3 h4
  exact ⟨i, h1, h2, h3, h4⟩
theorem Bk.new' {N : Nat} (w : World) (hN : w.heap.size = N) (T : TypeId) (cs : Array Value) : Bk (w.alloc (.cells cs T)) N T cs := by subst hN; exact Bk.new w T cs
structure SlA where
  q : Option Addr
  c : Nat
  m : List UInt8
/-- the bytes of a slice lie in memory -/
def Rd0 (w : World) (q : Option Addr) (m : List UInt8) : Prop := m = [] ∨ ∃ b off, q = some ⟨b, off, none⟩ ∧ b < w.heap.size ∧ ∀ i v, (cells8 m)[i]? = some v → w.cell? ⟨b, off + i, none⟩ = some v
theorem Rd0.on {w w' : World} {q : Option Addr} {m : List UInt8} (h : Rd0 w q m) (hb : Below w.heap.size w w') : Rd0 w' q m := by
  rcases h with h | ⟨b, off, h1, h2, h3⟩
  · exact .inl h
  · exact .inr ⟨b, off, h1, Nat.lt_of_lt_of_le h2 hb.size, fun i v hv => by rw [hb.cell (p := ⟨b, off + i, none⟩) h2]; exact h3 i v hv⟩
/-- nothing is appended -/
theorem run_append_zero {P : Program} (w : World) (t ty e : TypeId) (i : TypeInfo) (ht : P.underlying t = some (.slice e)) (hi : P.info? e = some i) (p q : Option Addr) (n d c : Nat) (hn : n ≤ d) : (Builtin.append_ #[t, t] ty #[.slice p n d, .slice q 0 c]).run P w = .ok (.slice p n d) w := by
  cases p <;> cases q <;> simp [Builtin.append_, run_underlying ht, sizeOf, typeInfo, hi, Builtin.lenOf, Builtin.firstCells, loadCells, loadCellsFrom, storeCells, Result.andThen, hn]
/-- a slice that holds these bytes and may be appended to -/
def Acc (w : World) (base : Nat) (v : Value) (xs : List UInt8) : Prop := (∃ p d, v = .slice p xs.length d ∧ xs.length ≤ d) ∧ ((xs = [] ∧ Grw w base 5 1 v 0 []) ∨ w.ownsRow base 5 1 v xs.length (cells8 xs))
theorem acc_nil {w : World} {base : Nat} : Acc w base (.slice none 0 0) [] := ⟨⟨none, 0, rfl, Nat.le_refl _⟩, .inl ⟨rfl, grw_nil⟩⟩
theorem acc_made {w : World} {base : Nat} (hb : base ≤ w.heap.size) : Acc (w.alloc (.cells #[] 5)) base (.slice (some ⟨w.heap.size, 0, none⟩) 0 0) [] := ⟨⟨_, 0, rfl, Nat.le_refl _⟩, .inl ⟨rfl, grw_made hb⟩⟩
theorem Acc.on {w w' : World} {base : Nat} {v : Value} {xs : List UInt8} (h : Acc w base v xs) (hbase : base ≤ w.heap.size) (hb : Below w.heap.size w w') : Acc w' base v xs :=
  ⟨h.1, h.2.imp (fun h => ⟨h.1, h.2.on hbase hb⟩) (fun h => owns_on h hb (Nat.le_refl _))⟩
theorem Acc.grw {w : World} {base : Nat} {v : Value} {xs : List UInt8} (h : Acc w base v xs) : Grw w base 5 1 v xs.length (cells8 xs) := by
  obtain ⟨_, h2⟩ := h
  rcases h2 with ⟨hx, h2⟩ | h2
  · subst hx; exact h2
  · exact .inr h2
theorem Acc.rd {w : World} {base : Nat} {v : Value} {xs : List UInt8} (h : Acc w base v xs) : ∃ p d, v = .slice p xs.length d ∧ xs.length ≤ d ∧ Rd0 w p xs := by
  obtain ⟨⟨p, d, hv, hd⟩, hg⟩ := h
  refine ⟨p, d, hv, hd, ?_⟩
  rcases hg with ⟨h, _⟩ | ho
  · exact .inl h
  by_cases h0 : xs = []
  · exact .inl h0
  have hpos : 0 < xs.length := List.length_pos_iff.2 h0
  obtain ⟨g, cap, hv', hge, hgl⟩ := ho.form hpos
  rw [hv] at hv'
  cases hv'
  subst hv
  exact .inr ⟨g, 0, rfl, hgl, fun i u hu => by have := ho.cells (g := g) rfl i u hu; rwa [Addr.add_mid] at this⟩
theorem Acc.form {w : World} {base : Nat} {v : Value} {xs : List UInt8} (h : Acc w base v xs) (n : Nat) (hn : n = xs.length) : ∃ p d, v = .slice p n d ∧ n ≤ d := by
  subst hn; exact h.1
theorem rd0_lit (w : World) (T : TypeId) (l : List UInt8) : Rd0 (w.alloc (.cells (cells8 l).toArray T)) (some ⟨w.heap.size, 0, none⟩) l :=
  .inr ⟨w.heap.size, 0, rfl, by simp, fun i v hv => by rw [Nat.zero_add]; exact (Bk.new w T (cells8 l).toArray).cell i v (by rw [List.toList_toArray]; exact hv)⟩
theorem run_app8 (w : World) (base : Nat) (v : Value) (xs : List UInt8) (hA : Acc w base v xs) (q : Option Addr) (m : List UInt8) (c : Nat) (hR : Rd0 w q m) (hz : xs.length + m.length ≤ 100000000000000) (hbase : base ≤ w.heap.size) :
    ∃ v' w', (Builtin.append_ #[30, 30] 30 #[v, .slice q m.length c]).run Try.prog w = .ok v' w' ∧ Acc w' base v' (xs ++ m) ∧ Below base w w' := by
  obtain ⟨i, hi, hz0, hz1, hz2⟩ := info_parts info8
  rcases hR with rfl | ⟨b, off, rfl, hbl, hc⟩
  · obtain ⟨⟨p, d, hv, hd⟩, hg⟩ := id hA
    rw [hv]
    refine ⟨_, w, run_append_zero w _ _ 5 i Try.underlying30 hi p q _ d c hd, ?_, Below.refl _ _⟩
    rw [← hv, List.append_nil]; exact hA
  · by_cases h0 : m = []
    · subst h0
      obtain ⟨⟨p, d, hv, hd⟩, hg⟩ := id hA
      rw [hv]
      refine ⟨_, w, run_append_zero w _ _ 5 i Try.underlying30 hi p _ _ d c hd, ?_, Below.refl _ _⟩
      rw [← hv, List.append_nil]; exact hA
    · have hpos : 0 < m.length := List.length_pos_iff.2 h0
      obtain ⟨g, cap, w', hr, ho, hb, hge, hlt⟩ := run_append_grw (P := Try.prog) w 30 30 base 5 i _ 1 1 Try.underlying30 hi hz0 hz1 hz2 rfl (by decide) v xs.length (cells8 xs) hA.grw ⟨b, off, none⟩ m.length c (cells8 m) (by rw [cells8_len, Nat.mul_one]) (fun j u hu => by rw [Addr.add_mid]; exact hc j u hu) (by intro u hu; obtain ⟨x, _, rfl⟩ := List.mem_map.1 hu; rfl) hpos (by unfold maxLen; omega) (by omega) hbase
      refine ⟨_, w', hr, ⟨⟨_, cap, by rw [List.length_append], ?_⟩, .inr ?_⟩, hb⟩
      · rcases ho.2 with ⟨h, _⟩ | ⟨_, _, _, h1, _, _, h2, _⟩
        · cases h
        · cases h1; rw [List.length_append]; exact h2
      · have e : cells8 (xs ++ m) = cells8 xs ++ cells8 m := by simp [cells8]
        rw [List.length_append, e]; exact ho
theorem wpList_app8 {w : World} {ops : Array Oper} {rest : List Oper} {o : Oper} {a : Act} {Q : Exit → Act → World → Prop} (hgd : o.guard = none) (s x : Operand)
    (ho : o.op = .call { callee := .builtin .append, args := #[s, x], argTypes := #[30, 30] }) (hty : o.type = 30)
    (base : Nat) (v : Value) (xs : List UInt8) (hs : a.eval s = v) (hA : Acc w base v xs) (q : Option Addr) (m : List UInt8) (n c : Nat) (hx : a.eval x = .slice q n c) (hn : n = m.length) (hR : Rd0 w q m) (hz : xs.length + m.length ≤ 100000000000000) (hbase : base ≤ w.heap.size)
    (h : ∀ v' w', Acc w' base v' (xs ++ m) → Below base w w' → wpList Try.prog ops Q rest (a.put o.dst v') w') : wpList Try.prog ops Q (o :: rest) a w := by
  subst hn
  obtain ⟨v', w', hr, h1, h2⟩ := run_app8 w base v xs hA q m c hR hz hbase
  refine wpList_plain hgd fun K hK => ?_
  unfold Oper.wp execOp
  simp only [ho, hty, resolve, invoke, builtin, Sem.run_bind, Sem.run_pure, Result.andThen_ok, List.map_toArray, List.map_cons, List.map_nil, hs, hx, hr]
  exact hK _ _ (h v' w' h1 h2)
theorem cells8_take (m : List UInt8) (k : Nat) : cells8 (m.take k) = (cells8 m).take k := by simp [cells8, List.map_take]
theorem cells8_drop (m : List UInt8) (k : Nat) : cells8 (m.drop k) = (cells8 m).drop k := by simp [cells8, List.map_drop]
theorem Rd0.take {w : World} {q : Option Addr} {m : List UInt8} (h : Rd0 w q m) (k : Nat) : Rd0 w q (m.take k) := by
  rcases h with h | ⟨b, off, h1, h2, h3⟩
  · subst h; exact .inl (by simp)
  · refine .inr ⟨b, off, h1, h2, fun i v hv => h3 i v ?_⟩
    rw [cells8_take, List.getElem?_take] at hv
    split at hv
    · exact hv
    · cases hv
def fromQ (p : Option Addr) (c n : Nat) : Option Addr := if c = n then p else p.map (·.add (n * 1))
theorem Rd0.drop {w : World} {q : Option Addr} {m : List UInt8} (h : Rd0 w q m) (k c : Nat) (hc : m.length ≤ c) : Rd0 w (fromQ q c k) (m.drop k) := by
  unfold fromQ
  rcases h with h | ⟨b, off, h1, h2, h3⟩
  · subst h; exact .inl (by simp)
  · by_cases e : c = k
    · exact .inl (List.drop_eq_nil_of_le (by omega))
    · rw [if_neg e, h1]
      refine .inr ⟨b, off + k, by simp [Addr.add_mid], h2, fun i v hv => ?_⟩
      rw [cells8_drop, List.getElem?_drop] at hv
      rw [Nat.add_assoc]
      exact h3 (k + i) v hv
theorem run_slice_fromQ {P : Program} (t e : TypeId) (hu : P.underlying t = some (.slice e)) (hs : (P.info? e).map (·.size) = some 1) (p : Option Addr) (len cap : Nat) (k : IntKind) (i : Int) (n : Nat) (hi : i = (n : Int)) (hn : n ≤ len) (w : World) :
    (Instr.sliceAt t (.slice p len cap) (some (.int k i)) none none).run P w = .ok (.slice (fromQ p cap n) (len - n) (cap - n)) w := by
  subst hi
  have he : P.elem t = e := by simp [Program.elem, hu]
  rw [run_sliceAt_slice w t _ _ _ _ (by rw [he]; exact hu), run_slice_l w t p len cap (by rw [he]; exact hu) k n (by omega) (by omega), he]
  cases hq : P.info? e with
  | none => simp [hq] at hs
  | some i =>
    have hz : i.size = 1 := by simpa [hq] using hs
    simp [sizeOf, typeInfo, hq, hz, sliced, Result.andThen, fromQ]
theorem Rd0.under {w w' : World} {base : Nat} {q : Option Addr} {m : List UInt8} (h : Rd0 w q m) (hq : m = [] ∨ ∀ b, q = some b → b.block < base) (hb : Below base w w') (hs : w.heap.size ≤ w'.heap.size) : Rd0 w' q m := by
  rcases h with h | ⟨b, off, h1, h2, h3⟩
  · exact .inl h
  · rcases hq with hq | hq
    · exact .inl hq
    have hlt := hq _ h1
    exact .inr ⟨b, off, h1, by omega, fun i v hv => by rw [hb.cell (p := ⟨b, off + i, none⟩) hlt]; exact h3 i v hv⟩
theorem Rd0.low {w : World} {q : Option Addr} {m : List UInt8} (h : Rd0 w q m) : m = [] ∨ ∀ b, q = some b → b.block < w.heap.size := by
  rcases h with h | ⟨b, off, h1, h2, h3⟩
  · exact .inl h
  · exact .inr fun b' hb => by rw [h1] at hb; cases hb; exact h2
theorem run_slice_to {P : Program} (t e : TypeId) (hu : P.underlying t = some (.slice e)) (hs : (P.info? e).map (·.size) = some 1) (p : Option Addr) (len cap : Nat) (k : IntKind) (j : Int) (h : Nat) (hj : j = (h : Int)) (hc : h ≤ cap) (w : World) :
    (Instr.sliceAt t (.slice p len cap) none (some (.int k j)) none).run P w = .ok (.slice p h cap) w := by
  subst hj
  have he : P.elem t = e := by simp [Program.elem, hu]
  rw [run_sliceAt_slice w t _ _ _ _ (by rw [he]; exact hu), run_slice_h w t p len cap (by rw [he]; exact hu) k h (by omega) (by omega), he]
  cases hq : P.info? e with
  | none => simp [hq] at hs
  | some i =>
    have hz : i.size = 1 := by simpa [hq] using hs
    cases p <;> simp [sizeOf, typeInfo, hq, hz, sliced, Result.andThen, Addr.add]
theorem run_back8 (w : World) (q : Option Addr) (m : List UInt8) (c : Nat) (hR : Rd0 w q m) : (convert 30 9 (.slice q m.length c)).run Try.prog w = .ok (.string ⟨m.toArray⟩) w := by
  by_cases h0 : m = []
  · subst h0
    rw [show ([] : List UInt8).length = 0 from rfl, run_convert_bytes_string w 30 9 5 _ 0 c Try.underlying30 Try.underlying5 Try.underlying9]
    cases q <;> simp [Conv.bytesToString, loadCells]
    all_goals rfl
  · rcases hR with h | ⟨b, off, rfl, hl, hc⟩
    · exact absurd h h0
    · exact run_convert_bytes_back (P := Try.prog) w 30 9 5 ⟨b, off, none⟩ c m Try.underlying30 Try.underlying5 Try.underlying9 (fun j hj => by
        rw [Addr.add_mid]; exact hc j _ (by simp [cells8, List.getElem?_eq_getElem hj]))
end Go.Proofs.Ytfkmakkofeedpaa
