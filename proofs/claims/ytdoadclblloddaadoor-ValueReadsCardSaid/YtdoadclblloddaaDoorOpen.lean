/-
  Reading the arguments: a value, a slice of values, a tuple.
-/
import Derived.Test.YtdoadclblloddaaDoorRight
import Derived.ProofKit
import Derived.OpenShut
import Derived.ShutString
import Derived.Lib.SmallJoins
import Derived.Deep.SlicePairs
namespace Go.Proofs.YtdoadclblloddaaDoor
open Go.ChangeShapes Go.WideShapes Go.ChangeAt Go.WideMaps Go.WideElems Go.RowKit Go.Joins Go.Deep

theorem laidOut : laidOutB Tryd.prog = true := by kernel_rfl
theorem cells25 : Tryd.prog.cellsOf 25 = 2 := by kernel_rfl
theorem cells28 : Tryd.prog.cellsOf 28 = 2 := by kernel_rfl
theorem cells9 : Tryd.prog.cellsOf 9 = 1 := by kernel_rfl
theorem cells2 : Tryd.prog.cellsOf 2 = 1 := by kernel_rfl

set_option maxRecDepth 100000 in
theorem open25 {H : Type} {enc : TypeId × Value → H} {W : World} {base : Nat} {v : Value} {d : DataW H} {p : List MemPlace} (hv : Value.okWide Tryd.prog W .any base 25 v) (h : DataW.Trod enc Tryd.prog W 0 (fun _ => true) true 25 v d p) :
    ∃ (s : ByteArray) (n : Int), v = .agg #[.string s, .int .i64 n] ∧ s.size ≤ maxLen ∧ (Lit.int .i64 n).wf = true := by
  obtain ⟨c0, c1, y0, y1, m, rfl, rfl, rfl, hy0, hy1⟩ := open_agg2 Tryd.underlying25 (by kernel_rfl) cells25 hv h
  obtain ⟨s, e0, _, hs⟩ := DataW.trod_string Tryd.underlying9 hy0
  obtain ⟨n, e1, _, hn⟩ := DataW.trod_int Tryd.underlying2 hy1
  cases e0
  cases e1
  exact ⟨s, n, rfl, hs, hn⟩

theorem lt_of_cell {W : World} {b o : Nat} {u : Value} (h : W.cell? ⟨b, o, none⟩ = some u) : b < W.heap.size := World.block_lt_of_cell? W ⟨b, o, none⟩ h

theorem open26 {H : Type} {enc : TypeId × Value → H} {W : World} {fuel : Nat} {v : Value} {x : DataW H × List MemPlace} (h : DataW.trod enc Tryd.prog W 0 (fun _ => true) true fuel 26 [v] = some x) :
    ∃ (q : Option Addr) (l : List Vl) (c : Nat), v = .slice q l.length c ∧ Vals W W.heap.size q l ∧ SzOk l ∧ l.length ≤ maxLen := by
  rcases open_slice_pairs Tryd.underlying26 Tryd.underlying25 cells25 rfl rfl cells9 cells2 h with ⟨hc, _⟩ | ⟨a, len, cap, m, n, V0, V1, D0, D1, P0, P1, hc, _, hl, hm, hmm, _, hx⟩
  · simp at hc; subst hc
    exact ⟨none, [], 0, rfl, .inl rfl, fun i hi => by simp at hi, by simp⟩
  · simp at hc; subst hc
    simp at hmm; subst hmm
    have hs : ∀ i, i < len → ∃ s : ByteArray, V0 i = .string s ∧ s.size ≤ maxLen := fun i hi => by
      obtain ⟨s, e, _, z⟩ := DataW.trod_string Tryd.underlying9 (hx i (by omega)).2.2.1
      simp at e; exact ⟨s, e, z⟩
    have hn : ∀ i, i < len → ∃ n : Int, V1 i = .int .i64 n := fun i hi => by
      obtain ⟨n, e, _, z⟩ := DataW.trod_int Tryd.underlying2 (hx i (by omega)).2.2.2
      simp at e; exact ⟨n, e⟩
    haveI : Inhabited ByteArray := ⟨⟨#[]⟩⟩
    obtain ⟨S, hS⟩ := choose_lt hs
    obtain ⟨N, hN⟩ := choose_lt hn
    refine ⟨some a, (List.range len).map fun i => (S i, N i), m, by simp, ?_, fun i hi => ?_, by simp; omega⟩
    · rcases Nat.eq_zero_or_pos len with h0 | h0
      · subst h0; exact .inl rfl
      · obtain ⟨b, o, sp⟩ := a
        have c0 := (hx 0 (by omega)).1
        have hsp : sp = none := by simpa [Addr.add] using World.cell?_spot c0
        subst hsp
        rw [Addr.add_lit] at c0
        refine .inr ⟨b, o, rfl, lt_of_cell c0, fun i hi => ?_⟩
        have hi' : i < len := by simpa using hi
        have := hx i (by omega)
        rw [Addr.add_lit, Addr.add_lit] at this
        simp only [List.getElem_map, List.getElem_range]
        exact ⟨by rw [this.1, (hS i hi').1], by rw [Nat.add_assoc, this.2.1, hN i hi']⟩
    · have hi' : i < len := by simpa using hi
      simp only [List.getElem_map, List.getElem_range]
      exact (hS i hi').2

set_option maxRecDepth 100000 in
theorem open28 {H : Type} {enc : TypeId × Value → H} {W : World} {base : Nat} {v : Value} {d : DataW H} {p : List MemPlace} (hv : Value.okWide Tryd.prog W .any base 28 v) (h : DataW.Trod enc Tryd.prog W 0 (fun _ => true) true 28 v d p) :
    ∃ (s : ByteArray) (q : Option Addr) (l : List Vl) (c : Nat), v = .agg #[.string s, .slice q l.length c] ∧ s.size ≤ maxLen ∧ Vals W W.heap.size q l ∧ SzOk l ∧ l.length ≤ maxLen := by
  obtain ⟨c0, c1, y0, y1, m, rfl, rfl, rfl, hy0, hy1⟩ := open_agg2 Tryd.underlying28 (by kernel_rfl) cells28 hv h
  obtain ⟨s, e0, _, hs⟩ := DataW.trod_string Tryd.underlying9 hy0
  obtain ⟨q, l, c, e1, hq, hz, hl⟩ := open26 hy1
  cases e0
  subst e1
  exact ⟨s, q, l, c, rfl, hs, hq, hz, hl⟩
end Go.Proofs.YtdoadclblloddaaDoor
