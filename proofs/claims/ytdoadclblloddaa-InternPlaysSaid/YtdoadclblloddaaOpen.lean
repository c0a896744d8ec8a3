/-
  Reading the arguments: a slice of values, a slice of numbers.
-/
import Derived.Test.YtdoadclblloddaaFixed
import Derived.ProofKit
import Derived.OpenShut
import Derived.Lib.SmallJoins
import Derived.Deep.SlicePairs
namespace Go.Proofs.Ytdoadclblloddaa
open Go.ChangeShapes Go.WideShapes Go.ChangeAt Go.WideMaps Go.WideElems Go.RowKit Go.Joins Go.Deep

theorem own : ownKnob Try.prog.godebug = none := by kernel_rfl
theorem cells31 : Try.prog.cellsOf 31 = 2 := by kernel_rfl
theorem cells9 : Try.prog.cellsOf 9 = 1 := by kernel_rfl
theorem cells2 : Try.prog.cellsOf 2 = 1 := by kernel_rfl
theorem cells3 : Try.prog.cellsOf 3 = 1 := by kernel_rfl
theorem lt_of_cell {W : World} {b o : Nat} {u : Value} (h : W.cell? ⟨b, o, none⟩ = some u) : b < W.heap.size := World.block_lt_of_cell? W ⟨b, o, none⟩ h

theorem open26 {H : Type} {enc : TypeId × Value → H} {W : World} {fuel : Nat} {v : Value} {x : DataW H × List MemPlace} (h : DataW.trod enc Try.prog W 0 (fun _ => true) true fuel 26 [v] = some x) :
    ∃ (q : Option Addr) (l : List Vl) (c : Nat), v = .slice q l.length c ∧ Vals W W.heap.size q l ∧ OkAll l ∧ l.length ≤ maxLen ∧ (x.1 = .nil ∧ l = [] ∨ ∃ e s, x.1 = .slice e s ∧ e.length = l.length) := by
  rcases open_slice_pairs Try.underlying26 Try.underlying31 cells31 rfl rfl cells9 cells2 h with ⟨hc, hx⟩ | ⟨a, len, cap, m, n, V0, V1, D0, D1, P0, P1, hc, _, hl, hm, hmm, hxx, hx⟩
  · simp at hc; subst hc
    exact ⟨none, [], 0, rfl, .inl rfl, fun i hi => by simp at hi, by simp, .inl ⟨by rw [hx], rfl⟩⟩
  · simp at hc; subst hc
    simp at hmm; subst hmm
    have hs : ∀ i, i < len → ∃ s : ByteArray, V0 i = .string s ∧ s.size ≤ maxLen := fun i hi => by
      obtain ⟨s, e, _, z⟩ := DataW.trod_string Try.underlying9 (hx i (by omega)).2.2.1
      simp at e; exact ⟨s, e, z⟩
    have hn : ∀ i, i < len → ∃ n : Int, V1 i = .int .i64 n ∧ (Lit.int .i64 n).wf = true := fun i hi => by
      obtain ⟨n, e, _, z⟩ := DataW.trod_int Try.underlying2 (hx i (by omega)).2.2.2
      simp at e; exact ⟨n, e, z⟩
    haveI : Inhabited ByteArray := ⟨⟨#[]⟩⟩
    obtain ⟨S, hS⟩ := choose_lt hs
    obtain ⟨N, hN⟩ := choose_lt hn
    refine ⟨some a, (List.range len).map fun i => (S i, N i), m, by simp, ?_, fun v hv => ?_, by simp; omega, .inr ⟨_, _, by rw [hxx], by simp⟩⟩
    · rcases Nat.eq_zero_or_pos len with h0 | h0
      · subst h0; exact .inl rfl
      · obtain ⟨b, o, sp⟩ := a
        have c0 := (hx 0 (by omega)).1
        have hsp : sp = none := by simpa [Addr.add] using World.cell?_spot c0
        subst hsp
        rw [Addr.add_lit] at c0
        refine .inr ⟨b, o, rfl, lt_of_cell c0, fun i hi => ?_⟩
        have hi' : i < len := by simpa using hi
        have := hx i (by omega)
        rw [Addr.add_lit, Addr.add_lit] at this
        simp only [List.getElem_map, List.getElem_range]
        exact ⟨by rw [this.1, (hS i hi').1], by rw [Nat.add_assoc, this.2.1, (hN i hi').1]⟩
    · obtain ⟨i, hi, rfl⟩ := List.mem_map.1 hv
      have hi' : i < len := List.mem_range.1 hi
      exact ⟨(hS i hi').2, (hN i hi').2⟩

theorem open27 {H : Type} {enc : TypeId × Value → H} {W : World} {fuel : Nat} {v : Value} {x : DataW H × List MemPlace} (h : DataW.trod enc Try.prog W 0 (fun _ => true) true fuel 27 [v] = some x) :
    ∃ (q : Option Addr) (l : List Int) (c : Nat), v = .slice q l.length c ∧ Ints W W.heap.size q l ∧ (∀ n ∈ l, (Lit.int .i64 n).wf = true) ∧ l.length ≤ maxLen ∧ (x.1 = .nil ∧ l = [] ∨ ∃ e s, x.1 = .slice e s ∧ e.length = l.length) := by
  rcases open_ints Try.underlying27 Try.underlying3 cells3 h with ⟨hc, hx⟩ | ⟨a, len, cap, zs, hc, _, hl, hm, hz, hxx, hcell, hwf⟩
  · simp at hc; subst hc
    exact ⟨none, [], 0, rfl, .inl rfl, fun i hi => by simp at hi, by simp, .inl ⟨by rw [hx], rfl⟩⟩
  · simp at hc; subst hc
    simp at hz
    have hzl : (zs.take len).length = len := by simp; omega
    refine ⟨some a, zs.take len, cap, by rw [hzl], ?_, fun n hn => hwf n (List.mem_of_mem_take hn), by omega, .inr ⟨_, _, by rw [hxx], by simp [lits]⟩⟩
    rcases Nat.eq_zero_or_pos len with h0 | h0
    · subst h0; exact .inl rfl
    · obtain ⟨b, o, sp⟩ := a
      have c0 := hcell 0 (by omega)
      have hsp : sp = none := by simpa [Addr.add] using World.cell?_spot c0
      subst hsp
      rw [Addr.add_lit] at c0
      refine .inr ⟨b, o, rfl, lt_of_cell c0, fun i hi => ?_⟩
      have hi' : i < zs.length := by omega
      have := hcell i hi'
      rw [Addr.add_lit] at this
      rw [this, List.getElem_take]
      simp [hi']
end Go.Proofs.Ytdoadclblloddaa
