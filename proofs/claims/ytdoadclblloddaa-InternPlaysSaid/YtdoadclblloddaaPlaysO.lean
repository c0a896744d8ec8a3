/-
  Reading the argument of InternPlays: a slice of calls.
-/
import Derived.Test.YtdoadclblloddaaPlaysL
namespace Go.Proofs.Ytdoadclblloddaa
open Go.ChangeShapes Go.WideShapes Go.ChangeAt Go.WideMaps Go.WideElems Go.RowKit Go.Joins Go.Deep
namespace PlaysP
open PlaysLaw

theorem cells29 : Try.prog.cellsOf 29 = 4 := by kernel_rfl
theorem cells26 : Try.prog.cellsOf 26 = 1 := by kernel_rfl
theorem cells27 : Try.prog.cellsOf 27 = 1 := by kernel_rfl

theorem open22 {H : Type} {enc : TypeId × Value → H} {W : World} {fuel : Nat} {v : Value} {x : DataW H × List MemPlace} (h : DataW.trod enc Try.prog W 0 (fun _ => true) true fuel 22 [v] = some x) :
    ∃ (q : Option Addr) (os : List Opv) (c : Nat), v = .slice q os.length c ∧ Ops W W.heap.size q os ∧ (∀ o ∈ os, OpOk W W.heap.size o) ∧ os.length ≤ maxLen := by
  rcases open_slice Try.underlying22 h with ⟨hc, hx⟩ | ⟨a, len, cap, m, n, D, Pl, hc, _, hl, hm, hmm, hxx, hx⟩
  · simp at hc; subst hc
    exact ⟨none, [], 0, rfl, .inl rfl, fun o ho => by simp at ho, by simp⟩
  · simp at hc; subst hc
    simp at hmm; subst hmm
    have each : ∀ i, i < len → ∃ o : Opv, W.cell? (a.add (i * 4)) = some (.int .i64 o.K) ∧ W.cell? (a.add (i * 4 + 1)) = some (.int .i64 o.N) ∧ W.cell? (a.add (i * 4 + 2)) = some (.slice o.q o.vs.length o.c) ∧ W.cell? (a.add (i * 4 + 3)) = some (.slice o.r o.ns.length o.d) ∧ OpOk W W.heap.size o := by
      intro i hi
      obtain ⟨cs', h1, h2⟩ := hx i (by omega)
      rw [cells29] at h1
      obtain ⟨_, hlen, hcell⟩ := World.cells?_some h1
      obtain ⟨y0, y1, y2, y3, k, _, _, g0, g1, g2, g3⟩ := trod_struct4 Try.underlying29 h2
      match cs', hlen with
      | [v0, v1, v2, v3], _ =>
        have e0 := hcell 0 (by omega)
        have e1 := hcell 1 (by omega)
        have e2 := hcell 2 (by omega)
        have e3 := hcell 3 (by omega)
        rw [add_add] at e0 e1 e2 e3
        simp [cells3, cells26, cells27] at g0 g1 g2 g3
        obtain ⟨K, eK, _, zK⟩ := DataW.trod_int Try.underlying3 g0
        obtain ⟨N, eN, _, _⟩ := DataW.trod_int Try.underlying3 g1
        obtain ⟨q, vs, c, rfl, hv, hok, hlv, _⟩ := open26 g2
        obtain ⟨r, ns, d, rfl, hi2, _, hln, _⟩ := open27 g3
        simp at eK eN
        subst eK eN
        exact ⟨⟨K, N, q, vs, c, r, ns, d⟩, by simpa using e0, by simpa using e1, by simpa using e2, by simpa using e3, ⟨hv, hi2, hok, hlv, hln, zK⟩⟩
    haveI : Inhabited Opv := ⟨⟨0, 0, none, [], 0, none, [], 0⟩⟩
    obtain ⟨O, hO⟩ := choose_lt each
    refine ⟨some a, (List.range len).map O, m, by simp, ?_, fun o ho => ?_, by simp; omega⟩
    · rcases Nat.eq_zero_or_pos len with h0 | h0
      · subst h0; exact .inl rfl
      · obtain ⟨b, o, sp⟩ := a
        have c0 := (hO 0 h0).1
        have hsp : sp = none := by simpa [Addr.add] using World.cell?_spot c0
        subst hsp
        rw [Addr.add_lit] at c0
        refine .inr ⟨b, o, rfl, lt_of_cell c0, fun i hi => ?_⟩
        have hi' : i < len := by simpa using hi
        have := hO i hi'
        rw [Addr.add_lit, Addr.add_lit, Addr.add_lit, Addr.add_lit] at this
        simp only [List.getElem_map, List.getElem_range]
        exact ⟨this.1, by rw [Nat.add_assoc]; exact this.2.1, by rw [Nat.add_assoc]; exact this.2.2.1, by rw [Nat.add_assoc]; exact this.2.2.2.1⟩
    · obtain ⟨i, hi, rfl⟩ := List.mem_map.1 ho
      exact (hO i (List.mem_range.1 hi)).2.2.2.2

theorem open22v {H : Type} {enc : TypeId × Value → H} {W : World} {base : Nat} {v : Value} {d : DataW H} {p : List MemPlace} (hv : Value.okWide Try.prog W .any base 22 v) (h : DataW.Trod enc Try.prog W 0 (fun _ => true) true 22 v d p) :
    ∃ (q : Option Addr) (os : List Opv) (c : Nat), v = .slice q os.length c ∧ Ops W W.heap.size q os ∧ (∀ o ∈ os, OpOk W W.heap.size o) ∧ os.length ≤ maxLen := by
  obtain ⟨fuel, hf⟩ := h
  have hc : v.cells.toList = [v] := by
    simp only [Value.okWide, Try.underlying22, Cell.okWide] at hv
    cases v <;> simp_all [Cell.ok, Value.cells]
  rw [hc] at hf
  exact open22 hf
end PlaysP
end Go.Proofs.Ytdoadclblloddaa
