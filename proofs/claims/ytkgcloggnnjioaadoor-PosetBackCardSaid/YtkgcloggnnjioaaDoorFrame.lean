/-
  What every statement of this seat needs: what the listed variable gives ('Tab'), the start that meets the condition; the arguments, opened.
-/
import Derived.Test.YtkgcloggnnjioaaDoorClosed
import Derived.Test.YtkgcloggnnjioaaDoorBits
import Derived.Test.YtkgcloggnnjioaaDoorTie
import Derived.Test.YtkgcloggnnjioaaDoorCards
import Derived.ProofKit
import Derived.LaidMore
import Derived.OpenShut
import Derived.ShutString
import Derived.Stop.Joined
import Derived.Stop.LaidErr
import Derived.SevenTiedAt
import Derived.Lib.LaidTab
import Derived.Lib.SmallJoins
import Derived.Deep.Slices
import Derived.SizedLaws
namespace Go.Proofs.YtkgcloggnnjioaaDoor
open Go.ChangeShapes Go.WideShapes Go.ChangeAt Go.WideMaps Go.WideElems Go.RowKit Go.Joins Go.Deep

theorem laidOut : laidOutB Tryd.prog = true := by kernel_rfl
theorem own : ownKnob Tryd.prog.godebug = none := by kernel_rfl
def laid1 : List (String × DataW Unit) := [("math/bits.deBruijn64tab", Rows.laid_math_bits_deBruijn64tab)]
theorem tab_of_laid {W : World} (h : laidMetH Tryd.prog laid1 W) : Tab W ∧ 0 < W.heap.size := by
  rw [MakeChecks.laidMetH_plain _ _ _ (by kernel_rfl)] at h
  have ht : Lib.TabIs Tryd.prog W "math/bits.deBruijn64tab" .u8 (Lib.deBruijn64tab.map fun n : Nat => (n : Int)) := Lib.tabIs_of_head (g := 0) (t := 62) (e := 5) (n := 64) (rest := []) (by kernel_rfl) (by kernel_rfl) Tryd.underlying62 Tryd.underlying5 (by kernel_rfl) (by kernel_rfl) h
  have hT : Tab W := fun j hj => by
    rw [ht.cell (g := 0) (by kernel_rfl) j (by rw [List.length_map]; exact hj)]
    rw [List.getD_eq_getElem?_getD, List.getD_eq_getElem?_getD, List.getElem?_map, List.getElem?_eq_getElem hj]
    rfl
  exact ⟨hT, World.block_lt_of_cell? W ⟨0, 0, none⟩ (hT 0 (by decide))⟩
theorem door_met (os : Os) (args : Array Value) : laidMetH Tryd.prog laid1 ((World.doorLaid Tryd.prog 400 os).forCall (fun _ _ => 0) ⟨#[], args, []⟩).memory :=
  laidMetH_of_parts3 (fuel := 8) (laidMet_of_run' 8 (by kernel_rfl) (by kernel_rfl)) (by kernel_rfl) (by kernel_rfl)

theorem bytes36 : Tryd.prog.bytesOf 36 = 8 := by kernel_rfl
theorem cells36 : Tryd.prog.cellsOf 36 = 1 := by kernel_rfl
theorem cells44 : Tryd.prog.cellsOf 44 = 2 := by kernel_rfl
theorem cells3 : Tryd.prog.cellsOf 3 = 1 := by kernel_rfl
theorem lt_of_cell {W : World} {b o : Nat} {u : Value} (h : W.cell? ⟨b, o, none⟩ = some u) : b < W.heap.size := World.block_lt_of_cell? W ⟨b, o, none⟩ h

/-- a slice of masks, opened -/
theorem open24 {H : Type} {enc : TypeId × Value → H} {W : World} {fuel : Nat} {v : Value} {x : DataW H × List MemPlace} (h : DataW.trod enc Tryd.prog W 0 (fun _ => true) true fuel 24 [v] = some x) :
    ∃ (q : Option Addr) (ms : List Nat) (c : Nat), v = .slice q ms.length c ∧ Us W W.heap.size q ms ∧ Small ms ∧ ms.length ≤ c ∧ (x.1 = .nil ∧ ms = [] ∨ ∃ e s, x.1 = .slice e s ∧ e.length = ms.length) := by
  rcases open_ints Tryd.underlying24 Tryd.underlying36 cells36 h with ⟨hc, hx⟩ | ⟨a, len, cap, zs, hc, _, hl, hm, hz, hxx, hcell, hwf⟩
  · simp at hc; subst hc
    exact ⟨none, [], 0, rfl, .inl rfl, fun m hm => (by cases hm), by simp, .inl ⟨by rw [hx], rfl⟩⟩
  · simp at hc; subst hc
    simp at hz
    have hwf' : ∀ n ∈ zs, 0 ≤ n ∧ n < 18446744073709551616 := fun n hn => by
      have := bounds_u64 (hwf n hn)
      omega
    have hml : ((zs.take len).map Int.toNat).length = len := by simp; omega
    refine ⟨some a, (zs.take len).map Int.toNat, cap, by rw [hml], ?_, fun m hm => ?_, by rw [hml]; exact hl, .inr ⟨_, _, by rw [hxx], by rw [hml]; simp [lits]; omega⟩⟩
    · rcases Nat.eq_zero_or_pos len with h0 | h0
      · subst h0; exact .inl rfl
      · obtain ⟨b, o, sp⟩ := a
        have c0 := hcell 0 (by omega)
        have hsp : sp = none := by simpa [Addr.add] using World.cell?_spot c0
        subst hsp
        rw [Addr.add_lit] at c0
        refine .inr ⟨b, o, rfl, lt_of_cell c0, fun i hi => ?_⟩
        have hi' : i < zs.length := by rw [hml] at hi; omega
        have hci := hcell i hi'
        rw [Addr.add_lit] at hci
        rw [hci]
        unfold mask
        have hnn := hwf' zs[i] (List.getElem_mem hi')
        simp only [List.getElem_map, List.getElem_take]
        rw [List.getD_eq_getElem?_getD, List.getElem?_eq_getElem hi']
        simp only [Option.getD_some]
        rw [show ((zs[i].toNat : Nat) : Int) = zs[i] by omega]
    · obtain ⟨n, hn, rfl⟩ := List.mem_map.1 hm
      have := hwf' n (List.mem_of_mem_take hn)
      omega
/-- a slice of pairs, opened -/
theorem open22 {H : Type} {enc : TypeId × Value → H} {W : World} {fuel : Nat} {v : Value} {x : DataW H × List MemPlace} (h : DataW.trod enc Tryd.prog W 0 (fun _ => true) true fuel 22 [v] = some x) :
    ∃ (q : Option Addr) (ps : List (Int × Int)) (c : Nat), v = .slice q ps.length c ∧ Ps W W.heap.size q ps ∧ ps.length ≤ maxLen := by
  rcases open_slice Tryd.underlying22 h with ⟨hc, hx⟩ | ⟨a, len, cap, m, n, D, Pl, hc, _, hl, hm, hmm, hxx, hel⟩
  · simp at hc; subst hc
    exact ⟨none, [], 0, rfl, .inl rfl, by simp⟩
  · simp at hc; subst hc
    simp at hmm; subst hmm
    rw [cells44] at hel
    have each : ∀ i, i < len → ∃ q : Int × Int, W.cell? (a.add (i * 2)) = some (.int .i64 q.1) ∧ W.cell? (a.add (i * 2 + 1)) = some (.int .i64 q.2) := fun i hi => by
      obtain ⟨cs', h1, h2⟩ := hel i (by omega)
      obtain ⟨hsome, hlen, hcell⟩ := World.cells?_some h1
      obtain ⟨xs, k, _, _, _, hxl, hd⟩ := DataW.trod_array Tryd.underlying44 h2
      rw [cells3] at hd
      match cs', hlen with
      | [u0, u1], _ =>
        have e0 := hd 0 (by decide)
        have e1 := hd 1 (by decide)
        have x0 : xs[0]? = some xs[0] := List.getElem?_eq_getElem (by omega)
        have x1 : xs[1]? = some xs[1] := List.getElem?_eq_getElem (by omega)
        rw [x0] at e0
        rw [x1] at e1
        simp at e0 e1
        obtain ⟨n0, f0, _, _⟩ := DataW.trod_int Tryd.underlying3 e0
        obtain ⟨n1, f1, _, _⟩ := DataW.trod_int Tryd.underlying3 e1
        simp at f0 f1
        have g0 := hcell 0 (by decide)
        have g1 := hcell 1 (by decide)
        refine ⟨(n0, n1), ?_, ?_⟩
        · rw [← f0]; rw [Addr.add_add] at g0; simpa using g0
        · rw [← f1]; rw [Addr.add_add] at g1; simpa using g1
    haveI : Inhabited (Int × Int) := ⟨(0, 0)⟩
    obtain ⟨Q, hQ⟩ := choose_lt each
    have hql : ((List.range len).map Q).length = len := by simp
    refine ⟨some a, (List.range len).map Q, _, by rw [hql], ?_, by rw [hql]; omega⟩
    rcases Nat.eq_zero_or_pos len with h0 | h0
    · subst h0; exact .inl rfl
    · obtain ⟨b, o, sp⟩ := a
      have c0 := (hQ 0 (by omega)).1
      have hsp : sp = none := by simpa [Addr.add] using World.cell?_spot c0
      subst hsp
      rw [Addr.add_lit] at c0
      refine .inr ⟨b, o, rfl, lt_of_cell c0, fun i hi => ?_⟩
      have hi' : i < len := by rw [hql] at hi; exact hi
      have := hQ i hi'
      rw [Addr.add_lit, Addr.add_lit, ← Nat.add_assoc] at this
      simp only [List.getElem_map, List.getElem_range]
      exact this
end Go.Proofs.YtkgcloggnnjioaaDoor
