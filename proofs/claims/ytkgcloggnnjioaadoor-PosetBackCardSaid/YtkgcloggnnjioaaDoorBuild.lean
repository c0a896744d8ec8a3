/-
  Contract: poset.Build: an order of pairs, or what is wrong.
-/
import Derived.Test.YtkgcloggnnjioaaDoorClosed
import Derived.Test.YtkgcloggnnjioaaDoorRight
namespace Go.Proofs.YtkgcloggnnjioaaDoor
open Go.RowKit

/-- a pair of labels of n -/
def okP (n : Int) (q : Int × Int) : Bool := decide (0 ≤ q.1 ∧ q.1 < n) && decide (0 ≤ q.2 ∧ q.2 < n)
def okPs (n : Int) (ps : List (Int × Int)) : Bool := ps.all (okP n)
def natP (ps : List (Int × Int)) : List (Nat × Nat) := ps.map fun q => (q.1.toNat, q.2.toNat)
theorem natP_len (ps : List (Int × Int)) : (natP ps).length = ps.length := by unfold natP; simp
theorem okP_iff (n : Int) (q : Int × Int) : okP n q = true ↔ (0 ≤ q.1 ∧ q.1 < n) ∧ 0 ≤ q.2 ∧ q.2 < n := by unfold okP; simp
theorem natP_lt {n : Nat} {ps : List (Int × Int)} (h : okPs n ps = true) : ∀ q ∈ natP ps, q.1 < n ∧ q.2 < n := by
  intro q hq
  unfold natP at hq
  obtain ⟨r, hr, rfl⟩ := List.mem_map.1 hq
  unfold okPs at h
  have := (okP_iff n r).1 (List.all_eq_true.1 h r hr)
  exact ⟨by dsimp only; omega, by dsimp only; omega⟩
theorem ups_natP {n : Nat} {ps : List (Int × Int)} (h : okPs n ps = true) : ups (natP ps) = ps := by
  unfold ups natP
  rw [List.map_map]
  conv => rhs; rw [← List.map_id ps]
  apply List.map_congr_left
  intro r hr
  unfold okPs at h
  have := (okP_iff n r).1 (List.all_eq_true.1 h r hr)
  show (((r.1.toNat : Nat) : Int), ((r.2.toNat : Nat) : Int)) = r
  rw [show ((r.1.toNat : Nat) : Int) = r.1 by omega, show ((r.2.toNat : Nat) : Int) = r.2 by omega]
theorem natP_ups (ps : List (Nat × Nat)) : natP (ups ps) = ps := by
  unfold ups natP
  rw [List.map_map]
  conv => rhs; rw [← List.map_id ps]
  apply List.map_congr_left
  intro r _
  rfl

set_option maxRecDepth 100000 in
set_option maxHeartbeats 4000000 in
theorem build_n (n : Int) (ps : List (Int × Int)) (p : Option Addr) (c : Nat) (w : World) (h : n < 1 ∨ 64 < n) :
    Calls Tryd.prog 12 #[.int .i64 n, .slice p ps.length c] w fun e W' => e = .returned (.tuple #[.slice none 0 0, .int .i64 1]) ∧ Below w.heap.size w W' := by
  rcases h with h | h
  · go_enter Tryd.func12, Tryd.ntmps12
    go_wp2
    go_ret2
    exact ⟨rfl, Below.refl _ _⟩
  · have h1 : ¬ n < 1 := by omega
    go_enter Tryd.func12, Tryd.ntmps12
    go_wp2
    go_ret2
    exact ⟨rfl, Below.refl _ _⟩

/-- what Build answers of numbers that are labels, or not -/
def BuildP (n : Nat) (ps : List (Int × Int)) (w : World) (e : Ending) (W' : World) : Prop :=
  ((okPs n ps = false ∧ e = .returned (.tuple #[.slice none 0 0, .int .i64 1])) ∨
   (okPs n ps = true ∧ OrdM (closedM n (natP ps)) ∧ ∃ g, e = .returned (.tuple #[.slice (some ⟨g, 0, none⟩) n n, .int .i64 0]) ∧ w.heap.size ≤ g ∧ Row W' g (closedM n (natP ps))) ∨
   (okPs n ps = true ∧ ¬ OrdM (closedM n (natP ps)) ∧ e = .returned (.tuple #[.slice none 0 0, .int .i64 9]))) ∧ Below w.heap.size w W'

set_option maxRecDepth 100000 in
set_option maxHeartbeats 4000000 in
theorem build_in (n : Nat) (ps : List (Int × Int)) (p : Option Addr) (c : Nat) (w : World) (h1 : 1 ≤ n) (hn : n ≤ 64) (hz : ps.length ≤ maxLen) (hp : Ps w w.heap.size p ps) (hT : Tab w) (hg : 0 < w.heap.size) :
    Calls Tryd.prog 12 #[.int .i64 n, .slice p ps.length c] w (BuildP n ps w) := by
  have HPS := Lib.hid hp
  have HT := Lib.hid hT
  have HZ := Lib.hid hz
  have g1 : ¬ (n : Int) < 1 := by omega
  have g2 : ¬ (64 : Int) < (n : Int) := by omega
  unfold maxLen at hz
  clear hp hT
  go_enter Tryd.func12, Tryd.ntmps12
  go_wp2_with fail
  go_loopw [17] (fun i wr => ∃ j : Nat, j ≤ ps.length ∧ i = .int .i64 j ∧ Hid (okPs n (ps.take j) = true) ∧ Below w.heap.size w wr) (fun i _ => ps.length - (intOf i).toNat)
  case atStart => exact ⟨0, Nat.zero_le _, rfl, Lib.hid rfl, Below.refl _ _⟩
  case round =>
    obtain ⟨j, hj, rfl, HOK, hb⟩ := hrel
    have HB := Lib.hid hb
    clear hb
    by_cases hlt : j < ps.length
    · obtain ⟨b, off, rfl, hbl, x0, x1⟩ := (HPS.out.below HB.out (Nat.le_refl _)).at j hlt
      have hall : okPs n ps = true → okP n ps[j] = true := fun h => List.all_eq_true.1 h _ (List.getElem_mem hlt)
      have hsnoc : okP n ps[j] = true → okPs n (ps.take (j + 1)) = true := fun h => by
        rw [List.take_succ_eq_append_getElem hlt]
        have := HOK.out
        unfold okPs at this ⊢
        rw [List.all_append, this]
        simp [h]
      have hoP : okP n ps[j] = (decide (0 ≤ ps[j].1 ∧ ps[j].1 < n) && decide (0 ≤ ps[j].2 ∧ ps[j].2 < n)) := rfl
      generalize ps[j] = q at *
      obtain ⟨q1, q2⟩ := q
      dsimp only at x0 x1 hoP
      have HA1 := Lib.hid (fun wx => (among_any n q1 wx).mono (fun e w' h => (⟨h.1, h.2.symm⟩ : e = .returned (.bool (decide (0 ≤ q1 ∧ q1 < n))) ∧ wx = w')))
      have HA2 := Lib.hid (fun wx => (among_any n q2 wx).mono (fun e w' h => (⟨h.1, h.2.symm⟩ : e = .returned (.bool (decide (0 ≤ q2 ∧ q2 < n))) ∧ wx = w')))
      have HBA := Lib.hid (HB.out.alloc HB.out.size (.cells #[.int .i64 q1, .int .i64 q2] 44))
      have HALL := Lib.hid hall
      have HSN := Lib.hid hsnoc
      clear hall hsnoc
      cases e1 : decide (0 ≤ q1 ∧ q1 < (n : Int)) with
      | false =>
        rw [e1] at HA1 hoP
        have HBAD := Lib.hid (show okPs n ps = false by rw [Bool.eq_false_iff]; intro ht; have := HALL.out ht; rw [hoP] at this; simp at this)
        clear e1 hoP HA2
        go_wp2_with (go_at_call 30; refine (HA1.out _).mono ?_; rintro e w' ⟨rfl, rfl⟩)
        go_ret2
        exact ⟨.inl ⟨HBAD.out, rfl⟩, HBA.out⟩
      | true =>
        rw [e1] at HA1 hoP
        cases e2 : decide (0 ≤ q2 ∧ q2 < (n : Int)) with
        | false =>
          rw [e2] at HA2 hoP
          have HBAD := Lib.hid (show okPs n ps = false by rw [Bool.eq_false_iff]; intro ht; have := HALL.out ht; rw [hoP] at this; simp at this)
          clear e1 e2 hoP
          have tok1 : True := trivial
          go_wp2_with (first | (go_at_call 30; have _t := tok1; refine (HA1.out _).mono ?_; rintro e w' ⟨rfl, rfl⟩; clear tok1) | (go_at_call 30; refine (HA2.out _).mono ?_; rintro e w' ⟨rfl, rfl⟩))
          go_ret2
          exact ⟨.inl ⟨HBAD.out, rfl⟩, HBA.out⟩
        | true =>
          rw [e2] at HA2 hoP
          have HOK2 := Lib.hid (HSN.out hoP)
          clear e1 e2 hoP
          have tok1 : True := trivial
          go_wp2_with (first | (go_at_call 30; have _t := tok1; refine (HA1.out _).mono ?_; rintro e w' ⟨rfl, rfl⟩; clear tok1) | (go_at_call 30; refine (HA2.out _).mono ?_; rintro e w' ⟨rfl, rfl⟩))
          go_roundw
          case rel => exact ⟨j + 1, by omega, by go_num, HOK2, HBA.out⟩
          case measure => simp [intOf]; omega
    · have hok : okPs n ps = true := by have := HOK.out; rw [List.take_of_length_le (by omega)] at this; exact this
      have HPW := Lib.hid (show Ps wr wr.heap.size p (ups (natP ps)) from by
        rw [ups_natP hok]; exact (HPS.out.below HB.out (Nat.le_refl _)).up HB.out.size)
      have HC := Lib.hid (closed_any n (natP ps) p c wr h1 hn (natP_lt hok) (by rw [natP_len]; exact HZ.out) HPW.out)
      rw [natP_len] at HC
      have HTW := Lib.hid (HT.out.below HB.out hg)
      have HOKA := Lib.hid hok
      clear hok HPW
      go_wp2_with fail
      refine HC.out.mono ?_
      rintro e W1 ⟨rfl, hrow, hb1⟩
      have HR := Lib.hid (right_any (closedM n (natP ps)) (some ⟨wr.heap.size, 0, none⟩) n W1 (by rw [closedM_len]; unfold maxLen; omega) (small_closedM hn (natP_lt HOKA.out)) (Row.us hrow hrow.lt) (HTW.out.below hb1 (by have := HB.out.size; omega)) (by have := hb1.size; have := HB.out.size; omega))
      rw [closedM_len] at HR
      have HROW := Lib.hid hrow
      have HB1 := Lib.hid (HB.out.trans (hb1.mono HB.out.size))
      have HSZ := Lib.hid (show w.heap.size ≤ wr.heap.size from HB.out.size)
      clear hrow hb1
      by_cases ho : OrdM (closedM n (natP ps))
      · rw [ordB_true ho] at HR
        have HO := Lib.hid ho
        clear ho
        go_wp2_with fail
        refine HR.out.mono ?_
        rintro e W2 ⟨rfl, hb2⟩
        have HB2 := Lib.hid (HB1.out.trans (hb2.mono HB1.out.size))
        have HROW2 := Lib.hid (show Row W2 wr.heap.size (closedM n (natP ps)) from World.rowIs.of_block HROW.out (hb2.block _ HROW.out.lt))
        clear hb2
        go_wp2_with fail
        go_ret2
        exact ⟨.inr (.inl ⟨HOKA.out, HO.out, wr.heap.size, rfl, HSZ.out, HROW2.out⟩), HB2.out⟩
      · rw [ordB_false ho] at HR
        have HO := Lib.hid ho
        clear ho
        go_wp2_with fail
        refine HR.out.mono ?_
        rintro e W2 ⟨rfl, hb2⟩
        have HB2 := Lib.hid (HB1.out.trans (hb2.mono HB1.out.size))
        clear hb2
        go_wp2_with fail
        go_ret2
        exact ⟨.inr (.inr ⟨HOKA.out, HO.out, rfl⟩), HB2.out⟩
end Go.Proofs.YtkgcloggnnjioaaDoor
