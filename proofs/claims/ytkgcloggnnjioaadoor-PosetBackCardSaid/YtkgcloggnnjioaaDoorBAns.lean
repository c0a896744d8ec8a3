/-
  What Build and the plain Build answer: one answer.
-/
import Derived.Test.YtkgcloggnnjioaaDoorBuild
import Derived.Test.YtkgcloggnnjioaaDoorRefB
namespace Go.Proofs.YtkgcloggnnjioaaDoor
open Go.RowKit

open Classical in
/-- the error of Build -/
noncomputable def ansE (n : Int) (ps : List (Int × Int)) : Int := if n < 1 ∨ 64 < n ∨ okPs n ps = false then 1 else if OrdM (closedM n.toNat (natP ps)) then 0 else 9
open Classical in
/-- its masks -/
noncomputable def ansM (n : Int) (ps : List (Int × Int)) : List Nat := if ansE n ps = 0 then closedM n.toNat (natP ps) else []
theorem ansE_bad {n : Int} {ps : List (Int × Int)} (h : n < 1 ∨ 64 < n ∨ okPs n ps = false) : ansE n ps = 1 ∧ ansM n ps = [] := by
  have e : ansE n ps = 1 := by unfold ansE; rw [if_pos h]
  exact ⟨e, by unfold ansM; rw [e, if_neg (by decide)]⟩
theorem ansE_ord {n : Nat} {ps : List (Int × Int)} (h1 : 1 ≤ n) (h2 : n ≤ 64) (hk : okPs n ps = true) (ho : OrdM (closedM n (natP ps))) : ansE n ps = 0 ∧ ansM n ps = closedM n (natP ps) := by
  have e : ansE n ps = 0 := by unfold ansE; rw [if_neg (by rw [hk]; simp; omega), Int.toNat_natCast, if_pos ho]
  exact ⟨e, by unfold ansM; rw [e, if_pos rfl, Int.toNat_natCast]⟩
theorem ansE_not {n : Nat} {ps : List (Int × Int)} (h1 : 1 ≤ n) (h2 : n ≤ 64) (hk : okPs n ps = true) (ho : ¬ OrdM (closedM n (natP ps))) : ansE n ps = 9 ∧ ansM n ps = [] := by
  have e : ansE n ps = 9 := by unfold ansE; rw [if_neg (by rw [hk]; simp; omega), Int.toNat_natCast, if_neg ho]
  exact ⟨e, by unfold ansM; rw [e, if_neg (by decide)]⟩
theorem ansM_ord {n : Int} {ps : List (Int × Int)} (h : ansE n ps = 0) : ∃ m : Nat, n = m ∧ 1 ≤ m ∧ m ≤ 64 ∧ okPs m ps = true ∧ OrdM (closedM m (natP ps)) ∧ ansM n ps = closedM m (natP ps) := by
  by_cases hb : n < 1 ∨ 64 < n ∨ okPs n ps = false
  · rw [(ansE_bad hb).1] at h; cases h
  · obtain ⟨m, rfl⟩ : ∃ m : Nat, n = m := ⟨n.toNat, by omega⟩
    have hk : okPs m ps = true := by
      cases hh : okPs m ps with
      | true => rfl
      | false => exact absurd (.inr (.inr hh)) hb
    by_cases ho : OrdM (closedM m (natP ps))
    · exact ⟨m, rfl, by omega, by omega, hk, ho, (ansE_ord (by omega) (by omega) hk ho).2⟩
    · rw [(ansE_not (by omega) (by omega) hk ho).1] at h; cases h
theorem ansM_nil {n : Int} {ps : List (Int × Int)} (h : ansE n ps ≠ 0) : ansM n ps = [] := by unfold ansM; rw [if_neg h]
theorem ansM_len (n : Int) (ps : List (Int × Int)) : (ansM n ps).length ≤ 64 := by
  by_cases h : ansE n ps = 0
  · obtain ⟨m, _, _, h2, _, _, e⟩ := ansM_ord h
    rw [e, closedM_len]; exact h2
  · rw [ansM_nil h]; simp
theorem ansM_small (n : Int) (ps : List (Int × Int)) : Small (ansM n ps) := by
  by_cases h : ansE n ps = 0
  · obtain ⟨m, _, _, h2, hk, _, e⟩ := ansM_ord h
    rw [e]; exact small_closedM h2 (natP_lt hk)
  · rw [ansM_nil h]; intro m hm; cases hm

/-- an answer of Build -/
def BAns (n : Int) (ps : List (Int × Int)) (w : World) (e : Ending) (W' : World) : Prop :=
  (∃ p c, e = .returned (.tuple #[.slice p (ansM n ps).length c, .int .i64 (ansE n ps)]) ∧ Us W' W'.heap.size p (ansM n ps)) ∧ Below w.heap.size w W'

theorem build_all (n : Int) (ps : List (Int × Int)) (p : Option Addr) (c : Nat) (w : World) (hz : ps.length ≤ maxLen) (hp : Ps w w.heap.size p ps) (hT : Tab w) (hg : 0 < w.heap.size) :
    Calls Tryd.prog 12 #[.int .i64 n, .slice p ps.length c] w (BAns n ps w) := by
  by_cases hb : n < 1 ∨ 64 < n
  · refine (build_n n ps p c w hb).mono fun e W' ⟨h1, h2⟩ => ?_
    obtain ⟨e1, e2⟩ := ansE_bad (n := n) (ps := ps) (by rcases hb with h | h; exact .inl h; exact .inr (.inl h))
    unfold BAns
    rw [e1, e2]
    exact ⟨⟨none, 0, h1, .inl rfl⟩, h2⟩
  · obtain ⟨m, rfl⟩ : ∃ m : Nat, n = m := ⟨n.toNat, by omega⟩
    refine (build_in m ps p c w (by omega) (by omega) hz hp hT hg).mono fun e W' ⟨h1, h2⟩ => ?_
    unfold BAns
    rcases h1 with ⟨h3, h4⟩ | ⟨h3, h4, g, h5, h6, h7⟩ | ⟨h3, h4, h5⟩
    · obtain ⟨e1, e2⟩ := ansE_bad (n := m) (ps := ps) (.inr (.inr h3))
      rw [e1, e2]
      exact ⟨⟨none, 0, h4, .inl rfl⟩, h2⟩
    · obtain ⟨e1, e2⟩ := ansE_ord (by omega) (by omega) h3 h4
      rw [e1, e2, closedM_len]
      exact ⟨⟨_, _, h5, Row.us h7 (World.rowIs.lt h7)⟩, h2⟩
    · obtain ⟨e1, e2⟩ := ansE_not (by omega) (by omega) h3 h4
      rw [e1, e2]
      exact ⟨⟨none, 0, h5, .inl rfl⟩, h2⟩
theorem rbuild_all (n : Int) (ps : List (Int × Int)) (p : Option Addr) (c : Nat) (w : World) (hz : ps.length ≤ maxLen) (hp : Ps w w.heap.size p ps) :
    Calls Tryd.prog 13 #[.int .i64 n, .slice p ps.length c] w (BAns n ps w) := by
  by_cases hb : n < 1 ∨ 64 < n
  · refine (rbuild_n n ps p c w hb).mono fun e W' ⟨h1, h2⟩ => ?_
    obtain ⟨e1, e2⟩ := ansE_bad (n := n) (ps := ps) (by rcases hb with h | h; exact .inl h; exact .inr (.inl h))
    unfold BAns
    rw [e1, e2]
    exact ⟨⟨none, 0, h1, .inl rfl⟩, h2⟩
  · obtain ⟨m, rfl⟩ : ∃ m : Nat, n = m := ⟨n.toNat, by omega⟩
    refine (rbuild_in m ps p c w (by omega) (by omega) hz hp).mono fun e W' ⟨h1, h2⟩ => ?_
    unfold BAns
    rcases h1 with ⟨h3, h4⟩ | ⟨h3, h4, g, cap, h5, h7⟩ | ⟨h3, h4, h5⟩
    · obtain ⟨e1, e2⟩ := ansE_bad (n := m) (ps := ps) (.inr (.inr h3))
      rw [e1, e2]
      exact ⟨⟨none, 0, h4, .inl rfl⟩, h2⟩
    · obtain ⟨e1, e2⟩ := ansE_ord (by omega) (by omega) h3 h4
      rw [e1, e2, closedM_len]
      exact ⟨⟨_, _, h5, h7.us h7.base.2⟩, h2⟩
    · obtain ⟨e1, e2⟩ := ansE_not (by omega) (by omega) h3 h4
      rw [e1, e2]
      exact ⟨⟨none, 0, h5, .inl rfl⟩, h2⟩
end Go.Proofs.YtkgcloggnnjioaaDoor
