/-
  Both Records, of any number and any bytes; what the laws' examples say.
-/
import Derived.Test.YtooiaadnhglifaaDoorWre
import Derived.Test.YtooiaadnhglifaaDoorWrr
import Derived.Test.YtooiaadnhglifaaDoorNil
import Derived.Laws.BytesString
import Derived.Laws.IdiomStrings
set_option linter.unusedVariables false
set_option linter.unusedSimpArgs false
namespace Go.Proofs.YtooiaadnhglifaaDoor
open Go.RowKit

/-- a record's bytes, an error's number -/
def recR (n : Int) (m : List UInt8) : List UInt8 := if 1 ≤ n ∧ m.length ≤ 8192 then recS n.toNat m else []
def recE (n : Int) (m : List UInt8) : Int := if n < 1 then 1 else if 8192 < m.length then 2 else 0
theorem record_both (n : Int) (hi : n ≤ 9223372036854775807) (q : Option Addr) (k c : Nat) (m : List UInt8) (hk : k = m.length) (w : World) (hR : Rd0 w q m) (hc : m.length ≤ c) (hE : Env w) :
    Calls Tryd.prog 10 #[.int .i64 n, .slice q k c] w fun r w' => ∃ q c, r = .returned (.tuple #[.slice q (recR n m).length c, .int .i64 (recE n m)]) ∧ Rd0 w' q (recR n m) ∧ Below w.heap.size w w' := by
  by_cases h1 : n < 1
  · have e1 : recR n m = [] := by unfold recR; rw [if_neg (by omega)]
    have e2 : recE n m = 1 := by unfold recE; rw [if_pos h1]
    rw [e1, e2]
    refine (record_low n h1 _ w).mono ?_
    rintro r w' ⟨rfl, hb⟩
    exact ⟨none, 0, rfl, .inl rfl, hb⟩
  by_cases h2 : 8192 < m.length
  · have e1 : recR n m = [] := by unfold recR; rw [if_neg (by omega)]
    have e2 : recE n m = 2 := by unfold recE; rw [if_neg h1, if_pos h2]
    rw [e1, e2]
    refine (record_long n (by omega) q k c (by omega) w).mono ?_
    rintro r w' ⟨rfl, hb⟩
    exact ⟨none, 0, rfl, .inl rfl, hb⟩
  · obtain ⟨n, rfl⟩ : ∃ j : Nat, n = (j : Int) := ⟨n.toNat, by omega⟩
    have e1 : recR (n : Int) m = recS n m := by unfold recR; rw [if_pos (by omega)]; rfl
    have e2 : recE (n : Int) m = 0 := by unfold recE; rw [if_neg h1, if_neg h2]
    rw [e1, e2]
    refine (record_good n (by omega) (by omega) q k c m hk w hR hc hE (by omega)).mono ?_
    rintro r w' ⟨v', rfl, hA, hb⟩
    obtain ⟨q, c, rfl, _, hR⟩ := hA.rd
    exact ⟨q, c, rfl, hR, hb⟩
theorem refrecord_both (n : Int) (hi : n ≤ 9223372036854775807) (q : Option Addr) (k c : Nat) (m : List UInt8) (hk : k = m.length) (w : World) (hR : Rd0 w q m) (hc : m.length ≤ c) :
    Calls Tryd.prog 11 #[.int .i64 n, .slice q k c] w fun r w' => ∃ q c, r = .returned (.tuple #[.slice q (recR n m).length c, .int .i64 (recE n m)]) ∧ Rd0 w' q (recR n m) ∧ Below w.heap.size w w' := by
  by_cases h1 : n < 1
  · have e1 : recR n m = [] := by unfold recR; rw [if_neg (by omega)]
    have e2 : recE n m = 1 := by unfold recE; rw [if_pos h1]
    rw [e1, e2]
    refine (refrecord_low n h1 _ w).mono ?_
    rintro r w' ⟨rfl, hb⟩
    exact ⟨none, 0, rfl, .inl rfl, hb⟩
  by_cases h2 : 8192 < m.length
  · have e1 : recR n m = [] := by unfold recR; rw [if_neg (by omega)]
    have e2 : recE n m = 2 := by unfold recE; rw [if_neg h1, if_pos h2]
    rw [e1, e2]
    refine (refrecord_long n (by omega) q k c (by omega) w).mono ?_
    rintro r w' ⟨rfl, hb⟩
    exact ⟨none, 0, rfl, .inl rfl, hb⟩
  · obtain ⟨n, rfl⟩ : ∃ j : Nat, n = (j : Int) := ⟨n.toNat, by omega⟩
    have e1 : recR (n : Int) m = recS n m := by unfold recR; rw [if_pos (by omega)]; rfl
    have e2 : recE (n : Int) m = 0 := by unfold recE; rw [if_neg h1, if_neg h2]
    rw [e1, e2]
    refine (refrecord_good n (by omega) (by omega) q k c m hk w hR hc (by omega)).mono ?_
    rintro r w' ⟨v', base, rfl, hA, hb⟩
    obtain ⟨q, c, rfl, _, hR⟩ := hA.rd
    exact ⟨q, c, rfl, hR, hb⟩

theorem run_back8 (w : World) (q : Option Addr) (m : List UInt8) (c : Nat) (hR : Rd0 w q m) : (convert 22 9 (.slice q m.length c)).run Tryd.prog w = .ok (.string ⟨m.toArray⟩) w := by
  by_cases h0 : m = []
  · subst h0
    rw [show ([] : List UInt8).length = 0 from rfl, run_convert_bytes_string w 22 9 5 _ 0 c Tryd.underlying22 Tryd.underlying5 Tryd.underlying9]
    cases q <;> simp [Conv.bytesToString, loadCells]
    all_goals rfl
  · rcases hR with h | ⟨b, off, rfl, hl, hc⟩
    · exact absurd h h0
    · exact run_convert_bytes_back (P := Tryd.prog) w 22 9 5 ⟨b, off, none⟩ c m Tryd.underlying22 Tryd.underlying5 Tryd.underlying9 (fun j hj => by
        rw [Addr.add_mid]; exact hc j _ (by simp [cells8, List.getElem?_eq_getElem hj]))

theorem wfixed_true : Ge.saysTrueL ((Ge.levL Tryd.prog (Ge.drawF Tryd.prog) (knS pre1) 30).call 9 [] ⟨Ge.tabsH tabs2, 2⟩) = true := by kernel_rfl
theorem wfixed_any (w : World) (h : Env w) : Calls Tryd.prog 9 #[] w fun e w' => e = .returned (.bool true) ∧ Below w.heap.size w w' :=
  Ge.groundL (Ge.levL_ok (Ge.drawF_ok Tryd.prog) (knS_ok pre1_ok) 30) (n := 2) tabs2 (by decide +kernel) (by decide) [] wfixed_true .nil w (tabs2_at h)
end Go.Proofs.YtooiaadnhglifaaDoor
