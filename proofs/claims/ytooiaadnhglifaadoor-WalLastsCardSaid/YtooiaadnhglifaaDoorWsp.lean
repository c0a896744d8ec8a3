/-
  What is scanned.
-/
import Derived.Test.YtooiaadnhglifaaDoorWsh
set_option linter.unusedVariables false
set_option linter.unusedSimpArgs false
namespace Go.Proofs.YtooiaadnhglifaaDoor
open Go.RowKit

def wholeS (b : List UInt8) : Option (List UInt8) :=
  if 4 ≤ b.length ∧ 8 ≤ beS (b.take 4) ∧ beS (b.take 4) ≤ 8200 ∧ 4 + beS (b.take 4) ≤ b.length then
    if 5 ≤ (b.drop (4 + beS (b.take 4))).length ∧ (b.drop (4 + beS (b.take 4))).take 5 = wendS ((b.drop 4).take (beS (b.take 4))) then some ((b.drop 4).take (beS (b.take 4))) else none
  else none
theorem wholeS_len {b m : List UInt8} (h : wholeS b = some m) : 8 ≤ m.length ∧ m.length ≤ 8200 ∧ m.length + 9 ≤ b.length := by
  unfold wholeS at h
  split at h
  · rename_i h1
    split at h
    · rename_i h2
      have h3 := h2.1
      rw [List.length_drop] at h3
      cases h
      rw [List.length_take, List.length_drop]
      omega
    · cases h
  · cases h
/-- first, payloads, end -/
def scanG (b : List UInt8) (first : Nat) (out : List (List UInt8)) (e : Nat) : Nat × List (List UInt8) × Nat :=
  match h : wholeS (b.drop e) with
  | none => (first, out, e)
  | some m => if okN (beS (m.take 8)) first out.length = true then scanG b (if out.length = 0 then beS (m.take 8) else first) (out ++ [m.drop 8]) (e + (m.length + 9)) else (first, out, e)
termination_by b.length - e
decreasing_by
  have := wholeS_len h
  rw [List.length_drop] at this
  omega
theorem scanG_none {b : List UInt8} {first e : Nat} {out : List (List UInt8)} (h : wholeS (b.drop e) = none) : scanG b first out e = (first, out, e) := by
  rw [scanG]; split
  · rfl
  · rename_i m hm; rw [h] at hm; cases hm
theorem scanG_bad {b m : List UInt8} {first e : Nat} {out : List (List UInt8)} (h : wholeS (b.drop e) = some m) (h2 : okN (beS (m.take 8)) first out.length = false) : scanG b first out e = (first, out, e) := by
  rw [scanG]; split
  · rfl
  · rename_i m' hm; rw [h] at hm; cases hm; rw [if_neg (by rw [h2]; decide)]
theorem scanG_step {b m : List UInt8} {first e : Nat} {out : List (List UInt8)} (h : wholeS (b.drop e) = some m) (h2 : okN (beS (m.take 8)) first out.length = true) :
    scanG b first out e = scanG b (if out.length = 0 then beS (m.take 8) else first) (out ++ [m.drop 8]) (e + (m.length + 9)) := by
  rw [scanG]; split
  · rename_i hm; rw [h] at hm; cases hm
  · rename_i m' hm; rw [h] at hm; cases hm; rw [if_pos h2]
end Go.Proofs.YtooiaadnhglifaaDoor
