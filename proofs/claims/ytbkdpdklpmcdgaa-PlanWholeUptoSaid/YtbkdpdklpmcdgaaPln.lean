/-
  Plain: names put behind others, one literal's after another's.
-/
import Derived.Test.YtbkdpdklpmcdgaaPbd
set_option linter.unusedVariables false
set_option linter.unusedSimpArgs false
namespace Go.Proofs.Ytbkdpdklpmcdgaa
open Go.Maps Go.ChangeMaps Go.WideMaps Go.RowKit

theorem adds_mem (ys : List ByteArray) : ∀ (xs : List ByteArray) (x : ByteArray), x ∈ ys.foldl addS xs ↔ x ∈ xs ∨ x ∈ ys := by
  induction ys with
  | nil => intro xs x; simp
  | cons y r ih =>
    intro xs x
    rw [List.foldl_cons, ih, addS_mem, List.mem_cons, or_assoc]
theorem adds_one (xs acc : List ByteArray) (v : ByteArray) : (addS acc v).foldl addS xs = addS (acc.foldl addS xs) v := by
  by_cases h : v ∈ acc
  · have h1 : addS acc v = acc := if_pos (hasS_iff.2 h)
    have h2 : addS (acc.foldl addS xs) v = acc.foldl addS xs := if_pos (hasS_iff.2 ((adds_mem acc xs v).2 (.inr h)))
    rw [h1, h2]
  · have h1 : addS acc v = acc ++ [v] := if_neg (fun e => h (hasS_iff.1 e))
    rw [h1, List.foldl_append]
    rfl
theorem adds_fold : ∀ (args : List Tm) (xs acc : List ByteArray), (args.foldl putT acc).foldl addS xs = args.foldl putT (acc.foldl addS xs)
  | [], _, _ => rfl
  | t :: r, xs, acc => by
    rw [List.foldl_cons, List.foldl_cons, adds_fold r xs (putT acc t)]
    congr 1
    unfold putT
    split
    · rfl
    · exact adds_one xs acc t.v
/-- a literal's names, put one by one -/
theorem litN_adds (xs : List ByteArray) (f : Fl) : litN xs f = (litN [] f).foldl addS xs := (adds_fold f.args xs []).symm
/-- the literals that a list names, one behind the other: their names -/
theorem bound_step (body : List Fl) (xs : List Fl) (k : Int) : varsN (bindS body xs k) = if 0 ≤ k then (match body[k.toNat]? with
    | some f => if f.kind = 1 then (litN [] f).foldl addS (varsN xs) else varsN xs
    | none => varsN xs) else varsN xs := by
  unfold bindS
  by_cases h : 0 ≤ k
  · rw [if_pos h, if_pos h]
    cases body[k.toNat]? with
    | none => rfl
    | some f =>
      show varsN (if f.kind = 1 then xs ++ [f] else xs) = if f.kind = 1 then (litN [] f).foldl addS (varsN xs) else varsN xs
      by_cases hk : f.kind = 1
      · rw [if_pos hk, if_pos hk, ← litN_adds]
        unfold varsN
        rw [List.foldl_append]
        rfl
      · rw [if_neg hk, if_neg hk]
  · rw [if_neg h, if_neg h]
end Go.Proofs.Ytbkdpdklpmcdgaa
