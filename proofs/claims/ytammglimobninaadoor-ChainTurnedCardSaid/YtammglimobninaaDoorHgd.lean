/-
  Entries: what is in one, and which may be. Contracts: chain.Good, and the reference's.
-/
import Derived.Test.YtammglimobninaaDoorWrd
import Derived.Test.YtammglimobninaaDoorNameR
set_option linter.unusedVariables false
set_option linter.unusedSimpArgs false
namespace Go.Proofs.YtammglimobninaaDoor
open Go.RowKit Nm

structure En where
  user : ByteArray
  tick : Int
  text : ByteArray
  dig : List UInt8
  len : dig.length = 32
def En.cells (e : En) : List Value := .string e.user :: .int .i64 e.tick :: .string e.text :: cells8 e.dig
def goodB (e : En) : Bool := nameB e.user && (decide (0 ≤ e.tick) && (decide (e.tick ≤ 1099511627776) && decide (e.text.size ≤ 4096)))
/-- the sizes of an entry's parts -/
structure En.Ok (e : En) : Prop where
  dig : e.dig.length = 32
  user : e.user.size ≤ maxLen
  text : e.text.size ≤ maxLen

theorem good_cases (e : En) : (nameB e.user = false ∧ goodB e = false) ∨ (nameB e.user = true ∧ e.tick < 0 ∧ goodB e = false) ∨ (nameB e.user = true ∧ 0 ≤ e.tick ∧ 1099511627776 < e.tick ∧ goodB e = false) ∨
    (nameB e.user = true ∧ 0 ≤ e.tick ∧ e.tick ≤ 1099511627776 ∧ 4096 < (e.text.size : Int) ∧ goodB e = false) ∨ (nameB e.user = true ∧ 0 ≤ e.tick ∧ e.tick ≤ 1099511627776 ∧ (e.text.size : Int) ≤ 4096 ∧ goodB e = true) := by
  rcases Bool.eq_false_or_eq_true (nameB e.user) with h1 | h1
  · by_cases h2 : 0 ≤ e.tick
    · by_cases h3 : e.tick ≤ 1099511627776
      · by_cases h4 : e.text.size ≤ 4096
        · exact .inr (.inr (.inr (.inr ⟨h1, h2, h3, by omega, by simp [goodB, h1, h2, h3, h4]⟩)))
        · exact .inr (.inr (.inr (.inl ⟨h1, h2, h3, by omega, by simp [goodB, h4]⟩)))
      · exact .inr (.inr (.inl ⟨h1, h2, by omega, by simp [goodB, h3]⟩))
    · exact .inr (.inl ⟨h1, by omega, by simp [goodB, h2]⟩)
  · exact .inl ⟨h1, by simp [goodB, h1]⟩

set_option maxRecDepth 100000 in
set_option maxHeartbeats 1000000 in
theorem good_any (e : En) (hk : e.Ok) (w : World) :
    Calls Tryd.prog 14 #[.agg e.cells.toArray] w fun r w' => r = .returned (.bool (goodB e)) ∧ Below w.heap.size w w' := by
  have hu := hk.user
  have hx := hk.text
  unfold maxLen at hx
  have HB := Lib.hid (show Below w.heap.size w (w.alloc (.cells e.cells.toArray 24)) from below1 _ _)
  have hB := Bk.new w 24 e.cells.toArray
  have c0 := hB.cell 0 (.string e.user) rfl
  have c1 := hB.cell 1 (.int .i64 e.tick) rfl
  have c2 := hB.cell 2 (.string e.text) rfl
  clear hB
  go_enter Tryd.func14, Tryd.ntmps14
  go_upto_region 1 with (fail)
  generalize w.alloc (.cells e.cells.toArray 24) = WA at *
  rcases good_cases e with ⟨h1, hg⟩ | ⟨h1, h2, hg⟩ | ⟨h1, h2, h3, hg⟩ | ⟨h1, h2, h3, h4, hg⟩ | ⟨h1, h2, h3, h4, hg⟩
  all_goals
    have HG := Lib.hid hg
    clear hg
    have HU := Lib.hid hu
    clear hu
    go_wp2_with (go_at_call 34; refine (name_any e.user _ HU.out).mono ?_; rintro r w1 ⟨rfl, rfl⟩; rw [h1])
    all_goals first
      | (exfalso; omega)
      | (go_ret; exact ⟨by rw [HG.out]; first | rfl | simp [*], HB.out⟩)
      | exact ⟨by rw [HG.out]; first | rfl | simp [*], HB.out⟩

set_option maxRecDepth 100000 in
set_option maxHeartbeats 1000000 in
theorem refgood_any (e : En) (hk : e.Ok) (w : World) :
    Calls Tryd.prog 15 #[.agg e.cells.toArray] w fun r w' => r = .returned (.bool (goodB e)) ∧ Below w.heap.size w w' := by
  have hu := hk.user
  have hx := hk.text
  unfold maxLen at hx
  have HB := Lib.hid (show Below w.heap.size w (w.alloc (.cells e.cells.toArray 24)) from below1 _ _)
  have hB := Bk.new w 24 e.cells.toArray
  have c0 := hB.cell 0 (.string e.user) rfl
  have c1 := hB.cell 1 (.int .i64 e.tick) rfl
  have c2 := hB.cell 2 (.string e.text) rfl
  clear hB
  go_enter Tryd.func15, Tryd.ntmps15
  go_upto_region 1 with (fail)
  generalize w.alloc (.cells e.cells.toArray 24) = WA at *
  rcases good_cases e with ⟨h1, hg⟩ | ⟨h1, h2, hg⟩ | ⟨h1, h2, h3, hg⟩ | ⟨h1, h2, h3, h4, hg⟩ | ⟨h1, h2, h3, h4, hg⟩
  all_goals
    have HG := Lib.hid hg
    clear hg
    have HU := Lib.hid hu
    clear hu
    go_wp2_with (go_at_call 35; refine (refname_any e.user _ HU.out).mono ?_; rintro r w1 ⟨rfl, rfl⟩; rw [h1])
    all_goals first
      | (exfalso; omega)
      | (go_ret; exact ⟨by rw [HG.out]; first | rfl | simp [*], HB.out⟩)
      | exact ⟨by rw [HG.out]; first | rfl | simp [*], HB.out⟩

end Go.Proofs.YtammglimobninaaDoor
