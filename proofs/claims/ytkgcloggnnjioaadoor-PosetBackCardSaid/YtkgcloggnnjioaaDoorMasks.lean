/-
  Lists of masks; mandateref04.Masks.
-/
import Derived.Test.YtkgcloggnnjioaaDoorMask
import Derived.Lib.Hide
import Derived.BigQuiet
import Derived.Deep.QuietTactic
namespace Go.Proofs.YtkgcloggnnjioaaDoor
open Go.RowKit

theorem belowN {B : Nat} {a w : World} (h : Below B a w) (m : Nat) : Below B a (w.drewN m) := ⟨h.os, h.tape, h.output, h.size, h.block⟩
def Us (w : World) (B : Nat) (p : Option Addr) (ms : List Nat) : Prop :=
  ms = [] ∨ ∃ b off, p = some ⟨b, off, none⟩ ∧ b < B ∧ ∀ i (h : i < ms.length), w.cell? ⟨b, off + i, none⟩ = some (mask ms[i])
theorem Us.below {w w' : World} {B : Nat} {p : Option Addr} {ms : List Nat} (h : Us w B p ms) {B' : Nat} (hb : Below B' w w') (hB : B ≤ B') : Us w' B p ms := by
  rcases h with h | ⟨b, off, rfl, hl, hc⟩
  · exact .inl h
  · refine .inr ⟨b, off, rfl, hl, fun i hi => ?_⟩
    rw [hb.cell (p := ⟨b, off + i, none⟩) (Nat.lt_of_lt_of_le hl hB)]
    exact hc i hi
theorem Us.at {w : World} {B : Nat} {p : Option Addr} {ms : List Nat} (h : Us w B p ms) (k : Nat) (hk : k < ms.length) : ∃ b off, p = some ⟨b, off, none⟩ ∧ b < B ∧ w.cell? ⟨b, off + k, none⟩ = some (mask ms[k]) := by
  rcases h with h | ⟨b, off, rfl, hl, hc⟩
  · subst h; simp at hk
  · exact ⟨b, off, rfl, hl, hc k hk⟩
theorem Us.up {w : World} {B B' : Nat} {p : Option Addr} {ms : List Nat} (h : Us w B p ms) (hB : B ≤ B') : Us w B' p ms :=
  h.imp id (fun ⟨b, o, h1, h2, h3⟩ => ⟨b, o, h1, Nat.lt_of_lt_of_le h2 hB, h3⟩)

set_option maxHeartbeats 1000000 in
set_option maxRecDepth 100000 in
theorem masks_any (p q : Option Addr) (l m : List Nat) (c d : Nat) (w : World) (h1 : Us w w.heap.size p l) (h2 : Us w w.heap.size q m) (hm : l.length ≤ maxLen) (hm2 : m.length ≤ maxLen) :
    Calls Tryd.prog 14 #[.slice p l.length c, .slice q m.length d] w fun e w' => e = .returned (.bool (decide (l = m))) ∧ Below w.heap.size w w' := by
  unfold maxLen at hm hm2
  by_cases hl : l.length = m.length
  · have H1 := Lib.hid h1
    have H2 := Lib.hid h2
    have HL := Lib.hid hl
    have e0 : ((l.length : Int) != (m.length : Int)) = false := by rw [hl]; simp
    clear h1 h2 hl
    go_enter Tryd.func14, Tryd.ntmps14
    go_wp2_with fail
    go_loopw [5] (fun i wr => ∃ k : Nat, k ≤ l.length ∧ i = .int .i64 k ∧ Hid (∀ j (h : j < l.length) (h' : j < m.length), j < k → l[j] = m[j]) ∧ Below w.heap.size w wr) (fun i _ => l.length - (intOf i).toNat)
    case atStart => exact ⟨0, Nat.zero_le _, rfl, Lib.hid (fun j _ _ h => by omega), Below.refl _ _⟩
    case round =>
      obtain ⟨k, hk, rfl, hj, hb⟩ := hrel
      have HJ := Lib.hid hj.out
      have HB := Lib.hid hb
      clear hj hb
      by_cases hlt : k < l.length
      · have hlt2 : k < m.length := by have := HL.out; omega
        obtain ⟨b1, o1, rfl, _, x⟩ := (H1.out.below HB.out (Nat.le_refl _)).at k hlt
        obtain ⟨b2, o2, rfl, _, y⟩ := (H2.out.below HB.out (Nat.le_refl _)).at k hlt2
        unfold mask at x y
        by_cases he : l[k] = m[k]
        · have HJ2 := Lib.hid (show ∀ j (h : j < l.length) (h' : j < m.length), j < k + 1 → l[j] = m[j] from fun j h h' h2 => by
            rcases Nat.lt_or_ge j k with h3 | h3
            · exact HJ.out j h h' h3
            · obtain rfl : j = k := by omega
              exact he)
          have e1 : ((l[k] : Int) != (m[k] : Int)) = false := by rw [he]; simp
          clear HJ he
          go_wp2_with fail
          go_quiet (fail)
          all_goals
            go_wp2_with fail
            exact ⟨⟨k + 1, by omega, by go_num, HJ2, belowN HB.out _⟩, by simp [intOf]; omega⟩
        · have e1 : ((l[k] : Int) != (m[k] : Int)) = true := by simp; omega
          have hne : decide (l = m) = false := by
            simp only [decide_eq_false_iff_not]
            intro e; subst e; exact he rfl
          clear HJ he
          go_wp2_with fail
          go_quiet (fail)
          all_goals
            go_wp2_with fail
            go_ret
            exact ⟨by rw [hne]; rfl, belowN HB.out _⟩
      · have hne : decide (l = m) = true := by
          simp only [decide_eq_true_eq]
          exact List.ext_getElem HL.out (fun i h h' => HJ.out i h h' (by omega))
        clear HJ
        go_wp2_with fail
        go_ret
        exact ⟨by rw [hne]; rfl, HB.out⟩
  · have hne : decide (l = m) = false := by
      simp only [decide_eq_false_iff_not]
      intro e; exact hl (congrArg _ e)
    have e0 : ((l.length : Int) != (m.length : Int)) = true := by simp; omega
    clear hl
    go_enter Tryd.func14, Tryd.ntmps14
    go_wp2_with fail
    go_ret
    exact ⟨by rw [hne]; rfl, Below.refl _ _⟩
end Go.Proofs.YtkgcloggnnjioaaDoor
