/-
  Contract: the law's own 'same' on lists of pairs.
-/
import Derived.Test.YtkgcloggnnjioaaDoorClosed
import Derived.Deep.QuietTactic
import Derived.BigQuiet
import Derived.Laws.StructEq
namespace Go.Proofs.YtkgcloggnnjioaaDoor
open Go.RowKit

theorem Tryd.und44p : Tryd.prog.underlying 44 = some (.array 2 3) := by kernel_rfl
theorem Tryd.und3p : Tryd.prog.underlying 3 = some (.int .i64) := by kernel_rfl
theorem Tryd.guard44 : Tryd.prog.eqGuardType Tryd.prog.depth 44 = false := by kernel_rfl
theorem Tryd.info3p : (Tryd.prog.info? 3).map (·.size) = some 1 := by kernel_rfl
theorem run_eqPair (d : Nat) (a b a' b' : Int) (w : World) : (Op.equalIn (d + 1 + 1) 44 (.agg #[.int .i64 a, .int .i64 b]) (.agg #[.int .i64 a', .int .i64 b'])).run Tryd.prog w = .ok (a == a' && b == b') w := by
  have h1 := Tryd.und44p
  have h3 := Tryd.und3p
  obtain ⟨i3, hi3, hs3⟩ := Option.map_eq_some_iff.1 Tryd.info3p
  rw [Op.equalIn]
  simp only [Sem.run_bind, run_underlying h1, Result.andThen_ok, Std.Legacy.Range.forIn_eq_forIn_range', Std.Legacy.Range.size]
  simp [List.range', sizeOf, typeInfo, hi3, hs3, Sem.run_bind, part, run_equalIn_int (P := Tryd.prog) _ _ _ _ _ _ _ h3]
  by_cases h : a = a' <;> by_cases h2 : b = b' <;> simp [h, h2]
theorem run_neqPair (a b a' b' : Int) (r : Bool) (hr : (a == a' && b == b') = r) (w : World) : (binOp .neq 44 (.agg #[.int .i64 a, .int .i64 b]) (.agg #[.int .i64 a', .int .i64 b'])).run Tryd.prog w = .ok (.bool (!r)) w := by
  rw [run_neq_struct, show (10000 : Nat) = 9998 + 1 + 1 from rfl, run_eqPair, hr]; rfl

set_option maxRecDepth 100000 in
set_option maxHeartbeats 2000000 in
theorem same_any (p q : Option Addr) (l m : List (Int × Int)) (c d : Nat) (w : World) (h1 : Ps w w.heap.size p l) (h2 : Ps w w.heap.size q m) (hm : l.length ≤ maxLen) (hm2 : m.length ≤ maxLen) :
    Calls Tryd.prog 25 #[.slice p l.length c, .slice q m.length d] w fun e w' => e = .returned (.bool (decide (l = m))) ∧ Below w.heap.size w w' := by
  unfold maxLen at hm hm2
  by_cases hl : l.length = m.length
  · have H1 := Lib.hid h1
    have H2 := Lib.hid h2
    have HL := Lib.hid hl
    have e0 : ((l.length : Int) != (m.length : Int)) = false := by rw [hl]; simp
    clear h1 h2 hl
    go_enter Tryd.func25, Tryd.ntmps25
    go_wp2_with fail
    go_loopw [5] (fun i wr => ∃ k : Nat, k ≤ l.length ∧ i = .int .i64 k ∧ Hid (∀ j (h : j < l.length) (h' : j < m.length), j < k → l[j] = m[j]) ∧ Below w.heap.size w wr) (fun i _ => l.length - (intOf i).toNat)
    case atStart => exact ⟨0, Nat.zero_le _, rfl, Lib.hid (fun j _ _ h => by omega), Below.refl _ _⟩
    case round =>
      obtain ⟨k, hk, rfl, hj, hb⟩ := hrel
      have HJ := Lib.hid hj.out
      have HB := Lib.hid hb
      clear hj hb
      by_cases hlt : k < l.length
      · have hlt2 : k < m.length := by have := HL.out; omega
        obtain ⟨b1, o1, rfl, _, x1, x2⟩ := (H1.out.below HB.out (Nat.le_refl _)).at k hlt
        obtain ⟨b2, o2, rfl, _, y1, y2⟩ := (H2.out.below HB.out (Nat.le_refl _)).at k hlt2
        by_cases he : l[k] = m[k]
        · have HJ2 := Lib.hid (show ∀ j (h : j < l.length) (h' : j < m.length), j < k + 1 → l[j] = m[j] from fun j h h' h2 => by
            rcases Nat.lt_or_ge j k with h3 | h3
            · exact HJ.out j h h' h3
            · obtain rfl : j = k := by omega
              exact he)
          rw [← he] at y1 y2
          clear HJ he
          generalize l[k] = x at *
          obtain ⟨x1', x2'⟩ := x
          dsimp only at x1 x2 y1 y2
          have hq := run_neqPair x1' x2' x1' x2' true (by simp)
          have hgd := Tryd.guard44
          go_wp2_with fail
          go_quiet (fail)
          go_wp2_with fail
          go_roundw
          case rel => exact ⟨k + 1, by omega, by go_num, HJ2, belowN HB.out _⟩
          case measure => simp [intOf]; omega
        · have hne : decide (l = m) = false := by
            simp only [decide_eq_false_iff_not]
            intro e; subst e; exact he rfl
          have HNE := Lib.hid hne
          clear HJ hne
          generalize l[k] = x at *
          generalize m[k] = y at *
          obtain ⟨x1', x2'⟩ := x
          obtain ⟨y1', y2'⟩ := y
          dsimp only at x1 x2 y1 y2
          have hq := run_neqPair x1' x2' y1' y2' false (by
            rw [Bool.and_eq_false_iff]
            by_cases h : x1' = y1'
            · right; rw [beq_eq_false_iff_ne]; intro h2; exact he (by rw [h, h2])
            · left; rw [beq_eq_false_iff_ne]; exact h)
          have hgd := Tryd.guard44
          clear he
          go_wp2_with fail
          go_quiet (fail)
          go_wp2_with fail
          go_ret
          exact ⟨by rw [HNE.out]; rfl, belowN HB.out _⟩
      · have hne : decide (l = m) = true := by
          simp only [decide_eq_true_eq]
          exact List.ext_getElem HL.out (fun i h h' => HJ.out i h h' (by omega))
        clear HJ
        go_wp2_with fail
        go_ret
        exact ⟨by rw [hne]; rfl, HB.out⟩
  · have hne : decide (l = m) = false := by
      simp only [decide_eq_false_iff_not]
      intro e; exact hl (congrArg _ e)
    have e0 : ((l.length : Int) != (m.length : Int)) = true := by simp; omega
    clear hl
    go_enter Tryd.func25, Tryd.ntmps25
    go_wp2_with fail
    go_ret
    exact ⟨by rw [hne]; rfl, Below.refl _ _⟩
end Go.Proofs.YtkgcloggnnjioaaDoor
