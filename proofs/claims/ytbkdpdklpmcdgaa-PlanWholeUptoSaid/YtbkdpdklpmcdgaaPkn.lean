/-
  Contracts: plan.asks; the reference's named, known.
-/
import Derived.Test.YtbkdpdklpmcdgaaPam
import Derived.Test.YtbkdpdklpmcdgaaPvc
set_option linter.unusedVariables false
set_option linter.unusedSimpArgs false
namespace Go.Proofs.Ytbkdpdklpmcdgaa
open Go.Maps Go.ChangeMaps Go.WideMaps Go.RowKit

set_option maxHeartbeats 1000000 in
set_option maxRecDepth 100000 in
theorem asks_any (k : Int) (w : World) : Calls Try.prog 29 #[.int .u8 k] w fun e w' => e = .returned (.bool (k == 2 || (k == 3 || k == 4))) ∧ w' = w := by
  cases h2 : (k == 2) with
  | true =>
    go_enter Try.func29, Try.ntmps29
    go_wp2_with fail
    go_ret
    exact ⟨by first | rfl | simp [h2], by first | rfl | trivial⟩
  | false =>
    cases h3 : (k == 3) with
    | true =>
      go_enter Try.func29, Try.ntmps29
      go_wp2_with fail
      go_ret
      exact ⟨by first | rfl | simp [h2, h3], by first | rfl | trivial⟩
    | false =>
      cases h4 : (k == 4) with
      | true =>
        go_enter Try.func29, Try.ntmps29
        go_wp2_with fail
        go_ret
        exact ⟨by first | rfl | simp [h2, h3, h4], by first | rfl | trivial⟩
      | false =>
        go_enter Try.func29, Try.ntmps29
        go_wp2_with fail
        go_ret
        exact ⟨by first | rfl | simp [h2, h3, h4], by first | rfl | trivial⟩

theorem ni_more {xs : List Int} {s : Int} {j : Nat} (hlt : j < xs.length) (h : ∀ x ∈ xs.take j, x ≠ s) (hn : xs[j] ≠ s) : ∀ x ∈ xs.take (j + 1), x ≠ s := fun x hx => by
  rw [List.take_succ_eq_append_getElem hlt] at hx
  rcases List.mem_append.1 hx with hx | hx
  · exact h x hx
  · rw [List.mem_singleton.1 hx]; exact hn
set_option maxHeartbeats 4000000 in
set_option maxRecDepth 100000 in
theorem named_any (q : Option Addr) (xs : List Int) (c : Nat) (s : Int) (w : World) (hr : Rd encI 1 w w.heap.size q xs) (hl : xs.length ≤ 9223372036854775807) :
    Calls Try.prog 30 #[.slice q xs.length c, .int .i64 s] w fun e w' => e = .returned (.bool (decide (s ∈ xs))) ∧ w' = w := by
  have HRD := Lib.hid hr
  clear hr
  go_enter Try.func30, Try.ntmps30
  go_wp2_with fail
  go_loopw [5] (fun i wr => ∃ j : Nat, j ≤ xs.length ∧ i = .int .i64 j ∧ wr = w ∧ Hid (∀ x ∈ xs.take j, x ≠ s)) (fun i _ => xs.length - (intOf i).toNat)
  case atStart => exact ⟨0, Nat.zero_le _, rfl, rfl, Lib.hid (fun x hx => by simp at hx)⟩
  case round =>
    obtain ⟨j, hj, rfl, rfl, HN⟩ := hrel
    by_cases hlt : j < xs.length
    · obtain ⟨b, o, rfl, hbb, x0⟩ := rdI_at HRD.out j hlt
      have hj0 : (0 : Int) ≤ (j : Int) := by omega
      have hj1 : (j : Int) < (xs.length : Int) := by omega
      by_cases heq : xs[j] = s
      · have hq : (xs[j] == s) = true := by rw [heq]; simp
        have HC := Lib.hid (show decide (s ∈ xs) = true from decide_eq_true (heq ▸ List.getElem_mem hlt))
        clear heq
        go_wp2_with fail
        go_ret
        exact ⟨by rw [HC.out]; rfl, by first | rfl | trivial⟩
      · have hq : (xs[j] == s) = false := beq_eq_false_iff_ne.2 heq
        have HN2 := Lib.hid (ni_more hlt HN.out heq)
        clear heq
        go_wp2_with fail
        go_roundw
        case rel => exact ⟨j + 1, by omega, by go_num, by first | rfl | trivial, HN2⟩
        case measure => simp [intOf]; omega
    · have HC := Lib.hid (show decide (s ∈ xs) = false from decide_eq_false fun h => HN.out s (by rw [List.take_of_length_le (by omega)]; exact h) rfl)
      go_wp2_with fail
      go_ret
      exact ⟨by rw [HC.out]; rfl, by first | rfl | trivial⟩

/-- how many of a literal's terms are values or variables of a list -/
def knownS (have_ : List ByteArray) (t : Tm) : Bool := decide (t.v.size = 0) || hasS have_ t.v
def knownN (have_ : List ByteArray) (l : List Tm) : Nat := l.countP (knownS have_)
theorem known_take (h : List ByteArray) (l : List Tm) (j : Nat) (hj : j < l.length) : knownN h (l.take (j + 1)) = knownN h (l.take j) + if knownS h l[j] then 1 else 0 := by
  unfold knownN
  rw [List.take_succ_eq_append_getElem hj, List.countP_append, List.countP_singleton]
set_option maxHeartbeats 4000000 in
set_option maxRecDepth 100000 in
theorem known_any (f : Fl) (q : Option Addr) (xs : List ByteArray) (c : Nat) (w : World) (ha : Tms w w.heap.size f.ptr f.args) (hr : Rd encS 1 w w.heap.size q xs) (hl : f.args.length ≤ 9223372036854775806) (hx : xs.length ≤ 9223372036854775807) :
    Calls Try.prog 31 #[f.agg, .slice q xs.length c] w fun e w' => e = .returned (.int .i64 (knownN xs f.args)) ∧ Below w.heap.size w w' := by
  have HX0 := Lib.hid (show Below w.heap.size w (w.alloc (.cells #[.int .u8 f.kind, .string f.pred, .slice f.ptr f.args.length f.cap] 24)) ∧ Bk0 (w.alloc (.cells #[.int .u8 f.kind, .string f.pred, .slice f.ptr f.args.length f.cap] 24)) w.heap.size 24 #[.int .u8 f.kind, .string f.pred, .slice f.ptr f.args.length f.cap] from ⟨below1 w _, Bk0.new w _ _⟩)
  have HA := Lib.hid ha
  have HI := Lib.hid (fun (s : ByteArray) (wx : World) (h : Below w.heap.size w wx) => in_any q xs c s wx (hr.grow h) hx)
  unfold Fl.agg
  clear ha hr hx
  obtain ⟨kd, pr, p, cp, args⟩ := f
  simp only at HX0 HA hl ⊢
  have hcp : ∀ j : Nat, knownN xs (args.take j) ≤ j := fun j => Nat.le_trans (List.countP_le_length) (by rw [List.length_take]; omega)
  have HCP := Lib.hid hcp
  clear hcp
  go_enter Try.func31, Try.ntmps31
  go_wp2_with fail
  go_loopw [5, 6] (fun v i wr => ∃ j : Nat, j ≤ args.length ∧ i = .int .i64 j ∧ v = .int .i64 (knownN xs (args.take j)) ∧ wr = w.alloc (.cells #[.int .u8 kd, .string pr, .slice p args.length cp] 24)) (fun _ i _ => args.length - (intOf i).toNat)
  case atStart => exact ⟨0, Nat.zero_le _, rfl, rfl, rfl⟩
  case round =>
    obtain ⟨j, hj, rfl, rfl, hw⟩ := hrel
    subst hw
    obtain ⟨z0, z1, z2⟩ := HX0.out.2.three
    by_cases hlt : j < args.length
    · obtain ⟨b2, o2, rfl, hbb2, y0, y1, y2⟩ := rdM_at (HA.out.below HX0.out.1 (Nat.le_refl _)) j hlt
      have HK := Lib.hid (known_take xs args j hlt)
      have hc1 := HCP.out j
      have hj0 : (0 : Int) ≤ (j : Int) := by omega
      have hj1 : (j : Int) < (args.length : Int) := by omega
      generalize knownN xs (args.take j) = K at *
      generalize args[j] = t at *
      obtain ⟨v, s, n⟩ := t
      simp only at y0 y1 y2
      by_cases hv : v.size = 0
      · have HP := Lib.hid (show knownN xs (args.take (j + 1)) = K + 1 by rw [HK.out]; unfold knownS; simp [hv])
        have hv1 : ((v.size : Int) == 0) = true := by rw [hv]; rfl
        go_wp2_with fail
        go_roundw
        case rel => exact ⟨j + 1, by omega, by go_num, by rw [HP.out]; go_num, by first | rfl | trivial⟩
        case measure => simp [intOf]; omega
      · have hv1 : ((v.size : Int) == 0) = false := beq_eq_false_iff_ne.2 (by omega)
        have HIN := Lib.hid (HI.out v _ HX0.out.1)
        cases hh : hasS xs v with
        | true =>
          have HP := Lib.hid (show knownN xs (args.take (j + 1)) = K + 1 by rw [HK.out]; unfold knownS; simp [hh])
          rw [hh] at HIN
          go_wp2_with (go_at_call 18; refine (HIN.out).mono ?_; rintro e w1 ⟨rfl, rfl⟩)
          go_roundw
          case rel => exact ⟨j + 1, by omega, by go_num, by rw [HP.out]; go_num, by first | rfl | trivial⟩
          case measure => simp [intOf]; omega
        | false =>
          have HP := Lib.hid (show knownN xs (args.take (j + 1)) = K by rw [HK.out]; unfold knownS; simp [hh, hv])
          rw [hh] at HIN
          go_wp2_with (go_at_call 18; refine (HIN.out).mono ?_; rintro e w1 ⟨rfl, rfl⟩)
          go_roundw
          case rel => exact ⟨j + 1, by omega, by go_num, by rw [HP.out], by first | rfl | trivial⟩
          case measure => simp [intOf]; omega
    · have hke : args.take j = args := List.take_of_length_le (by omega)
      rw [hke]
      go_wp2_with fail
      go_ret
      exact ⟨rfl, HX0.out.1⟩
end Go.Proofs.Ytbkdpdklpmcdgaa
