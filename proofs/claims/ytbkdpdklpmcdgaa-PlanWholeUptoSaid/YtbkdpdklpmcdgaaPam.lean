/-
  Contract: plan.among.
-/
import Derived.Test.YtbkdpdklpmcdgaaRfn
set_option linter.unusedVariables false
set_option linter.unusedSimpArgs false
namespace Go.Proofs.Ytbkdpdklpmcdgaa
open Go.Maps Go.ChangeMaps Go.WideMaps Go.RowKit

/-- A rule; where its literals lie. -/
structure Rl where
  head : Fl
  ptr : Option Addr
  cap : Nat
  body : List Fl
def Rl.agg (r : Rl) : Value := .agg #[.int .u8 r.head.kind, .string r.head.pred, .slice r.head.ptr r.head.args.length r.head.cap, .slice r.ptr r.body.length r.cap]
/-- is a number that of a literal of the body -/
def Rl.has (r : Rl) (k : Int) : Bool := decide (0 ≤ k) && decide (k < r.body.length)

set_option maxHeartbeats 2000000 in
set_option maxRecDepth 100000 in
theorem among_any (r : Rl) (k : Int) (w : World) :
    Calls Try.prog 23 #[r.agg, .int .i64 k] w fun e w' => e = .returned (.bool (r.has k)) ∧ Below w.heap.size w w' := by
  have HB := Lib.hid (fun o : Obj => below1 w o)
  have HX := Lib.hid (show r.has k = (decide (0 ≤ k) && decide (k < r.body.length)) from rfl)
  generalize r.has k = R at *
  unfold Rl.agg
  obtain ⟨⟨kd, pr, p, cp, args⟩, q, c, body⟩ := r
  simp only at HX ⊢
  by_cases h0 : 0 ≤ k
  · by_cases h1 : k < (body.length : Int)
    · go_enter Try.func23, Try.ntmps23
      go_wp2_with fail
      go_ret
      exact ⟨by rw [HX.out]; simp [h0, h1], HB.out _⟩
    · go_enter Try.func23, Try.ntmps23
      go_wp2_with fail
      go_ret
      exact ⟨by rw [HX.out]; simp [h0, h1], HB.out _⟩
  · go_enter Try.func23, Try.ntmps23
    go_wp2_with fail
    go_ret
    exact ⟨by rw [HX.out, decide_eq_false (Int.not_le.2 h0)]; rfl, HB.out _⟩

def encI (x : Int) : List Value := [.int .i64 x]
theorem EI : Enc encI 1 := ⟨fun _ => rfl, by decide, fun a u hu => by simp [encI] at hu; subst hu; rfl⟩
theorem rdI_at {w : World} {B : Nat} {p : Option Addr} {l : List Int} (h : Rd encI 1 w B p l) (i : Nat) (hi : i < l.length) : ∃ b o, p = some ⟨b, o, none⟩ ∧ b < B ∧ w.cell? ⟨b, o + i, none⟩ = some (.int .i64 l[i]) := by
  obtain ⟨b, o, rfl, hb, hc⟩ := h.at i hi
  exact ⟨b, o, rfl, hb, by have := hc 0 _ rfl; simpa using this⟩

set_option maxHeartbeats 8000000 in
set_option maxRecDepth 100000 in
theorem numbers_any (q : Option Addr) (a : List Int) (c : Nat) (q2 : Option Addr) (b : List Int) (c2 : Nat) (w : World) (ha : Rd encI 1 w w.heap.size q a) (hb : Rd encI 1 w w.heap.size q2 b) (hl : a.length ≤ 9223372036854775807) (hl2 : b.length ≤ 9223372036854775807) :
    Calls Try.prog 12 #[.slice q a.length c, .slice q2 b.length c2] w fun e w' => e = .returned (.bool (decide (a = b))) ∧ Below w.heap.size w w' := by
  have HA := Lib.hid ha
  have HB := Lib.hid hb
  clear ha hb
  by_cases hn : a.length = b.length
  · have hn1 : ((a.length : Int) != (b.length : Int)) = false := by rw [hn]; simp
    go_enter Try.func12, Try.ntmps12
    go_wp2_with fail
    go_loopw [5] (fun i wr => ∃ j : Nat, j ≤ a.length ∧ i = .int .i64 j ∧ Below w.heap.size w wr ∧ Hid (a.take j = b.take j)) (fun i _ => a.length - (intOf i).toNat)
    case atStart => exact ⟨0, Nat.zero_le _, rfl, Below.refl _ _, Lib.hid rfl⟩
    case round =>
      obtain ⟨j, hj, rfl, hbw, HN⟩ := hrel
      have HW := Lib.hid hbw
      clear hbw
      by_cases hlt : j < a.length
      · have hlt2 : j < b.length := by omega
        obtain ⟨b1, o1, rfl, hbb, x0⟩ := rdI_at (HA.out.below HW.out (Nat.le_refl _)) j hlt
        obtain ⟨b2, o2, rfl, hbb2, y0⟩ := rdI_at (HB.out.below HW.out (Nat.le_refl _)) j hlt2
        have hj0 : (0 : Int) ≤ (j : Int) := by omega
        have hj1 : (j : Int) < (a.length : Int) := by omega
        have hj2 : (j : Int) < (b.length : Int) := by omega
        by_cases heq : a[j] = b[j]
        · have hq : (a[j] != b[j]) = false := by rw [heq]; simp
          have HN2 := Lib.hid (show a.take (j + 1) = b.take (j + 1) by rw [List.take_succ_eq_append_getElem hlt, List.take_succ_eq_append_getElem hlt2, HN.out, heq])
          clear heq
          go_wp2_with fail
          go_quiet (fail)
          go_wp2_with fail
          go_roundw
          case rel => exact ⟨j + 1, by omega, by go_num, below_drewN' HW.out _, HN2⟩
          case measure => simp [intOf]; omega
        · have hq : (a[j] != b[j]) = true := by simpa using heq
          have HC := Lib.hid (show decide (a = b) = false from decide_eq_false fun e => heq (by subst e; rfl))
          clear heq
          go_wp2_with fail
          go_quiet (fail)
          go_wp2_with fail
          go_ret
          exact ⟨by rw [HC.out]; rfl, below_drewN' HW.out _⟩
      · have HC := Lib.hid (show decide (a = b) = true from decide_eq_true (by have := HN.out; rwa [List.take_of_length_le (by omega), List.take_of_length_le (by omega)] at this))
        go_wp2_with fail
        go_ret
        exact ⟨by rw [HC.out]; rfl, HW.out⟩
  · have hn1 : ((a.length : Int) != (b.length : Int)) = true := by
      have : ¬ (a.length : Int) = (b.length : Int) := by omega
      simpa using this
    have HC := Lib.hid (show decide (a = b) = false from decide_eq_false fun e => hn (by rw [e]))
    go_enter Try.func12, Try.ntmps12
    go_wp2_with fail
    go_ret
    exact ⟨by rw [HC.out]; rfl, Below.refl _ _⟩
end Go.Proofs.Ytbkdpdklpmcdgaa
