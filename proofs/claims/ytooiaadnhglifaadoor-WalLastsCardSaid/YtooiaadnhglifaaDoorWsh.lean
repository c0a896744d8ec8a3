/-
  Contracts: bytes.Equal, bytes.HasPrefix, bytes.Clone, wal.follows.
-/
import Derived.Test.YtooiaadnhglifaaDoorWsn
import Derived.Test.YtooiaadnhglifaaDoorWrb
import Derived.Laws.Cover3
set_option linter.unusedVariables false
set_option linter.unusedSimpArgs false
namespace Go.Proofs.YtooiaadnhglifaaDoor
open Go.RowKit

theorem run_slice_to {P : Program} (t e : TypeId) (hu : P.underlying t = some (.slice e)) (hs : (P.info? e).map (·.size) = some 1) (p : Option Addr) (len cap : Nat) (k : IntKind) (j : Int) (h : Nat) (hj : j = (h : Int)) (hc : h ≤ cap) (w : World) :
    (Instr.sliceAt t (.slice p len cap) none (some (.int k j)) none).run P w = .ok (.slice p h cap) w := by
  subst hj
  have he : P.elem t = e := by simp [Program.elem, hu]
  rw [run_sliceAt_slice w t _ _ _ _ (by rw [he]; exact hu), run_slice_h w t p len cap (by rw [he]; exact hu) k h (by omega) (by omega), he]
  cases hq : P.info? e with
  | none => simp [hq] at hs
  | some i =>
    have hz : i.size = 1 := by simpa [hq] using hs
    cases p <;> simp [sizeOf, typeInfo, hq, hz, sliced, Result.andThen, Addr.add]
set_option maxRecDepth 100000 in
theorem equal_any (q p : Option Addr) (m l : List UInt8) (c d : Nat) (w : World) (hm : Rd0 w q m) (hl : Rd0 w p l) :
    Calls Tryd.prog 68 #[.slice q m.length c, .slice p l.length d] w fun e w' => e = .returned (.bool (m == l)) ∧ w = w' := by
  have h1 := run_back8 w q m c hm
  have h2 := run_back8 w p l d hl
  clear hm hl
  go_enter Tryd.func68, Tryd.ntmps68
  go_wp2_with fail
  go_ret
  exact ⟨rfl, rfl⟩

set_option maxRecDepth 100000 in
theorem prefix_any (q p : Option Addr) (m l : List UInt8) (n k c d : Nat) (hn : n = m.length) (hk : k = l.length) (w : World) (hm : Rd0 w q m) (hc : m.length ≤ c) (hl : Rd0 w p l) :
    Calls Tryd.prog 50 #[.slice q n c, .slice p k d] w fun e w' => e = .returned (.bool (decide (l.length ≤ m.length) && (m.take l.length == l))) ∧ w = w' := by
  by_cases h : k ≤ n
  · have w1 : (k : Int) ≤ (n : Int) := by omega
    have w2 : ¬ (n : Int) < (k : Int) := by omega
    have hsl := fun wx => run_slice_to (P := Tryd.prog) 22 5 Tryd.underlying22 (by kernel_rfl) q n c .i64 (k : Int) k rfl (by omega) wx
    have HE := Lib.hid (equal_any q p (m.take l.length) l c d w (hm.take _) hl)
    obtain ⟨r, hr⟩ : ∃ r, r = (m.take l.length == l) := ⟨_, rfl⟩
    rw [← hr, List.length_take, Nat.min_eq_left (by omega), ← hk] at HE
    have HR := Lib.hid (show (decide (l.length ≤ m.length) && (m.take l.length == l)) = r by rw [decide_eq_true (by omega), hr]; rfl)
    clear hr hn hk hm hc hl h
    go_enter Tryd.func50, Tryd.ntmps50
    go_wp2_with (first | (go_at_call 68; refine HE.out.mono ?_; rintro r w1 ⟨rfl, rfl⟩) | (exfalso; omega))
    all_goals (first | (exfalso; omega) | skip)
    go_ret
    exact ⟨by rw [HR.out]; rfl, rfl⟩
  · have w1 : ¬ (k : Int) ≤ (n : Int) := by omega
    have w2 : (n : Int) < (k : Int) := by omega
    have HR := Lib.hid (show (decide (l.length ≤ m.length) && (m.take l.length == l)) = false by rw [decide_eq_false (by omega)]; rfl)
    clear hn hk hm hc hl h
    go_enter Tryd.func50, Tryd.ntmps50
    go_wp2_with (exfalso; omega)
    all_goals (first | (exfalso; omega) | skip)
    go_ret
    exact ⟨by rw [HR.out]; rfl, rfl⟩

/-- may a record have that number -/
def okN (n first many : Nat) : Bool := if many = 0 then decide (1 ≤ n) && decide (n ≤ 1099511627776) else n == first + many
set_option maxRecDepth 100000 in
theorem follows_any (n first many : Nat) (hf : first ≤ 1099511627776) (hm : many ≤ 1000000) (w : World) :
    Calls Tryd.prog 29 #[.int .u64 n, .int .i64 first, .int .i64 many] w fun e w' => e = .returned (.bool (okN n first many)) ∧ w = w' := by
  by_cases h : many = 0
  · subst h
    by_cases h1 : 1 ≤ n
    · have w1 : (1 : Int) ≤ (n : Int) := by omega
      have HR := Lib.hid (show okN n first 0 = decide ((n : Int) ≤ 1099511627776) by unfold okN; rw [if_pos rfl, decide_eq_true h1, Bool.true_and]; exact decide_eq_decide.2 (by omega))
      go_enter Tryd.func29, Tryd.ntmps29
      go_wp2_with fail
      all_goals (first | (exfalso; omega) | skip)
      go_ret
      exact ⟨by rw [HR.out]; rfl, rfl⟩
    · have w1 : ¬ (1 : Int) ≤ (n : Int) := by omega
      have w2 : (n : Int) < 1 := by omega
      have HR := Lib.hid (show okN n first 0 = false by unfold okN; rw [if_pos rfl, decide_eq_false h1, Bool.false_and])
      go_enter Tryd.func29, Tryd.ntmps29
      go_wp2_with fail
      all_goals (first | (exfalso; omega) | skip)
      go_ret
      exact ⟨by rw [HR.out]; rfl, rfl⟩
  · have w1 : ¬ (many : Int) = 0 := by omega
    have w2 : ((many : Int) == 0) = false := by rw [beq_eq_false_iff_ne]; exact w1
    have s1 : IntKind.u64.wrap (first : Int) = (first : Int) := IntWalk.u64_in _ (by omega)
    have s2 : IntKind.u64.wrap (many : Int) = (many : Int) := IntWalk.u64_in _ (by omega)
    have s3 : IntKind.u64.wrap ((first : Int) + (many : Int)) = (first : Int) + (many : Int) := IntWalk.u64_in _ (by omega)
    have HR := Lib.hid (show okN n first many = ((n : Int) == (first : Int) + (many : Int)) by
      unfold okN; rw [if_neg h, Bool.eq_iff_iff, beq_iff_eq, beq_iff_eq]; omega)
    go_enter Tryd.func29, Tryd.ntmps29
    go_wp2_with fail
    go_ret
    exact ⟨by rw [HR.out]; rfl, rfl⟩
end Go.Proofs.YtooiaadnhglifaaDoor
