/-
  Contracts: Disk.On, Left, find, take, Fuse.
-/
import Derived.Test.YtfkmakkofeedpaaDla
set_option linter.unusedVariables false
set_option linter.unusedSimpArgs false
namespace Go.Proofs.Ytfkmakkofeedpaa
open Go.Maps Go.RowKit

section
variable {w : World} {base d mb : Nat} {l : List Fil} {on : Bool} {left : Int}
theorem Dl.cells (h : Dl w base d mb l on left) : w.cell? ⟨d, 0, none⟩ = some (.map (some mb)) ∧ w.cell? ⟨d, 1, none⟩ = some (.bool on) ∧ w.cell? ⟨d, 2, none⟩ = some (.int .i64 left) ∧ w.frozen? ⟨d, 0, none⟩ = false ∧ w.frozen? ⟨d, 1, none⟩ = false ∧ w.frozen? ⟨d, 2, none⟩ = false :=
  ⟨h.dsk.cell 0 _ rfl, h.dsk.cell 1 _ rfl, h.dsk.cell 2 _ rfl, h.dsk.soft 0, h.dsk.soft 1, h.dsk.soft 2⟩
end
theorem zeroPtr (w : World) : (zeroValue 64).run Try.prog w = .ok (.pointer none) w := by kernel_rfl

set_option maxRecDepth 100000 in
theorem on_any (base d mb : Nat) (l : List Fil) (on : Bool) (left : Int) (w : World) (h : Dl w base d mb l on left) :
    Calls Try.prog 29 #[.pointer (some ⟨d, 0, none⟩)] w fun e w' => e = .returned (.bool on) ∧ w = w' := by
  obtain ⟨c0, c1, c2, s0, s1, s2⟩ := h.cells
  clear h
  go_enter Try.func29, Try.ntmps29
  go_wp2_with fail
  go_ret
  exact ⟨rfl, rfl⟩
set_option maxRecDepth 100000 in
theorem on_nil (w : World) : Calls Try.prog 29 #[.pointer none] w fun e w' => e = .returned (.bool false) ∧ w = w' := by
  go_enter Try.func29, Try.ntmps29
  go_wp2_with fail
  go_ret
  exact ⟨rfl, rfl⟩
set_option maxRecDepth 100000 in
theorem left_any (base d mb : Nat) (l : List Fil) (on : Bool) (left : Int) (w : World) (h : Dl w base d mb l on left) :
    Calls Try.prog 30 #[.pointer (some ⟨d, 0, none⟩)] w fun e w' => e = .returned (.int .i64 (if on then left else 0)) ∧ w = w' := by
  have HD := Lib.hid h
  obtain ⟨c0, c1, c2, s0, s1, s2⟩ := h.cells
  clear h
  cases on
  all_goals
    go_enter Try.func30, Try.ntmps30
    go_wp2_with (go_at_call 29; refine (on_any base d mb l _ left _ HD.out).mono ?_; rintro r w1 ⟨rfl, rfl⟩)
    go_ret
    exact ⟨rfl, rfl⟩
/-- what find tells -/
def findE (on : Bool) (o : Option Fil) : Int := if on = false then 20 else match o with | some _ => 0 | none => 4
def findP (on : Bool) (o : Option Fil) : Value := if on = false then .pointer none else ptrF o
set_option maxRecDepth 100000 in
theorem find_any (base d mb : Nat) (l : List Fil) (on : Bool) (left : Int) (nm : ByteArray) (hs : nm.size ≤ maxLen) (w : World) (h : Dl w base d mb l on left) :
    Calls Try.prog 32 #[.pointer (some ⟨d, 0, none⟩), .string nm] w fun e w' => e = .returned (.tuple #[findP on (getF nm.data.toList l), .int .i64 (findE on (getF nm.data.toList l))]) ∧ w = w' := by
  have HD := Lib.hid h
  obtain ⟨c0, c1, c2, s0, s1, s2⟩ := h.cells
  have hlk := h.map.look Try.underlying9 Try.underlying61 (zeroPtr w) nm hs
  clear h hs
  generalize getF nm.data.toList l = o at *
  cases on with
  | false =>
    go_enter Try.func32, Try.ntmps32
    go_wp2_with (go_at_call 29; refine (on_any base d mb l _ left _ HD.out).mono ?_; rintro r w1 ⟨rfl, rfl⟩)
    exact bodyPost_ret (results_tmp2 rfl _ _ _) rfl ⟨rfl, rfl⟩
  | true =>
    cases o with
    | none =>
      rw [show ptrF none = .pointer none from rfl] at hlk
      go_enter Try.func32, Try.ntmps32
      go_wp2_with (go_at_call 29; refine (on_any base d mb l _ left _ HD.out).mono ?_; rintro r w1 ⟨rfl, rfl⟩)
      exact bodyPost_ret (results_tmp2 rfl _ _ _) rfl ⟨rfl, rfl⟩
    | some f =>
      rw [show ptrF (some f) = .pointer (some ⟨f.blk, 0, none⟩) from rfl] at hlk
      go_enter Try.func32, Try.ntmps32
      go_wp2_with (go_at_call 29; refine (on_any base d mb l _ left _ HD.out).mono ?_; rintro r w1 ⟨rfl, rfl⟩)
      exact bodyPost_ret (results_tmp2 rfl _ _ _) rfl ⟨rfl, rfl⟩
theorem Fr.set2 (w : World) {d mb : Nat} {l : List Fil} (o : Nat) (u : Value) : Fr w (w.setCell ⟨d, o, none⟩ u) (OwnD d mb l) (OwnD d mb l) := Fr.set w d (.inl rfl) o u
set_option maxRecDepth 100000 in
theorem take_any (base d mb : Nat) (l : List Fil) (left : Int) (n : Nat) (hn : n ≤ 9223372036854775807) (w : World) (h : Dl w base d mb l true left) :
    Calls Try.prog 34 #[.pointer (some ⟨d, 0, none⟩), .int .i64 n] w fun e w' => e = .returned (.tuple #[.int .i64 ((useS left n).1 : Int), .int .i64 (okE (useS left n).2.2)]) ∧ Dl w' base d mb l (useS left n).2.2 (useS left n).2.1 ∧ Only d w w' := by
  have HD := Lib.hid h
  obtain ⟨c0, c1, c2, s0, s1, s2⟩ := h.cells
  have hl := h.lf
  clear h
  by_cases h1 : left = -1
  · subst h1
    have HU := Lib.hid (show useS (-1) n = (n, -1, true) by rfl)
    go_enter Try.func34, Try.ntmps34
    go_wp2_with fail
    exact bodyPost_ret (results_tmp2 rfl _ _ _) rfl ⟨by rw [HU.out]; rfl, by rw [HU.out]; exact HD.out, Only.refl _ _⟩
  · obtain ⟨k, rfl⟩ : ∃ k : Nat, left = (k : Int) := ⟨left.toNat, by omega⟩
    have e1 : ((k : Int) == -1) = false := by rw [beq_eq_false_iff_ne]; exact h1
    by_cases h2 : n ≤ k
    · have HU := Lib.hid (show useS (k : Int) n = (n, (k : Int) - (n : Int), true) by unfold useS; rw [if_neg (by omega), if_pos (by omega)])
      have m1 : min (n : Int) (k : Int) = (n : Int) := by omega
      have m2 : ¬ (n : Int) < (n : Int) := by omega
      have m3 : IntKind.i64.wrap ((k : Int) - (n : Int)) = (k : Int) - (n : Int) := IntWalk.i64_in _ (by omega)
      have HB := Lib.hid (show -1 ≤ (k : Int) - (n : Int) ∧ (k : Int) - (n : Int) ≤ 9223372036854775807 by omega)
      clear h2 hn hl h1
      go_enter Try.func34, Try.ntmps34
      go_wp2_with fail
      exact bodyPost_ret (results_tmp2 rfl _ _ _) rfl ⟨by rw [HU.out]; rfl, by rw [HU.out]; exact HD.out.setLeft _ HB.out, Only.set d w 2 _⟩
    · have HU := Lib.hid (show useS (k : Int) n = (k, 0, false) by unfold useS; rw [if_neg (by omega), if_neg (by omega)]; rfl)
      have m1 : min (n : Int) (k : Int) = (k : Int) := by omega
      have m2 : (k : Int) < (n : Int) := by omega
      have m3 : IntKind.i64.wrap ((k : Int) - (k : Int)) = 0 := by rw [Int.sub_self]; rfl
      have HX := Lib.hid (HD.out.setLeft 0 (by omega))
      have HY := Lib.hid (HX.out.setOn false)
      clear h2 hn hl h1
      go_enter Try.func34, Try.ntmps34
      go_wp2_with fail
      exact bodyPost_ret (results_tmp2 rfl _ _ _) rfl ⟨by rw [HU.out]; rfl, by rw [HU.out]; exact HY.out, (Only.set d w 2 _).trans (Only.set d _ 1 _)⟩
set_option maxRecDepth 100000 in
theorem fuse_any (base d mb : Nat) (l : List Fil) (on : Bool) (left n : Int) (hn : n ≤ 9223372036854775807) (w : World) (h : Dl w base d mb l on left) :
    Calls Try.prog 24 #[.pointer (some ⟨d, 0, none⟩), .int .i64 n] w fun e w' => e = .returned (.tuple #[]) ∧ Dl w' base d mb l on (if on then max n (-1) else left) ∧ Only d w w' := by
  have HD := Lib.hid h
  obtain ⟨c0, c1, c2, s0, s1, s2⟩ := h.cells
  clear h
  cases on with
  | false =>
    clear hn
    go_enter Try.func24, Try.ntmps24
    go_wp2_with (go_at_call 29; refine (on_any base d mb l _ left _ HD.out).mono ?_; rintro r w1 ⟨rfl, rfl⟩)
    go_end0
    exact ⟨rfl, HD.out, Only.refl _ _⟩
  | true =>
    have HX := Lib.hid (show ∀ k, k = max n (-1) → Dl (w.setCell ⟨d, 2, none⟩ (.int .i64 k)) base d mb l true (max n (-1)) from fun k hk => by rw [← hk]; exact HD.out.setLeft k (by omega))
    clear hn
    go_enter Try.func24, Try.ntmps24
    go_wp2_with (go_at_call 29; refine (on_any base d mb l _ left _ HD.out).mono ?_; rintro r w1 ⟨rfl, rfl⟩)
    all_goals
      go_end0
      exact ⟨rfl, HX.out _ (by omega), Only.set d w 2 _⟩
end Go.Proofs.Ytfkmakkofeedpaa
