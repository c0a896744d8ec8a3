/-
  Contracts: Disk.do at each act (made by tools/mk_dac.py).
-/
import Derived.Test.YtfkmakkofeedpaaDap
set_option linter.unusedVariables false
set_option linter.unusedSimpArgs false
namespace Go.Proofs.Ytfkmakkofeedpaa
open Go.Maps Go.RowKit

set_option maxRecDepth 100000 in
theorem do_sync (base d mb : Nat) (l : List Fil) (left : Int) (b0 : Nat) (w : World) (h : Dl w base d mb l true left) (R : World → Prop)
    (HC : ∀ X, Dl X base d mb l true (useS left 1).2.1 → Only d w X → Calls Try.prog 41 #[.pointer (some ⟨b0, 0, none⟩)] X fun r w' => r = .returned (.tuple #[]) ∧ R w') :
    Calls Try.prog 40 #[.pointer (some ⟨d, 0, none⟩), .func (.func 41) #[] #[.pointer (some ⟨b0, 0, none⟩)]] w fun r w' => r = .returned (.int .i64 (okE (useS left 1).2.2)) ∧ ((useS left 1).2.2 = true → R w') ∧ ((useS left 1).2.2 = false → Dl w' base d mb l false (useS left 1).2.1 ∧ Only d w w') := by
  have HT := Lib.hid (fun X (hX : Dl X base d mb l true left) => take_any base d mb l left 1 (by omega) X hX)
  have HD := Lib.hid h
  have HC1 := Lib.hid HC
  clear h HC
  cases hu : (useS left 1).2.2 with
  | true =>
    rw [hu] at HT
    clear hu
    go_enter Try.func40, Try.ntmps40
    go_wp2_with (first
      | (go_at_call 34; refine (HT.out _ HD.out).mono ?_; rintro r w3 ⟨rfl, hD3, hO3⟩; rw [show okE true = 0 from rfl]; have HD3 := Lib.hid hD3; have HO3 := Lib.hid hO3; clear hD3 hO3)
      | (go_at_call 41; refine (HC1.out _ HD3.out HO3.out).mono ?_; rintro r w4 ⟨rfl, hR4⟩; have HR4 := Lib.hid hR4; clear hR4))
    go_ret
    exact ⟨rfl, (fun _ => HR4.out), (fun h => by cases h)⟩
  | false =>
    rw [hu] at HT
    clear hu
    go_enter Try.func40, Try.ntmps40
    go_wp2_with (first
      | (go_at_call 34; refine (HT.out _ HD.out).mono ?_; rintro r w3 ⟨rfl, hD3, hO3⟩; rw [show okE false = 20 from rfl]; have HD3 := Lib.hid hD3; have HO3 := Lib.hid hO3; clear hD3 hO3))
    go_ret
    exact ⟨rfl, (fun h => by cases h), (fun _ => ⟨HD3.out, HO3.out⟩)⟩

set_option maxRecDepth 100000 in
theorem do_rename (base d mb : Nat) (l : List Fil) (left : Int) (b0 b1 b2 b3 : Nat) (w : World) (h : Dl w base d mb l true left) (R : World → Prop)
    (HC : ∀ X, Dl X base d mb l true (useS left 1).2.1 → Only d w X → Calls Try.prog 44 #[.pointer (some ⟨b0, 0, none⟩), .pointer (some ⟨b1, 0, none⟩), .pointer (some ⟨b2, 0, none⟩), .pointer (some ⟨b3, 0, none⟩)] X fun r w' => r = .returned (.tuple #[]) ∧ R w') :
    Calls Try.prog 40 #[.pointer (some ⟨d, 0, none⟩), .func (.func 44) #[] #[.pointer (some ⟨b0, 0, none⟩), .pointer (some ⟨b1, 0, none⟩), .pointer (some ⟨b2, 0, none⟩), .pointer (some ⟨b3, 0, none⟩)]] w fun r w' => r = .returned (.int .i64 (okE (useS left 1).2.2)) ∧ ((useS left 1).2.2 = true → R w') ∧ ((useS left 1).2.2 = false → Dl w' base d mb l false (useS left 1).2.1 ∧ Only d w w') := by
  have HT := Lib.hid (fun X (hX : Dl X base d mb l true left) => take_any base d mb l left 1 (by omega) X hX)
  have HD := Lib.hid h
  have HC1 := Lib.hid HC
  clear h HC
  cases hu : (useS left 1).2.2 with
  | true =>
    rw [hu] at HT
    clear hu
    go_enter Try.func40, Try.ntmps40
    go_wp2_with (first
      | (go_at_call 34; refine (HT.out _ HD.out).mono ?_; rintro r w3 ⟨rfl, hD3, hO3⟩; rw [show okE true = 0 from rfl]; have HD3 := Lib.hid hD3; have HO3 := Lib.hid hO3; clear hD3 hO3)
      | (go_at_call 44; refine (HC1.out _ HD3.out HO3.out).mono ?_; rintro r w4 ⟨rfl, hR4⟩; have HR4 := Lib.hid hR4; clear hR4))
    go_ret
    exact ⟨rfl, (fun _ => HR4.out), (fun h => by cases h)⟩
  | false =>
    rw [hu] at HT
    clear hu
    go_enter Try.func40, Try.ntmps40
    go_wp2_with (first
      | (go_at_call 34; refine (HT.out _ HD.out).mono ?_; rintro r w3 ⟨rfl, hD3, hO3⟩; rw [show okE false = 20 from rfl]; have HD3 := Lib.hid hD3; have HO3 := Lib.hid hO3; clear hD3 hO3))
    go_ret
    exact ⟨rfl, (fun h => by cases h), (fun _ => ⟨HD3.out, HO3.out⟩)⟩

set_option maxRecDepth 100000 in
theorem do_cut (base d mb : Nat) (l : List Fil) (left : Int) (b0 b1 : Nat) (w : World) (h : Dl w base d mb l true left) (R : World → Prop)
    (HC : ∀ X, Dl X base d mb l true (useS left 1).2.1 → Only d w X → Calls Try.prog 46 #[.pointer (some ⟨b0, 0, none⟩), .pointer (some ⟨b1, 0, none⟩)] X fun r w' => r = .returned (.tuple #[]) ∧ R w') :
    Calls Try.prog 40 #[.pointer (some ⟨d, 0, none⟩), .func (.func 46) #[] #[.pointer (some ⟨b0, 0, none⟩), .pointer (some ⟨b1, 0, none⟩)]] w fun r w' => r = .returned (.int .i64 (okE (useS left 1).2.2)) ∧ ((useS left 1).2.2 = true → R w') ∧ ((useS left 1).2.2 = false → Dl w' base d mb l false (useS left 1).2.1 ∧ Only d w w') := by
  have HT := Lib.hid (fun X (hX : Dl X base d mb l true left) => take_any base d mb l left 1 (by omega) X hX)
  have HD := Lib.hid h
  have HC1 := Lib.hid HC
  clear h HC
  cases hu : (useS left 1).2.2 with
  | true =>
    rw [hu] at HT
    clear hu
    go_enter Try.func40, Try.ntmps40
    go_wp2_with (first
      | (go_at_call 34; refine (HT.out _ HD.out).mono ?_; rintro r w3 ⟨rfl, hD3, hO3⟩; rw [show okE true = 0 from rfl]; have HD3 := Lib.hid hD3; have HO3 := Lib.hid hO3; clear hD3 hO3)
      | (go_at_call 46; refine (HC1.out _ HD3.out HO3.out).mono ?_; rintro r w4 ⟨rfl, hR4⟩; have HR4 := Lib.hid hR4; clear hR4))
    go_ret
    exact ⟨rfl, (fun _ => HR4.out), (fun h => by cases h)⟩
  | false =>
    rw [hu] at HT
    clear hu
    go_enter Try.func40, Try.ntmps40
    go_wp2_with (first
      | (go_at_call 34; refine (HT.out _ HD.out).mono ?_; rintro r w3 ⟨rfl, hD3, hO3⟩; rw [show okE false = 20 from rfl]; have HD3 := Lib.hid hD3; have HO3 := Lib.hid hO3; clear hD3 hO3))
    go_ret
    exact ⟨rfl, (fun h => by cases h), (fun _ => ⟨HD3.out, HO3.out⟩)⟩

set_option maxRecDepth 100000 in
theorem do_remove (base d mb : Nat) (l : List Fil) (left : Int) (b0 b1 : Nat) (w : World) (h : Dl w base d mb l true left) (R : World → Prop)
    (HC : ∀ X, Dl X base d mb l true (useS left 1).2.1 → Only d w X → Calls Try.prog 47 #[.pointer (some ⟨b0, 0, none⟩), .pointer (some ⟨b1, 0, none⟩)] X fun r w' => r = .returned (.tuple #[]) ∧ R w') :
    Calls Try.prog 40 #[.pointer (some ⟨d, 0, none⟩), .func (.func 47) #[] #[.pointer (some ⟨b0, 0, none⟩), .pointer (some ⟨b1, 0, none⟩)]] w fun r w' => r = .returned (.int .i64 (okE (useS left 1).2.2)) ∧ ((useS left 1).2.2 = true → R w') ∧ ((useS left 1).2.2 = false → Dl w' base d mb l false (useS left 1).2.1 ∧ Only d w w') := by
  have HT := Lib.hid (fun X (hX : Dl X base d mb l true left) => take_any base d mb l left 1 (by omega) X hX)
  have HD := Lib.hid h
  have HC1 := Lib.hid HC
  clear h HC
  cases hu : (useS left 1).2.2 with
  | true =>
    rw [hu] at HT
    clear hu
    go_enter Try.func40, Try.ntmps40
    go_wp2_with (first
      | (go_at_call 34; refine (HT.out _ HD.out).mono ?_; rintro r w3 ⟨rfl, hD3, hO3⟩; rw [show okE true = 0 from rfl]; have HD3 := Lib.hid hD3; have HO3 := Lib.hid hO3; clear hD3 hO3)
      | (go_at_call 47; refine (HC1.out _ HD3.out HO3.out).mono ?_; rintro r w4 ⟨rfl, hR4⟩; have HR4 := Lib.hid hR4; clear hR4))
    go_ret
    exact ⟨rfl, (fun _ => HR4.out), (fun h => by cases h)⟩
  | false =>
    rw [hu] at HT
    clear hu
    go_enter Try.func40, Try.ntmps40
    go_wp2_with (first
      | (go_at_call 34; refine (HT.out _ HD.out).mono ?_; rintro r w3 ⟨rfl, hD3, hO3⟩; rw [show okE false = 20 from rfl]; have HD3 := Lib.hid hD3; have HO3 := Lib.hid hO3; clear hD3 hO3))
    go_ret
    exact ⟨rfl, (fun h => by cases h), (fun _ => ⟨HD3.out, HO3.out⟩)⟩

end Go.Proofs.Ytfkmakkofeedpaa
