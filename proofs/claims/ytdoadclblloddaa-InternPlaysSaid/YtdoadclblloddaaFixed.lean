/-
  Contract: the chapter's example holds.
-/
import Derived.Test.YtdoadclblloddaaPoolF
namespace Go.Proofs.Ytdoadclblloddaa
open Go.RowKit Go.Maps Go.WideMaps

def vA : Vl := (⟨#[97]⟩, 0)
def v7 : Vl := (⟨#[]⟩, 7)
def vB : Vl := (⟨#[98]⟩, 0)
theorem okA : Ok vA := by constructor <;> decide
theorem ok7 : Ok v7 := by constructor <;> decide
theorem okB : Ok vB := by constructor <;> decide

theorem p1 (w : World) {pb bm : Nat} {sv : Value} (h : Pool w pb bm sv []) : Calls Try.prog 8 #[.pointer (some ⟨pb, 0, none⟩), .agg #[.string ⟨#[97]⟩, .int .i64 0]] w fun e w' => e = .returned (.tuple #[.int .i64 0, .int .i64 0]) ∧ ∃ sv', Pool w' pb bm sv' [vA] ∧ Turned w w' pb bm sv sv' := by
  have := put_any ⟨#[97]⟩ 0 w (by kernel_rfl) h okA (by decide)
  rw [show addV [] ((⟨#[97]⟩ : ByteArray), (0 : Int)) = [vA] by rfl, show posOf [vA] ((⟨#[97]⟩ : ByteArray), (0 : Int)) = 0 by rfl] at this
  exact this
theorem p2 (w : World) {pb bm : Nat} {sv : Value} (h : Pool w pb bm sv [vA]) : Calls Try.prog 8 #[.pointer (some ⟨pb, 0, none⟩), .agg #[.string ⟨#[]⟩, .int .i64 7]] w fun e w' => e = .returned (.tuple #[.int .i64 1, .int .i64 0]) ∧ ∃ sv', Pool w' pb bm sv' [vA, v7] ∧ Turned w w' pb bm sv sv' := by
  have := put_any ⟨#[]⟩ 7 w (by kernel_rfl) h ok7 (by decide)
  rw [show addV [vA] ((⟨#[]⟩ : ByteArray), (7 : Int)) = [vA, v7] by rfl, show posOf [vA, v7] ((⟨#[]⟩ : ByteArray), (7 : Int)) = 1 by rfl] at this
  exact this
theorem p3 (w : World) {pb bm : Nat} {sv : Value} (h : Pool w pb bm sv [vA, v7]) : Calls Try.prog 8 #[.pointer (some ⟨pb, 0, none⟩), .agg #[.string ⟨#[97]⟩, .int .i64 0]] w fun e w' => e = .returned (.tuple #[.int .i64 0, .int .i64 0]) ∧ ∃ sv', Pool w' pb bm sv' [vA, v7] ∧ Turned w w' pb bm sv sv' := by
  have := put_any ⟨#[97]⟩ 0 w (by kernel_rfl) h okA (by decide)
  rw [show addV [vA, v7] ((⟨#[97]⟩ : ByteArray), (0 : Int)) = [vA, v7] by rfl, show posOf [vA, v7] ((⟨#[97]⟩ : ByteArray), (0 : Int)) = 0 by rfl] at this
  exact this
theorem p4 (w : World) {pb bm : Nat} {sv : Value} (h : Pool w pb bm sv [vA, v7]) : Calls Try.prog 12 #[.pointer (some ⟨pb, 0, none⟩), .int .i64 1] w fun e w' => e = .returned (.tuple #[.agg #[.string ⟨#[]⟩, .int .i64 7], .bool true]) ∧ Below w.heap.size w w' :=
  get_any 1 w h (by decide)
theorem p5 (w : World) {pb bm : Nat} {sv : Value} (h : Pool w pb bm sv [vA, v7]) (b : Nat) (hb : b < w.heap.size) (ho : Off pb bm sv b) (hr : RowOf w b 31 (flatV [v7, vB, vB])) : Calls Try.prog 13 #[.pointer (some ⟨pb, 0, none⟩), .slice (some ⟨b, 0, none⟩) 3 3] w fun e w' => ∃ R sv', e = .returned (.tuple #[.slice (some ⟨R, 0, none⟩) 3 3, .int .i64 0]) ∧ Pool w' pb bm sv' [vA, v7, vB] ∧ Turned w w' pb bm sv sv' ∧ RowOf w' R 3 [.int .i64 1, .int .i64 2, .int .i64 2] ∧ w.heap.size ≤ R ∧ Off pb bm sv' R := by
  have hv : Vals w w.heap.size (some ⟨b, 0, none⟩) [v7, vB, vB] := .inr ⟨b, 0, rfl, hb, fun i hi => by
    obtain ⟨p, q⟩ := flatV_get [v7, vB, vB] i hi
    rw [hr.cell, hr.cell, Nat.zero_add]; exact ⟨p, q⟩⟩
  have := row_ok w h (some ⟨b, 0, none⟩) [v7, vB, vB] 3 hv (fun b' off e => by cases e; exact ho) (by intro v hv; simp at hv; rcases hv with rfl | rfl | rfl <;> first | exact ok7 | exact okB) (by unfold maxLen; decide) (by decide) (by kernel_rfl) (by decide)
  rw [show addAll [vA, v7] [v7, vB, vB] = [vA, v7, vB] by rfl, show (List.map (fun v => num (posOf [vA, v7, vB] v)) [v7, vB, vB]) = [.int .i64 1, .int .i64 2, .int .i64 2] by rfl] at this
  exact this
theorem p6 (w : World) {pb bm : Nat} {sv : Value} (h : Pool w pb bm sv [vA, v7, vB]) (b : Nat) (hb : b < w.heap.size) (hc : w.cell? ⟨b, 0, none⟩ = some (.int .i64 2)) : Calls Try.prog 15 #[.pointer (some ⟨pb, 0, none⟩), .slice (some ⟨b, 0, none⟩) 1 1] w fun e w' => ∃ R, e = .returned (.tuple #[.slice (some ⟨R, 0, none⟩) 1 1, .bool true]) ∧ RowOf w' R 31 [.string ⟨#[98]⟩, .int .i64 0] ∧ w.heap.size ≤ R ∧ Below w.heap.size w w' := by
  have := values_ok w (some ⟨pb, 0, none⟩) [vA, v7, vB] (fun wx hx k hk => get_any k wx (h.below hx) hk) (some ⟨b, 0, none⟩) [2] 1 (.inr ⟨b, 0, rfl, hb, fun i hi => by
    obtain rfl : i = 0 := by simp [ints] at hi; exact hi
    exact hc⟩) (by decide) (by unfold maxLen; decide) (by decide)
  rw [show flatV (sel [vA, v7, vB] [2]) = [.string ⟨#[98]⟩, .int .i64 0] by rfl] at this
  exact this
theorem p7 (w : World) {pb bm : Nat} {sv : Value} (h : Pool w pb bm sv [vA, v7, vB]) : Calls Try.prog 10 #[.pointer (some ⟨pb, 0, none⟩), .agg #[.string ⟨#[98]⟩, .int .i64 0]] w fun e w' => e = .returned (.tuple #[.int .i64 2, .bool true]) ∧ Below w.heap.size w w' :=
  find_in_any ⟨#[98]⟩ 0 w h okB 2 (by decide) rfl

theorem Pool.off {w : World} {pb bm : Nat} {sv : Value} {l : List Vl} (h : Pool w pb bm sv l) {b : Nat} (hb : w.heap.size ≤ b) : Off pb bm sv b :=
  ⟨by have := h.lt; omega, by have := h.mlt; omega, fun e => by have := h.rlt _ e; omega⟩
theorem row_new (w : World) (xs : List Value) (t : TypeId) : RowOf (w.alloc (.cells xs.toArray t)) w.heap.size t xs := (MapKept.heap_alloc w _).1

set_option maxHeartbeats 8000000 in
set_option maxRecDepth 100000 in
theorem fixed_any (w : World) : Calls Try.prog 7 #[] w fun e w' => e = .returned (.bool true) ∧ Below w.heap.size w w' := by
  go_enter Try.func7, Try.ntmps7
  go_wp2_with fail
  refine (new_any _).mono ?_
  rintro e w1 ⟨rfl, hP1, hB1⟩
  have HB1 := Lib.hid hB1
  have HP1 := Lib.hid hP1
  have hs1 := hB1.size
  clear hP1 hB1
  generalize hm : w.heap.size = m at *
  go_wp2_with fail
  refine (p1 _ HP1.out).mono ?_
  rintro e w2 ⟨rfl, s2, hP2, hT2⟩
  have HP2 := Lib.hid hP2
  have HT2 := Lib.hid hT2
  clear hP2 hT2 HP1
  go_wp2_with fail
  refine (p2 _ HP2.out).mono ?_
  rintro e w3 ⟨rfl, s3, hP3, hT3⟩
  have HP3 := Lib.hid hP3
  have HT3 := Lib.hid (HT2.out.trans hT3)
  clear hP3 hT3 HP2 HT2
  go_wp2_with fail
  refine (p3 _ HP3.out).mono ?_
  rintro e w4 ⟨rfl, s4, hP4, hT4⟩
  have HP4 := Lib.hid hP4
  have HT4 := Lib.hid (HT3.out.trans hT4)
  clear hP4 hT4 HP3 HT3
  go_wp2_with fail
  refine (p4 _ HP4.out).mono ?_
  rintro e w5 ⟨rfl, hb5⟩
  have HP5 := Lib.hid ((HP4.out.below hb5).alloc (.cells #[.string ⟨#[]⟩, .int .i64 7] 31))
  have HT5 := Lib.hid ((HT4.out.trans (Turned.of_below _ _ s4 hb5)).trans (Turned.of_below _ _ s4 (alloc_below w5 (.cells #[.string ⟨#[]⟩, .int .i64 7] 31))))
  clear hb5 HP4 HT4
  go_wp2_with (go_at_call 18; refine (len_any _ HP5.out).mono ?_; rintro e w' ⟨rfl, rfl⟩)
  have HS5 := Lib.hid (show (w5.alloc (.cells #[.string ⟨#[]⟩, .int .i64 7] 31)).heap.size = w5.heap.size + 1 by simp)
  have HR5 := Lib.hid (HS5.out ▸ row_new (w5.alloc (.cells #[.string ⟨#[]⟩, .int .i64 7] 31)) (flatV [v7, vB, vB]) 31)
  refine (p5 _ (HP5.out.alloc _) (w5.heap.size + 1) (by simp) (HP5.out.off (by simp)) HR5.out).mono ?_
  rintro e w6 ⟨R6, s6, rfl, hP6, hT6, hR6, hz6, hO6⟩
  have HP6 := Lib.hid hP6
  have HT6 := Lib.hid ((HT5.out.trans (Turned.of_below _ _ s4 (alloc_below _ _))).trans hT6)
  have HR6 := Lib.hid hR6
  clear hP6 hT6 hR6 hz6 hO6 HP5 HT5 HS5 HR5
  go_wp2_with fail
  refine (p6 _ (HP6.out.alloc _) w6.heap.size (by simp) (by simp [go_sem])).mono ?_
  rintro e w7 ⟨R7, rfl, hR7, hz7, hb7⟩
  have hB7 := (alloc_below w6 (.cells #[.int .i64 2] 3)).trans (hb7.mono (by simp))
  have HP7 := Lib.hid (HP6.out.below hB7)
  have HT7 := Lib.hid (HT6.out.trans (Turned.of_below _ _ s6 hB7))
  have HR7 := Lib.hid (HR6.out.below hB7 HR6.out.lt)
  have HV7 := Lib.hid hR7
  clear hR7 hz7 hb7 hB7 HP6 HT6 HR6
  go_wp2_with fail
  refine (p7 _ HP7.out).mono ?_
  rintro e w8 ⟨rfl, hb8⟩
  have HP8 := Lib.hid (HP7.out.below hb8)
  have HT8 := Lib.hid (HT7.out.trans (Turned.of_below _ _ s6 hb8))
  have hR8 := HR7.out.below hb8 HR7.out.lt
  have hV8 := HV7.out.below hb8 HV7.out.lt
  have a0 : w8.cell? ⟨R6, 0, none⟩ = some (.int .i64 1) := hR8.cell 0
  have a1 : w8.cell? ⟨R6, 1, none⟩ = some (.int .i64 2) := hR8.cell 1
  have a2 : w8.cell? ⟨R6, 2, none⟩ = some (.int .i64 2) := hR8.cell 2
  have b0 : w8.cell? ⟨R7, 0, none⟩ = some (.string ⟨#[98]⟩) := hV8.cell 0
  have hl6 := hR8.lt
  have hl7 := hV8.lt
  clear hb8 hR8 hV8 HP7 HT7 HR7 HV7
  go_wp2_with fail
  refine (clear_any _ HP8.out).mono ?_
  rintro e w9 ⟨rfl, hP9, hT9⟩
  have HT9 := Lib.hid (HT8.out.trans hT9)
  have HP9 := Lib.hid hP9
  clear hP9 hT9 a0 a1 a2 b0
  go_wp2_with (go_at_call 18; refine (len_any _ HP9.out).mono ?_; rintro e w' ⟨rfl, rfl⟩)
  go_ret
  refine ⟨rfl, ?_⟩
  rw [hm]
  exact HB1.out.trans (HT9.out.below (by omega) (Nat.le_refl _) (fun g hg => by simp [Value.ownBlock] at hg) hs1)
end Go.Proofs.Ytdoadclblloddaa
