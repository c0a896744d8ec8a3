/-
  Joined of: OneP, OneC.
-/
import Derived.Test.YtfmkfabbiifolaaGreatDoorJa04
set_option linter.unusedVariables false
set_option linter.unusedSimpArgs false
/-
  Contract: lex.One where a piece begins.
-/
namespace Go.Proofs.YtfmkfabbiifolaaGreatDoor
open Go.RowKit

/-- the frame at the label, at byte j -/
def FrJ (s : ByteArray) (k j : Nat) (w : World) (a : Act) : Prop := a = ⟨#[.string s, .int .i64 k, a.tmps.getD 2 undef, a.tmps.getD 3 undef, .pointer (some ⟨w.heap.size, 0, none⟩), .int .i64 0, .int .i64 j, a.tmps.getD 7 undef, a.tmps.getD 8 undef, a.tmps.getD 9 undef, a.tmps.getD 10 undef, a.tmps.getD 11 undef, a.tmps.getD 12 undef, a.tmps.getD 13 undef, a.tmps.getD 14 undef, a.tmps.getD 15 undef, a.tmps.getD 16 undef, a.tmps.getD 17 undef, a.tmps.getD 18 undef, a.tmps.getD 19 undef, a.tmps.getD 20 undef, a.tmps.getD 21 undef, a.tmps.getD 22 undef, a.tmps.getD 23 undef, a.tmps.getD 24 undef, a.tmps.getD 25 undef, a.tmps.getD 26 undef, a.tmps.getD 27 undef, a.tmps.getD 28 undef, a.tmps.getD 29 undef, a.tmps.getD 30 undef, a.tmps.getD 31 undef, a.tmps.getD 32 undef, a.tmps.getD 33 undef, a.tmps.getD 34 undef, a.tmps.getD 35 undef, a.tmps.getD 36 undef, a.tmps.getD 37 undef, a.tmps.getD 38 undef, a.tmps.getD 39 undef, a.tmps.getD 40 undef, a.tmps.getD 41 undef, a.tmps.getD 42 undef, a.tmps.getD 43 undef, a.tmps.getD 44 undef, a.tmps.getD 45 undef, a.tmps.getD 46 undef, a.tmps.getD 47 undef, a.tmps.getD 48 undef, a.tmps.getD 49 undef, a.tmps.getD 50 undef, a.tmps.getD 51 undef, a.tmps.getD 52 undef, a.tmps.getD 53 undef, a.tmps.getD 54 undef, a.tmps.getD 55 undef, a.tmps.getD 56 undef, a.tmps.getD 57 undef, a.tmps.getD 58 undef, a.tmps.getD 59 undef, a.tmps.getD 60 undef, a.tmps.getD 61 undef, a.tmps.getD 62 undef, a.tmps.getD 63 undef, a.tmps.getD 64 undef, a.tmps.getD 65 undef, a.tmps.getD 66 undef, a.tmps.getD 67 undef, a.tmps.getD 68 undef, a.tmps.getD 69 undef, a.tmps.getD 70 undef, a.tmps.getD 71 undef, a.tmps.getD 72 undef, a.tmps.getD 73 undef, a.tmps.getD 74 undef, a.tmps.getD 75 undef, a.tmps.getD 76 undef, a.tmps.getD 77 undef, a.tmps.getD 78 undef, a.tmps.getD 79 undef, a.tmps.getD 80 undef, a.tmps.getD 81 undef, a.tmps.getD 82 undef, a.tmps.getD 83 undef, a.tmps.getD 84 undef, a.tmps.getD 85 undef, a.tmps.getD 86 undef, a.tmps.getD 87 undef, a.tmps.getD 88 undef, a.tmps.getD 89 undef, a.tmps.getD 90 undef, a.tmps.getD 91 undef, a.tmps.getD 92 undef, a.tmps.getD 93 undef, a.tmps.getD 94 undef, a.tmps.getD 95 undef, a.tmps.getD 96 undef, a.tmps.getD 97 undef, a.tmps.getD 98 undef, a.tmps.getD 99 undef, a.tmps.getD 100 undef], []⟩
theorem frJ_open {s : ByteArray} {k j : Nat} {w : World} {a : Act} (h : FrJ s k j w a) : ∃ u : Nat → Value, a = ⟨#[.string s, .int .i64 k, u 2, u 3, .pointer (some ⟨w.heap.size, 0, none⟩), .int .i64 0, .int .i64 j, u 7, u 8, u 9, u 10, u 11, u 12, u 13, u 14, u 15, u 16, u 17, u 18, u 19, u 20, u 21, u 22, u 23, u 24, u 25, u 26, u 27, u 28, u 29, u 30, u 31, u 32, u 33, u 34, u 35, u 36, u 37, u 38, u 39, u 40, u 41, u 42, u 43, u 44, u 45, u 46, u 47, u 48, u 49, u 50, u 51, u 52, u 53, u 54, u 55, u 56, u 57, u 58, u 59, u 60, u 61, u 62, u 63, u 64, u 65, u 66, u 67, u 68, u 69, u 70, u 71, u 72, u 73, u 74, u 75, u 76, u 77, u 78, u 79, u 80, u 81, u 82, u 83, u 84, u 85, u 86, u 87, u 88, u 89, u 90, u 91, u 92, u 93, u 94, u 95, u 96, u 97, u 98, u 99, u 100], []⟩ := ⟨fun n => a.tmps.getD n undef, h⟩
def JJ (s : ByteArray) (k stop : Nat) (w : World) (a : Act) (w' : World) : Prop := w' = w.alloc (.cells #[.int .u8 0, .int .i64 0, .int .i64 0] 86) ∧ ∃ j, k < j ∧ j ≤ s.size ∧ Hid (j + runL (s.data.toList.drop j) = stop) ∧ FrJ s k j w a
theorem drop_at (s : ByteArray) (k : Nat) (h : k < s.size) : s.data.toList.drop k = s[k] :: s.data.toList.drop (k + 1) := by
  rw [List.drop_eq_getElem_cons (by simpa using h)]; rfl
theorem run_yes (s : ByteArray) (j stop : Nat) (h : j < s.size) (hw : winB (s[j].toNat : Int) = true) (he : j + runL (s.data.toList.drop j) = stop) : j + 1 + runL (s.data.toList.drop (j + 1)) = stop := by
  rw [drop_at s j h, runL, if_pos hw] at he; omega
theorem run_no (s : ByteArray) (j stop : Nat) (h : j < s.size) (hw : winB (s[j].toNat : Int) = false) (he : j + runL (s.data.toList.drop j) = stop) : j = stop := by
  rw [drop_at s j h, runL, if_neg (by rw [hw]; decide)] at he; omega
theorem run_end (s : ByteArray) (j stop : Nat) (h : s.size ≤ j) (he : j + runL (s.data.toList.drop j) = stop) : j = stop := by
  rw [List.drop_eq_nil_of_le (by simpa using h)] at he; simpa [runL] using he
theorem cellsT {w w1 : World} (hb : Below (w.alloc (.cells #[.int .u8 0, .int .i64 0, .int .i64 0] 86)).heap.size (w.alloc (.cells #[.int .u8 0, .int .i64 0, .int .i64 0] 86)) w1) :
    w1.cell? ⟨w.heap.size, 0, none⟩ = some (.int .u8 0) ∧ w1.cell? ⟨w.heap.size, 1, none⟩ = some (.int .i64 0) ∧ w1.cell? ⟨w.heap.size, 2, none⟩ = some (.int .i64 0) ∧ w1.frozen? ⟨w.heap.size, 0, none⟩ = false ∧ w1.frozen? ⟨w.heap.size, 1, none⟩ = false ∧ w1.frozen? ⟨w.heap.size, 2, none⟩ = false ∧ w.heap.size < w1.heap.size := by
  have c0 := hb.cell (p := ⟨w.heap.size, 0, none⟩) (by simp)
  have c1 := hb.cell (p := ⟨w.heap.size, 1, none⟩) (by simp)
  have c2 := hb.cell (p := ⟨w.heap.size, 2, none⟩) (by simp)
  have f0 := hb.frozen (p := ⟨w.heap.size, 0, none⟩) (by simp)
  have f1 := hb.frozen (p := ⟨w.heap.size, 1, none⟩) (by simp)
  have f2 := hb.frozen (p := ⟨w.heap.size, 2, none⟩) (by simp)
  have hz := hb.size
  simp [go_sem] at c0 c1 c2 f0 f1 f2 hz
  exact ⟨c0, c1, c2, f0, f1, f2, by omega⟩

/-- what stands behind a call of kind -/
abbrev KindC (p : Nat) (s : ByteArray) (k stop : Nat) (kd : Int) : Prop := ∀ wx, Env wx → Calls Tryz.prog p #[.string (s.extract k stop)] wx fun e w' => e = .returned (.int .u8 kd) ∧ Below wx.heap.size wx w'

set_option maxHeartbeats 4000000 in
set_option maxRecDepth 100000 in
theorem one_piece_yes (s : ByteArray) (k stop : Nat) (kd : Int) (w : World) (he : Env w) (hk : k < s.size) (hm : s.size ≤ 140737488351232) (hs : k + 1 + runL (s.data.toList.drop (k + 1)) = stop) (hq : (kd != 0) = true)
    (hc : KindC 82 s k stop kd)
    (hmode : ((s[k].toNat == 45) = true ∧ ∃ h : k + 1 < s.size, digB (s[k + 1].toNat : Int) = true) ∨ ((s[k].toNat == 45) = false ∧ winB (s[k].toNat : Int) = true))
    (g1 : (s[k].toNat == 32) = false) (g2 : (s[k].toNat == 9) = false) (g3 : (s[k].toNat == 40) = false) (g4 : (s[k].toNat == 41) = false) (g5 : (s[k].toNat == 44) = false) (g6 : (s[k].toNat == 46) = false) (g7 : (s[k].toNat == 60) = false)
    (g8 : (s[k].toNat == 58) = false) (g9 : (s[k].toNat == 33) = false) :
    Calls Tryz.prog 42 #[.string s, .int .i64 k] w fun e w' => e = .returned (.tuple #[.agg #[.int .u8 kd, .int .i64 k, .int .i64 stop], .int .i64 0]) ∧ Below w.heap.size w w' := by
  have HB := Lib.hid ((Below.refl w.heap.size w).alloc (Nat.le_refl _) (.cells #[.int .u8 0, .int .i64 0, .int .i64 0] 86))
  have HE := Lib.hid (he.on HB.out)
  have HC := Lib.hid hc
  have HS := Lib.hid hs
  have hk0 : ¬ (k : Int) < 0 := by omega
  clear he hc hs
  rcases hmode with ⟨g10, hk1, hd⟩ | ⟨g10, hw⟩
  · have HD := Lib.hid (show ∀ wx, Calls Tryz.prog 81 #[.int .u8 (s[k + 1].toNat : Int)] wx fun e w' => e = .returned (.bool true) ∧ wx = w' from fun wx => hd ▸ lexdigit_any _ wx)
    clear hd
    go_enter Tryz.func42, Tryz.ntmps42
    go_wp2_with fail
    refine wp_scope_walk ?_
    go_wp2_with fail
    go_step3
    refine ExS_goto _ rfl (ins_of_wp ?_)
    go_wp2_with (go_at_call 81; refine (HD.out _).mono ?_; rintro e w' ⟨rfl, rfl⟩)
    go_step3
    refine ExS_goto _ rfl ?_
    refine ins_loop _ (JJ s k stop w) (fun a _ => s.size - (intOf (a.tmps.getD 6 undef)).toNat) ?round ⟨rfl, k + 1, Nat.lt_succ_self k, by omega, HS, rfl⟩
    case round =>
      intro a w' hJ ih
      have IH := Lib.hid ih
      clear ih
      obtain ⟨rfl, j, hj, hjs, HJ, hF⟩ := hJ
      obtain ⟨u, rfl⟩ := frJ_open hF
      clear hF
      by_cases hlt : j < s.size
      · cases hw2 : winB (s[j].toNat : Int) with
        | true =>
          have HN := Lib.hid (run_yes s j stop hlt hw2 HJ.out)
          have HWI := Lib.hid (show ∀ wx, Calls Tryz.prog 80 #[.int .u8 (s[j].toNat : Int)] wx fun e w' => e = .returned (.bool true) ∧ wx = w' from fun wx => hw2 ▸ within_any _ wx)
          clear hw2
          go_wp2_with (go_at_call 80; refine (HWI.out _).mono ?_; rintro e w' ⟨rfl, rfl⟩)
          go_step3
          refine ExS_goto _ rfl (IH.out _ _ ⟨rfl, j + 1, by omega, hlt, HN, rfl⟩ ?_)
          simp [intOf]; omega
        | false =>
          obtain rfl := run_no s j stop hlt hw2 HJ.out
          have HWI := Lib.hid (show ∀ wx, Calls Tryz.prog 80 #[.int .u8 (s[j].toNat : Int)] wx fun e w' => e = .returned (.bool false) ∧ wx = w' from fun wx => hw2 ▸ within_any _ wx)
          clear hw2
          go_wp2_with (go_at_call 80; refine (HWI.out _).mono ?_; rintro e w' ⟨rfl, rfl⟩)
          refine (HC.out _ HE.out).mono ?_
          rintro e w1 ⟨rfl, hb1⟩
          have HB1 := Lib.hid hb1
          obtain ⟨c0, c1, c2, f0, f1, f2, hz⟩ := cellsT hb1
          clear hb1
          go_wp2_with fail
          rw [ExS_ret]
          refine bodyPost_ret (v := .tuple #[.agg #[.int .u8 kd, .int .i64 k, .int .i64 j], .int .i64 0]) (by simp [results, Tryz.results42, go_sem, c0, c1, c2]) rfl ⟨rfl, ?_⟩
          exact ((((HB.out.trans (HB1.out.mono HB.out.size)).setCell (Nat.le_refl _) _).setCell (Nat.le_refl _) _).setCell (Nat.le_refl _) _)
      · obtain rfl := run_end s j stop (by omega) HJ.out
        go_wp2_with fail
        refine (HC.out _ HE.out).mono ?_
        rintro e w1 ⟨rfl, hb1⟩
        have HB1 := Lib.hid hb1
        obtain ⟨c0, c1, c2, f0, f1, f2, hz⟩ := cellsT hb1
        clear hb1
        go_wp2_with fail
        rw [ExS_ret]
        refine bodyPost_ret (v := .tuple #[.agg #[.int .u8 kd, .int .i64 k, .int .i64 j], .int .i64 0]) (by simp [results, Tryz.results42, go_sem, c0, c1, c2]) rfl ⟨rfl, ?_⟩
        exact ((((HB.out.trans (HB1.out.mono HB.out.size)).setCell (Nat.le_refl _) _).setCell (Nat.le_refl _) _).setCell (Nat.le_refl _) _)
  · go_enter Tryz.func42, Tryz.ntmps42
    go_wp2_with fail
    refine wp_scope_walk ?_
    go_wp2_with (go_at_call 80; refine (within_any _ _).mono ?_; rintro e w' ⟨rfl, rfl⟩)
    go_step3
    refine ExS_goto _ rfl ?_
    refine ins_loop _ (JJ s k stop w) (fun a _ => s.size - (intOf (a.tmps.getD 6 undef)).toNat) ?round ⟨rfl, k + 1, Nat.lt_succ_self k, hk, HS, rfl⟩
    case round =>
      intro a w' hJ ih
      have IH := Lib.hid ih
      clear ih
      obtain ⟨rfl, j, hj, hjs, HJ, hF⟩ := hJ
      obtain ⟨u, rfl⟩ := frJ_open hF
      clear hF
      by_cases hlt : j < s.size
      · cases hw2 : winB (s[j].toNat : Int) with
        | true =>
          have HN := Lib.hid (run_yes s j stop hlt hw2 HJ.out)
          have HWI := Lib.hid (show ∀ wx, Calls Tryz.prog 80 #[.int .u8 (s[j].toNat : Int)] wx fun e w' => e = .returned (.bool true) ∧ wx = w' from fun wx => hw2 ▸ within_any _ wx)
          clear hw2
          go_wp2_with (go_at_call 80; refine (HWI.out _).mono ?_; rintro e w' ⟨rfl, rfl⟩)
          go_step3
          refine ExS_goto _ rfl (IH.out _ _ ⟨rfl, j + 1, by omega, hlt, HN, rfl⟩ ?_)
          simp [intOf]; omega
        | false =>
          obtain rfl := run_no s j stop hlt hw2 HJ.out
          have HWI := Lib.hid (show ∀ wx, Calls Tryz.prog 80 #[.int .u8 (s[j].toNat : Int)] wx fun e w' => e = .returned (.bool false) ∧ wx = w' from fun wx => hw2 ▸ within_any _ wx)
          clear hw2
          go_wp2_with (go_at_call 80; refine (HWI.out _).mono ?_; rintro e w' ⟨rfl, rfl⟩)
          refine (HC.out _ HE.out).mono ?_
          rintro e w1 ⟨rfl, hb1⟩
          have HB1 := Lib.hid hb1
          obtain ⟨c0, c1, c2, f0, f1, f2, hz⟩ := cellsT hb1
          clear hb1
          go_wp2_with fail
          rw [ExS_ret]
          refine bodyPost_ret (v := .tuple #[.agg #[.int .u8 kd, .int .i64 k, .int .i64 j], .int .i64 0]) (by simp [results, Tryz.results42, go_sem, c0, c1, c2]) rfl ⟨rfl, ?_⟩
          exact ((((HB.out.trans (HB1.out.mono HB.out.size)).setCell (Nat.le_refl _) _).setCell (Nat.le_refl _) _).setCell (Nat.le_refl _) _)
      · obtain rfl := run_end s j stop (by omega) HJ.out
        go_wp2_with fail
        refine (HC.out _ HE.out).mono ?_
        rintro e w1 ⟨rfl, hb1⟩
        have HB1 := Lib.hid hb1
        obtain ⟨c0, c1, c2, f0, f1, f2, hz⟩ := cellsT hb1
        clear hb1
        go_wp2_with fail
        rw [ExS_ret]
        refine bodyPost_ret (v := .tuple #[.agg #[.int .u8 kd, .int .i64 k, .int .i64 j], .int .i64 0]) (by simp [results, Tryz.results42, go_sem, c0, c1, c2]) rfl ⟨rfl, ?_⟩
        exact ((((HB.out.trans (HB1.out.mono HB.out.size)).setCell (Nat.le_refl _) _).setCell (Nat.le_refl _) _).setCell (Nat.le_refl _) _)

set_option maxHeartbeats 4000000 in
set_option maxRecDepth 100000 in
theorem one_piece_no (s : ByteArray) (k stop : Nat) (kd : Int) (w : World) (he : Env w) (hk : k < s.size) (hm : s.size ≤ 140737488351232) (hs : k + 1 + runL (s.data.toList.drop (k + 1)) = stop) (hq : (kd != 0) = false)
    (hc : KindC 82 s k stop kd)
    (hmode : ((s[k].toNat == 45) = true ∧ ∃ h : k + 1 < s.size, digB (s[k + 1].toNat : Int) = true) ∨ ((s[k].toNat == 45) = false ∧ winB (s[k].toNat : Int) = true))
    (g1 : (s[k].toNat == 32) = false) (g2 : (s[k].toNat == 9) = false) (g3 : (s[k].toNat == 40) = false) (g4 : (s[k].toNat == 41) = false) (g5 : (s[k].toNat == 44) = false) (g6 : (s[k].toNat == 46) = false) (g7 : (s[k].toNat == 60) = false)
    (g8 : (s[k].toNat == 58) = false) (g9 : (s[k].toNat == 33) = false) :
    Calls Tryz.prog 42 #[.string s, .int .i64 k] w fun e w' => e = .returned (.tuple #[.agg #[.int .u8 0, .int .i64 0, .int .i64 0], .int .i64 5]) ∧ Below w.heap.size w w' := by
  have HB := Lib.hid ((Below.refl w.heap.size w).alloc (Nat.le_refl _) (.cells #[.int .u8 0, .int .i64 0, .int .i64 0] 86))
  have HE := Lib.hid (he.on HB.out)
  have HC := Lib.hid hc
  have HS := Lib.hid hs
  have hk0 : ¬ (k : Int) < 0 := by omega
  clear he hc hs
  rcases hmode with ⟨g10, hk1, hd⟩ | ⟨g10, hw⟩
  · have HD := Lib.hid (show ∀ wx, Calls Tryz.prog 81 #[.int .u8 (s[k + 1].toNat : Int)] wx fun e w' => e = .returned (.bool true) ∧ wx = w' from fun wx => hd ▸ lexdigit_any _ wx)
    clear hd
    go_enter Tryz.func42, Tryz.ntmps42
    go_wp2_with fail
    refine wp_scope_walk ?_
    go_wp2_with fail
    go_step3
    refine ExS_goto _ rfl (ins_of_wp ?_)
    go_wp2_with (go_at_call 81; refine (HD.out _).mono ?_; rintro e w' ⟨rfl, rfl⟩)
    go_step3
    refine ExS_goto _ rfl ?_
    refine ins_loop _ (JJ s k stop w) (fun a _ => s.size - (intOf (a.tmps.getD 6 undef)).toNat) ?round ⟨rfl, k + 1, Nat.lt_succ_self k, by omega, HS, rfl⟩
    case round =>
      intro a w' hJ ih
      have IH := Lib.hid ih
      clear ih
      obtain ⟨rfl, j, hj, hjs, HJ, hF⟩ := hJ
      obtain ⟨u, rfl⟩ := frJ_open hF
      clear hF
      by_cases hlt : j < s.size
      · cases hw2 : winB (s[j].toNat : Int) with
        | true =>
          have HN := Lib.hid (run_yes s j stop hlt hw2 HJ.out)
          have HWI := Lib.hid (show ∀ wx, Calls Tryz.prog 80 #[.int .u8 (s[j].toNat : Int)] wx fun e w' => e = .returned (.bool true) ∧ wx = w' from fun wx => hw2 ▸ within_any _ wx)
          clear hw2
          go_wp2_with (go_at_call 80; refine (HWI.out _).mono ?_; rintro e w' ⟨rfl, rfl⟩)
          go_step3
          refine ExS_goto _ rfl (IH.out _ _ ⟨rfl, j + 1, by omega, hlt, HN, rfl⟩ ?_)
          simp [intOf]; omega
        | false =>
          obtain rfl := run_no s j stop hlt hw2 HJ.out
          have HWI := Lib.hid (show ∀ wx, Calls Tryz.prog 80 #[.int .u8 (s[j].toNat : Int)] wx fun e w' => e = .returned (.bool false) ∧ wx = w' from fun wx => hw2 ▸ within_any _ wx)
          clear hw2
          go_wp2_with (go_at_call 80; refine (HWI.out _).mono ?_; rintro e w' ⟨rfl, rfl⟩)
          refine (HC.out _ HE.out).mono ?_
          rintro e w1 ⟨rfl, hb1⟩
          have HB1 := Lib.hid hb1
          obtain ⟨c0, c1, c2, f0, f1, f2, hz⟩ := cellsT hb1
          clear hb1
          go_wp2_with fail
          go_step3
          go_wp2_with fail
          rw [ExS_ret]
          refine bodyPost_ret (v := .tuple #[.agg #[.int .u8 0, .int .i64 0, .int .i64 0], .int .i64 5]) (by simp [results, Tryz.results42, go_sem, c0, c1, c2]) rfl ⟨rfl, ?_⟩
          exact ((((HB.out.trans (HB1.out.mono HB.out.size)).setCell (Nat.le_refl _) _).setCell (Nat.le_refl _) _).setCell (Nat.le_refl _) _)
      · obtain rfl := run_end s j stop (by omega) HJ.out
        go_wp2_with fail
        refine (HC.out _ HE.out).mono ?_
        rintro e w1 ⟨rfl, hb1⟩
        have HB1 := Lib.hid hb1
        obtain ⟨c0, c1, c2, f0, f1, f2, hz⟩ := cellsT hb1
        clear hb1
        go_wp2_with fail
        go_step3
        go_wp2_with fail
        rw [ExS_ret]
        refine bodyPost_ret (v := .tuple #[.agg #[.int .u8 0, .int .i64 0, .int .i64 0], .int .i64 5]) (by simp [results, Tryz.results42, go_sem, c0, c1, c2]) rfl ⟨rfl, ?_⟩
        exact ((((HB.out.trans (HB1.out.mono HB.out.size)).setCell (Nat.le_refl _) _).setCell (Nat.le_refl _) _).setCell (Nat.le_refl _) _)
  · go_enter Tryz.func42, Tryz.ntmps42
    go_wp2_with fail
    refine wp_scope_walk ?_
    go_wp2_with (go_at_call 80; refine (within_any _ _).mono ?_; rintro e w' ⟨rfl, rfl⟩)
    go_step3
    refine ExS_goto _ rfl ?_
    refine ins_loop _ (JJ s k stop w) (fun a _ => s.size - (intOf (a.tmps.getD 6 undef)).toNat) ?round ⟨rfl, k + 1, Nat.lt_succ_self k, hk, HS, rfl⟩
    case round =>
      intro a w' hJ ih
      have IH := Lib.hid ih
      clear ih
      obtain ⟨rfl, j, hj, hjs, HJ, hF⟩ := hJ
      obtain ⟨u, rfl⟩ := frJ_open hF
      clear hF
      by_cases hlt : j < s.size
      · cases hw2 : winB (s[j].toNat : Int) with
        | true =>
          have HN := Lib.hid (run_yes s j stop hlt hw2 HJ.out)
          have HWI := Lib.hid (show ∀ wx, Calls Tryz.prog 80 #[.int .u8 (s[j].toNat : Int)] wx fun e w' => e = .returned (.bool true) ∧ wx = w' from fun wx => hw2 ▸ within_any _ wx)
          clear hw2
          go_wp2_with (go_at_call 80; refine (HWI.out _).mono ?_; rintro e w' ⟨rfl, rfl⟩)
          go_step3
          refine ExS_goto _ rfl (IH.out _ _ ⟨rfl, j + 1, by omega, hlt, HN, rfl⟩ ?_)
          simp [intOf]; omega
        | false =>
          obtain rfl := run_no s j stop hlt hw2 HJ.out
          have HWI := Lib.hid (show ∀ wx, Calls Tryz.prog 80 #[.int .u8 (s[j].toNat : Int)] wx fun e w' => e = .returned (.bool false) ∧ wx = w' from fun wx => hw2 ▸ within_any _ wx)
          clear hw2
          go_wp2_with (go_at_call 80; refine (HWI.out _).mono ?_; rintro e w' ⟨rfl, rfl⟩)
          refine (HC.out _ HE.out).mono ?_
          rintro e w1 ⟨rfl, hb1⟩
          have HB1 := Lib.hid hb1
          obtain ⟨c0, c1, c2, f0, f1, f2, hz⟩ := cellsT hb1
          clear hb1
          go_wp2_with fail
          go_step3
          go_wp2_with fail
          rw [ExS_ret]
          refine bodyPost_ret (v := .tuple #[.agg #[.int .u8 0, .int .i64 0, .int .i64 0], .int .i64 5]) (by simp [results, Tryz.results42, go_sem, c0, c1, c2]) rfl ⟨rfl, ?_⟩
          exact ((((HB.out.trans (HB1.out.mono HB.out.size)).setCell (Nat.le_refl _) _).setCell (Nat.le_refl _) _).setCell (Nat.le_refl _) _)
      · obtain rfl := run_end s j stop (by omega) HJ.out
        go_wp2_with fail
        refine (HC.out _ HE.out).mono ?_
        rintro e w1 ⟨rfl, hb1⟩
        have HB1 := Lib.hid hb1
        obtain ⟨c0, c1, c2, f0, f1, f2, hz⟩ := cellsT hb1
        clear hb1
        go_wp2_with fail
        go_step3
        go_wp2_with fail
        rw [ExS_ret]
        refine bodyPost_ret (v := .tuple #[.agg #[.int .u8 0, .int .i64 0, .int .i64 0], .int .i64 5]) (by simp [results, Tryz.results42, go_sem, c0, c1, c2]) rfl ⟨rfl, ?_⟩
        exact ((((HB.out.trans (HB1.out.mono HB.out.size)).setCell (Nat.le_refl _) _).setCell (Nat.le_refl _) _).setCell (Nat.le_refl _) _)
end Go.Proofs.YtfmkfabbiifolaaGreatDoor

/-
  Contract: lex.One where no piece begins; One, whole.
-/
namespace Go.Proofs.YtfmkfabbiifolaaGreatDoor
open Go.RowKit

/-- an answer's form -/
abbrev OneAns (p : Nat) (s : ByteArray) (a : Int) (w : World) (kd fr to er : Int) : Prop := Calls Tryz.prog p #[.string s, .int .i64 a] w fun e w' => e = .returned (.tuple #[.agg #[.int .u8 kd, .int .i64 fr, .int .i64 to], .int .i64 er]) ∧ Below w.heap.size w w'

set_option maxHeartbeats 1000000 in
theorem one_out (s : ByteArray) (a : Int) (w : World) (_hm : s.size ≤ 140737488351232) (h : a < 0 ∨ (¬ a < 0 ∧ (s.size : Int) ≤ a)) : OneAns 42 s a w 0 0 0 1 := by
  rcases h with h | ⟨h, h2⟩
  all_goals
    go_enter Tryz.func42, Tryz.ntmps42
    go_wp2_with fail
    refine wp_scope_walk ?_
    go_wp2_with fail
    rw [ExS_ret]
    refine bodyPost_ret (v := .tuple #[.agg #[.int .u8 0, .int .i64 0, .int .i64 0], .int .i64 1]) (by simp [results, Tryz.results42, go_sem]) rfl ⟨rfl, ?_⟩
    exact (Below.refl _ _).alloc (Nat.le_refl _) _
set_option maxHeartbeats 1000000 in
theorem one_blank (s : ByteArray) (k : Nat) (w : World) (hk : k < s.size) (hm : s.size ≤ 140737488351232) (h : (s[k].toNat == 32) = true ∨ (s[k].toNat == 32) = false ∧ (s[k].toNat == 9) = true) : OneAns 42 s k w 0 0 0 4 := by
  have hk0 : ¬ (k : Int) < 0 := by omega
  rcases h with h | ⟨h, h2⟩
  all_goals
    go_enter Tryz.func42, Tryz.ntmps42
    go_wp2_with fail
    refine wp_scope_walk ?_
    go_wp2_with fail
    rw [ExS_ret]
    refine bodyPost_ret (v := .tuple #[.agg #[.int .u8 0, .int .i64 0, .int .i64 0], .int .i64 4]) (by simp [results, Tryz.results42, go_sem]) rfl ⟨rfl, ?_⟩
    exact (Below.refl _ _).alloc (Nat.le_refl _) _
set_option maxHeartbeats 2000000 in
theorem one_sign (s : ByteArray) (k : Nat) (w : World) (hk : k < s.size) (hm : s.size ≤ 140737488351232) (_g1 : (s[k].toNat == 32) = false) (_g2 : (s[k].toNat == 9) = false)
    (h : (s[k].toNat == 40) = true ∨ (s[k].toNat == 40) = false ∧ ((s[k].toNat == 41) = true ∨ (s[k].toNat == 41) = false ∧ ((s[k].toNat == 44) = true ∨ (s[k].toNat == 44) = false ∧ ((s[k].toNat == 46) = true ∨ (s[k].toNat == 46) = false ∧ (s[k].toNat == 60) = true)))) : OneAns 42 s k w 4 k (k + 1) 0 := by
  have hk0 : ¬ (k : Int) < 0 := by omega
  rcases h with h | ⟨h3, h | ⟨h4, h | ⟨h5, h | ⟨h6, h⟩⟩⟩⟩
  all_goals
    go_enter Tryz.func42, Tryz.ntmps42
    go_wp2_with fail
    refine wp_scope_walk ?_
    go_wp2_with fail
    go_step3
    refine ExS_goto _ rfl (ins_of_wp ?_)
    go_wp2_with fail
    rw [ExS_ret]
    refine bodyPost_ret (v := .tuple #[.agg #[.int .u8 4, .int .i64 k, .int .i64 (k + 1)], .int .i64 0]) (by simp [results, Tryz.results42, go_sem]) rfl ⟨rfl, ?_⟩
    exact (Below.refl _ _).alloc (Nat.le_refl _) _

set_option maxHeartbeats 2000000 in
theorem one_colon_yes (s : ByteArray) (k : Nat) (w : World) (hk : k < s.size) (hm : s.size ≤ 140737488351232) (_g1 : (s[k].toNat == 32) = false) (_g2 : (s[k].toNat == 9) = false) (_g3 : (s[k].toNat == 40) = false) (_g4 : (s[k].toNat == 41) = false) (_g5 : (s[k].toNat == 44) = false) (_g6 : (s[k].toNat == 46) = false) (_g7 : (s[k].toNat == 60) = false)  (g : (s[k].toNat == 58) = true) (hk1 : k + 1 < s.size) (hn : (s[k + 1].toNat == 45) = true) : OneAns 42 s k w 4 k (k + 2 : Nat) 0 := by
  have hk0 : ¬ (k : Int) < 0 := by omega
  go_enter Tryz.func42, Tryz.ntmps42
  go_wp2_with fail
  refine wp_scope_walk ?_
  go_wp2_with fail
  go_step3
  refine ExS_goto _ rfl (ins_of_wp ?_)
  go_wp2_with fail
  go_step3
  refine ExS_goto _ rfl (ins_of_wp ?_)
  go_wp2_with fail
  go_step3
  go_wp2_with fail
  rw [ExS_ret]
  refine bodyPost_ret (v := .tuple #[.agg #[.int .u8 4, .int .i64 k, .int .i64 (k + 2 : Nat)], .int .i64 0]) (by simp [results, Tryz.results42, go_sem]; try omega) rfl ⟨rfl, ?_⟩
  exact (Below.refl _ _).alloc (Nat.le_refl _) _
set_option maxHeartbeats 2000000 in
theorem one_colon_no (s : ByteArray) (k : Nat) (w : World) (hk : k < s.size) (hm : s.size ≤ 140737488351232) (_g1 : (s[k].toNat == 32) = false) (_g2 : (s[k].toNat == 9) = false) (_g3 : (s[k].toNat == 40) = false) (_g4 : (s[k].toNat == 41) = false) (_g5 : (s[k].toNat == 44) = false) (_g6 : (s[k].toNat == 46) = false) (_g7 : (s[k].toNat == 60) = false)  (g : (s[k].toNat == 58) = true) (h : ¬ k + 1 < s.size ∨ ∃ hk1 : k + 1 < s.size, (s[k + 1].toNat == 45) = false) : OneAns 42 s k w 0 0 0 5 := by
  have hk0 : ¬ (k : Int) < 0 := by omega
  rcases h with h | ⟨hk1, h⟩
  all_goals
    go_enter Tryz.func42, Tryz.ntmps42
    go_wp2_with fail
    refine wp_scope_walk ?_
    go_wp2_with fail
    go_step3
    refine ExS_goto _ rfl (ins_of_wp ?_)
    go_wp2_with fail
    go_step3
    refine ExS_goto _ rfl (ins_of_wp ?_)
    go_wp2_with fail
    rw [ExS_ret]
    refine bodyPost_ret (v := .tuple #[.agg #[.int .u8 0, .int .i64 0, .int .i64 0], .int .i64 5]) (by simp [results, Tryz.results42, go_sem]) rfl ⟨rfl, ?_⟩
    exact (Below.refl _ _).alloc (Nat.le_refl _) _

set_option maxHeartbeats 2000000 in
theorem one_bang_yes (s : ByteArray) (k : Nat) (w : World) (hk : k < s.size) (hm : s.size ≤ 140737488351232) (_g1 : (s[k].toNat == 32) = false) (_g2 : (s[k].toNat == 9) = false) (_g3 : (s[k].toNat == 40) = false) (_g4 : (s[k].toNat == 41) = false) (_g5 : (s[k].toNat == 44) = false) (_g6 : (s[k].toNat == 46) = false) (_g7 : (s[k].toNat == 60) = false) (_g8 : (s[k].toNat == 58) = false) (g : (s[k].toNat == 33) = true) (hk1 : k + 1 < s.size) (hn : (s[k + 1].toNat == 61) = true) : OneAns 42 s k w 4 k (k + 2 : Nat) 0 := by
  have hk0 : ¬ (k : Int) < 0 := by omega
  go_enter Tryz.func42, Tryz.ntmps42
  go_wp2_with fail
  refine wp_scope_walk ?_
  go_wp2_with fail
  go_step3
  refine ExS_goto _ rfl (ins_of_wp ?_)
  go_wp2_with fail
  go_step3
  refine ExS_goto _ rfl (ins_of_wp ?_)
  go_wp2_with fail
  go_step3
  go_wp2_with fail
  rw [ExS_ret]
  refine bodyPost_ret (v := .tuple #[.agg #[.int .u8 4, .int .i64 k, .int .i64 (k + 2 : Nat)], .int .i64 0]) (by simp [results, Tryz.results42, go_sem]; try omega) rfl ⟨rfl, ?_⟩
  exact (Below.refl _ _).alloc (Nat.le_refl _) _
set_option maxHeartbeats 2000000 in
theorem one_bang_no (s : ByteArray) (k : Nat) (w : World) (hk : k < s.size) (hm : s.size ≤ 140737488351232) (_g1 : (s[k].toNat == 32) = false) (_g2 : (s[k].toNat == 9) = false) (_g3 : (s[k].toNat == 40) = false) (_g4 : (s[k].toNat == 41) = false) (_g5 : (s[k].toNat == 44) = false) (_g6 : (s[k].toNat == 46) = false) (_g7 : (s[k].toNat == 60) = false) (_g8 : (s[k].toNat == 58) = false) (g : (s[k].toNat == 33) = true) (h : ¬ k + 1 < s.size ∨ ∃ hk1 : k + 1 < s.size, (s[k + 1].toNat == 61) = false) : OneAns 42 s k w 0 0 0 5 := by
  have hk0 : ¬ (k : Int) < 0 := by omega
  rcases h with h | ⟨hk1, h⟩
  all_goals
    go_enter Tryz.func42, Tryz.ntmps42
    go_wp2_with fail
    refine wp_scope_walk ?_
    go_wp2_with fail
    go_step3
    refine ExS_goto _ rfl (ins_of_wp ?_)
    go_wp2_with fail
    go_step3
    refine ExS_goto _ rfl (ins_of_wp ?_)
    go_wp2_with fail
    rw [ExS_ret]
    refine bodyPost_ret (v := .tuple #[.agg #[.int .u8 0, .int .i64 0, .int .i64 0], .int .i64 5]) (by simp [results, Tryz.results42, go_sem]) rfl ⟨rfl, ?_⟩
    exact (Below.refl _ _).alloc (Nat.le_refl _) _

set_option maxHeartbeats 2000000 in
theorem one_minus_no (s : ByteArray) (k : Nat) (w : World) (hk : k < s.size) (hm : s.size ≤ 140737488351232) (_g1 : (s[k].toNat == 32) = false) (_g2 : (s[k].toNat == 9) = false) (_g3 : (s[k].toNat == 40) = false) (_g4 : (s[k].toNat == 41) = false) (_g5 : (s[k].toNat == 44) = false) (_g6 : (s[k].toNat == 46) = false) (_g7 : (s[k].toNat == 60) = false) (_g8 : (s[k].toNat == 58) = false) (_g9 : (s[k].toNat == 33) = false) (g : (s[k].toNat == 45) = true) (h : ¬ k + 1 < s.size ∨ ∃ hk1 : k + 1 < s.size, digB (s[k + 1].toNat : Int) = false) : OneAns 42 s k w 0 0 0 5 := by
  have hk0 : ¬ (k : Int) < 0 := by omega
  rcases h with h | ⟨hk1, h⟩
  · go_enter Tryz.func42, Tryz.ntmps42
    go_wp2_with fail
    refine wp_scope_walk ?_
    go_wp2_with fail
    go_step3
    refine ExS_goto _ rfl (ins_of_wp ?_)
    go_wp2_with fail
    go_step3
    refine ExS_goto _ rfl (ins_of_wp ?_)
    go_wp2_with fail
    rw [ExS_ret]
    refine bodyPost_ret (v := .tuple #[.agg #[.int .u8 0, .int .i64 0, .int .i64 0], .int .i64 5]) (by simp [results, Tryz.results42, go_sem]) rfl ⟨rfl, ?_⟩
    exact (Below.refl _ _).alloc (Nat.le_refl _) _
  · have HD := Lib.hid (show ∀ wx, Calls Tryz.prog 81 #[.int .u8 (s[k + 1].toNat : Int)] wx fun e w' => e = .returned (.bool false) ∧ wx = w' from fun wx => h ▸ lexdigit_any _ wx)
    clear h
    go_enter Tryz.func42, Tryz.ntmps42
    go_wp2_with fail
    refine wp_scope_walk ?_
    go_wp2_with fail
    go_step3
    refine ExS_goto _ rfl (ins_of_wp ?_)
    go_wp2_with (go_at_call 81; refine (HD.out _).mono ?_; rintro e w' ⟨rfl, rfl⟩)
    go_step3
    refine ExS_goto _ rfl (ins_of_wp ?_)
    go_wp2_with fail
    rw [ExS_ret]
    refine bodyPost_ret (v := .tuple #[.agg #[.int .u8 0, .int .i64 0, .int .i64 0], .int .i64 5]) (by simp [results, Tryz.results42, go_sem]) rfl ⟨rfl, ?_⟩
    exact (Below.refl _ _).alloc (Nat.le_refl _) _
set_option maxHeartbeats 2000000 in
theorem one_other (s : ByteArray) (k : Nat) (w : World) (hk : k < s.size) (hm : s.size ≤ 140737488351232) (g1 : (s[k].toNat == 32) = false) (g2 : (s[k].toNat == 9) = false) (g3 : (s[k].toNat == 40) = false) (g4 : (s[k].toNat == 41) = false) (g5 : (s[k].toNat == 44) = false) (g6 : (s[k].toNat == 46) = false) (g7 : (s[k].toNat == 60) = false) (g8 : (s[k].toNat == 58) = false) (g9 : (s[k].toNat == 33) = false) (g : (s[k].toNat == 45) = false) (h : winB (s[k].toNat : Int) = false) : OneAns 42 s k w 0 0 0 5 := by
  have hk0 : ¬ (k : Int) < 0 := by omega
  have HWI := Lib.hid (show ∀ wx, Calls Tryz.prog 80 #[.int .u8 (s[k].toNat : Int)] wx fun e w' => e = .returned (.bool false) ∧ wx = w' from fun wx => h ▸ within_any _ wx)
  clear h
  go_enter Tryz.func42, Tryz.ntmps42
  go_wp2_with fail
  refine wp_scope_walk ?_
  go_wp2_with (go_at_call 80; refine (HWI.out _).mono ?_; rintro e w' ⟨rfl, rfl⟩)
  go_step3
  refine ExS_goto _ rfl (ins_of_wp ?_)
  go_wp2_with fail
  rw [ExS_ret]
  refine bodyPost_ret (v := .tuple #[.agg #[.int .u8 0, .int .i64 0, .int .i64 0], .int .i64 5]) (by simp [results, Tryz.results42, go_sem]) rfl ⟨rfl, ?_⟩
  exact (Below.refl _ _).alloc (Nat.le_refl _) _
end Go.Proofs.YtfmkfabbiifolaaGreatDoor
