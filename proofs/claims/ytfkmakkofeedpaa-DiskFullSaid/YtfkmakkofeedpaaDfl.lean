/-
  The walk of DiskFull.
-/
import Derived.Test.YtfkmakkofeedpaaDfi
import Derived.Test.YtfkmakkofeedpaaDsu
set_option linter.unusedVariables false
set_option linter.unusedSimpArgs false
namespace Go.Proofs.Ytfkmakkofeedpaa
open Go.Maps Go.RowKit

/-! plain: the disk, act by act -/
def fNm (i : Nat) : List UInt8 := [102, UInt8.ofNat (48 + i)]
def fStR : Nat → DS
  | 0 => newS
  | i + 1 => (appS (fStR i) (fNm i) [1]).1
def fS1 : DS := (appS (fStR 8) [103] []).1
def fS2 (j : Nat) : DS := (appS fS1 (fNm j) [2]).1
def fS3 (j : Nat) : DS := (renS (fS2 j) (fNm j) [103]).1
def fS4 (j : Nat) : DS := (appS (fS3 j) (fNm j) []).1
def fS5 (j : Nat) : DS := (renS (fS4 j) [103] [103]).1
def fS6 (j : Nat) : DS := (remS (fS5 j) [103]).1
def fOk (j : Nat) : Bool := decide ((appS (fStR j) (fNm j) [1]).2 = 0) && decide ((appS fS1 (fNm j) [2]).2 = 0) && decide ((renS (fS2 j) (fNm j) [103]).2 = 0) && decide ((appS (fS3 j) (fNm j) []).2 = 3) && decide ((renS (fS4 j) [103] [103]).2 = 0) &&
  (fS5 j).on && decide ((fS5 j).fs.length = 8) && decide ((remS (fS5 j) [103]).2 = 0) && decide ((appS (fS6 j) (fNm j) []).2 = 0)
theorem fOk_all : (List.range 8).all fOk = true := by kernel_rfl
theorem fOk_full : (appS (fStR 8) [103] []).2 = 3 := by kernel_rfl
theorem fOk_at {j : Nat} (h : j < 8) : (appS (fStR j) (fNm j) [1]).2 = 0 ∧ (appS fS1 (fNm j) [2]).2 = 0 ∧ (renS (fS2 j) (fNm j) [103]).2 = 0 ∧ (appS (fS3 j) (fNm j) []).2 = 3 ∧ (renS (fS4 j) [103] [103]).2 = 0 ∧ (fS5 j).on = true ∧ (fS5 j).fs.length = 8 ∧ (remS (fS5 j) [103]).2 = 0 ∧ (appS (fS6 j) (fNm j) []).2 = 0 := by
  have h1 := List.all_eq_true.1 fOk_all j (List.mem_range.2 h)
  simp only [fOk, Bool.and_eq_true, decide_eq_true_eq] at h1
  obtain ⟨⟨⟨⟨⟨⟨⟨⟨a1, a2⟩, a3⟩, a4⟩, a5⟩, a6⟩, a7⟩, a8⟩, a9⟩ := h1
  exact ⟨a1, a2, a3, a4, a5, a6, a7, a8, a9⟩
theorem pair_of {a : DS × Int} {e : Int} (h : a.2 = e) : a = (a.1, e) := by rw [← h]
theorem plain_all : ∃ (st : Nat → DS) (S1 : DS), st 0 = newS ∧ (∀ k, k < 8 → appS (st k) (fNm k) [1] = (st (k + 1), 0)) ∧ appS (st 8) [103] [] = (S1, 3) ∧ ∀ j, j < 8 → ∃ S2 S3 S4 S5 S6 S7 : DS,
    appS S1 (fNm j) [2] = (S2, 0) ∧ renS S2 (fNm j) [103] = (S3, 0) ∧ appS S3 (fNm j) [] = (S4, 3) ∧ renS S4 [103] [103] = (S5, 0) ∧ S5.on = true ∧ S5.fs.length = 8 ∧ remS S5 [103] = (S6, 0) ∧ appS S6 (fNm j) [] = (S7, 0) :=
  ⟨fStR, fS1, rfl, fun k hk => pair_of (fOk_at hk).1, pair_of fOk_full, fun j hj => ⟨fS2 j, fS3 j, fS4 j, fS5 j, fS6 j, _, pair_of (fOk_at hj).2.1, pair_of (fOk_at hj).2.2.1, pair_of (fOk_at hj).2.2.2.1, pair_of (fOk_at hj).2.2.2.2.1, (fOk_at hj).2.2.2.2.2.1, (fOk_at hj).2.2.2.2.2.2.1, pair_of (fOk_at hj).2.2.2.2.2.2.2.1, pair_of (fOk_at hj).2.2.2.2.2.2.2.2⟩⟩
/-- a byte in a block of its own -/
theorem rd0_u8 (w : World) (T : TypeId) (v : Int) (b : UInt8) (hv : v = (b.toNat : Int)) : Rd0 (w.alloc (.cells #[.int .u8 v] T)) (some ⟨w.heap.size, 0, none⟩) [b] := by
  subst hv; exact rd0_lit w T [b]
/-- bytes in a block that was made behind the disk -/
theorem sd_append_new {X0 X w : World} {s : DS} (h0 : Sd X0 w s) (hb : Below X0.heap.size X0 X) (nm : ByteArray) (hs : nm.size ≤ maxLen) (q : Option Addr) (m : List UInt8) (n c : Nat) (hn : n = m.length) (hc : m.length ≤ c) (hz : n ≤ 1000000000000) (hR : Rd0 X q m) (hq : m = [] ∨ ∀ b, q = some b → X0.heap.size ≤ b.block) :
    Calls Try.prog 12 #[.pointer (some ⟨w.heap.size + 1, 0, none⟩), .string nm, .slice q n c] X fun r w' => r = .returned (.int .i64 (appS s nm.data.toList m).2) ∧ Sd w' w (appS s nm.data.toList m).1 := by
  obtain ⟨O, hD⟩ := h0.dk
  refine (append_any w.heap.size (w.heap.size + 1) s O nm hs q m n c hn hc hz X (hD.on_ hb) (h0.on hb).bel.size hR (fun a ha => ?_)).mono fun r w' ⟨h1, h2⟩ => ⟨h1, (h0.on hb).go (hD.on_ hb) h2⟩
  rcases hq with hq | hq
  · exact .inl hq
  · exact .inr fun ho => by have := hq a ha; have := (hD.lt _ ho).1; omega
theorem perm_len {α : Type} {a b : List α} (h : a.Perm b) : a.length = b.length := h.length_eq
theorem sd_files8 {X w : World} {s : DS} (h : Sd X w s) (ho : s.on = true) (hl : s.fs.length = 8) :
    Calls Try.prog 31 #[.pointer (some ⟨w.heap.size + 1, 0, none⟩)] X fun r w' => ∃ p c, r = .returned (.slice p 8 c) ∧ Sd w' w s := by
  refine (sd_files h ho).mono fun r w' ⟨v, ss, h1, h2, h3, h4⟩ => ?_
  have h5 : ss.length = 8 := by rw [h2.length_eq, List.length_map, hl]
  rw [h5] at h3
  rcases h3.2 with ⟨_, h6⟩ | ⟨g, cap, cur, h6, _⟩
  · omega
  · exact ⟨_, _, h1.trans (by rw [h6]), h.on h4⟩

set_option maxRecDepth 100000 in
set_option maxHeartbeats 4000000 in
theorem full_walk (u : UInt8) (w : World) :
    Calls Try.prog 8 #[.int .u8 (u.toNat : Int)] w fun r w' => r = .returned (.bool true) ∧ Below w.heap.size w w' := by
  obtain ⟨st, S1, hs0, hnx, hS1, hall⟩ := plain_all
  have HNX := Lib.hid hnx
  have HS1 := Lib.hid hS1
  have HALL := Lib.hid hall
  clear hnx hS1 hall
  have hul : u.toNat < 256 := u.toNat_lt
  obtain ⟨U, hU⟩ : ∃ U, u.toNat = U := ⟨_, rfl⟩
  rw [hU] at hul ⊢
  clear hU
  go_enter Try.func8, Try.ntmps8
  go_upto_region 4 with (first
    | (go_at_call 9; refine (sd_new _).mono ?_; rintro r w1 ⟨rfl, h1⟩; have H1 := Lib.hid h1; clear h1)
    | (go_at_call 10; refine (dfixed_any _).mono ?_; rintro r w2 ⟨rfl, hb⟩; have H2 := Lib.hid (H1.out.on hb); clear hb))
  go_wp2_with fail
  go_loopw [4] (fun i wr => ∃ k : Nat, k ≤ 8 ∧ i = .int .i64 k ∧ Sd wr w (st k)) (fun i _ => 8 - (intOf i).toNat)
  case atStart => exact ⟨0, by omega, rfl, by rw [hs0]; exact H2.out⟩
  case round =>
    obtain ⟨k, hk, rfl, hS⟩ := hrel
    have HS := Lib.hid hS
    clear hS
    by_cases hlt : k < 8
    · have w4 : (k : Int) < 8 := by omega
      have s1 : IntKind.i64.wrap (48 + (k : Int)) = 48 + (k : Int) := IntWalk.i64_in _ (by omega)
      have s2 : IntKind.u8.wrap (48 + (k : Int)) = 48 + (k : Int) := IntWalk.u8_in _ (by omega)
      have s3 : IntKind.i64.wrap ((k : Int) + 1) = ((k + 1 : Nat) : Int) := IntWalk.i64_in _ (by omega)
      have s4 : wrap64 (48 + (k : Int)) = 48 + (k : Int) := IntWalk.wrap64_in _ (by omega)
      have s5 : wrap64 ((k : Int) + 1) = ((k + 1 : Nat) : Int) := IntWalk.wrap64_in _ (by omega)
      obtain ⟨by1, hby⟩ : ∃ b : UInt8, b = UInt8.ofNat (48 + k) := ⟨_, rfl⟩
      have hv : (48 + (k : Int)) = (by1.toNat : Int) := by rw [hby, UInt8.toNat_ofNat']; omega
      obtain ⟨bl, hbl⟩ : ∃ bl : List UInt8, bl = [by1] := ⟨_, rfl⟩
      have HR1 := Lib.hid (rd0_u8 wr 5 _ by1 hv)
      rw [← hbl] at HR1
      have v1 := run_back8 (wr.alloc (.cells #[.int .u8 (48 + (k : Int))] 5)) (some ⟨wr.heap.size, 0, none⟩) bl 1 HR1.out
      rw [show bl.length = 1 by rw [hbl]; rfl] at v1
      obtain ⟨nm, hnm⟩ : ∃ nm : ByteArray, nm = ⟨([102] ++ bl).toArray⟩ := ⟨_, rfl⟩
      have hadd : ∀ wx, (Op.stringOp .add ⟨#[102]⟩ ⟨bl.toArray⟩).run Try.prog wx = .ok (.string nm) wx := fun wx => by
        rw [hnm, ← arr_app]
        exact run_string_add (P := Try.prog) (w := wx) _ _ (by decide) (by rw [hbl]; show ((1 : Nat) : Int) ≤ _; omega)
      have hnl : nm.data.toList = fNm k := by rw [hnm, hbl, hby]; rfl
      have hns : nm.size ≤ maxLen := by rw [hnm, hbl]; show 2 ≤ maxLen; unfold maxLen; omega
      have RB := rd0_u8 (wr.alloc (.cells #[.int .u8 (48 + (k : Int))] 5)) 5 1 1 (by decide)
      rw [show (wr.alloc (.cells #[.int .u8 (48 + (k : Int))] 5)).heap.size = wr.heap.size + 1 by simp] at RB
      have C1 := Lib.hid (sd_append_new HS.out (below2 wr (.cells #[.int .u8 (48 + (k : Int))] 5) (.cells #[.int .u8 1] 5)) nm hns (some ⟨wr.heap.size + 1, 0, none⟩) [1] 1 1 rfl (Nat.le_refl _) (by omega) RB (.inr (fun b hb => by cases hb; show wr.heap.size ≤ wr.heap.size + 1; omega)))
      rw [hnl, HNX.out k hlt] at C1
      clear hnl hns hnm hbl hby hv HR1 RB
      go_wp2_with (go_at_call 12; refine C1.out.mono ?_; rintro r w3 ⟨rfl, h3⟩; have H3 := Lib.hid h3; clear h3)
      go_roundw
      case rel => exact ⟨k + 1, by omega, rfl, H3.out⟩
      case measure => simp [intOf]; omega
    · obtain rfl : k = 8 := by omega
      obtain ⟨j, hj⟩ : ∃ j, j = U % 8 := ⟨_, rfl⟩
      have hj8 : j < 8 := by omega
      have e1 : IntKind.i64.wrap (U : Int) = (U : Int) := IntWalk.i64_in _ (by omega)
      have s1 : IntKind.i64.wrap (48 + (U : Int) % 8) = 48 + (U : Int) % 8 := IntWalk.i64_in _ (by omega)
      have s2 : IntKind.u8.wrap (48 + (U : Int) % 8) = 48 + (U : Int) % 8 := IntWalk.u8_in _ (by omega)
      have s4 : wrap64 (48 + (U : Int) % 8) = 48 + (U : Int) % 8 := IntWalk.wrap64_in _ (by omega)
      obtain ⟨by1, hby⟩ : ∃ b : UInt8, b = UInt8.ofNat (48 + j) := ⟨_, rfl⟩
      have hv : (48 + (U : Int) % 8) = (by1.toNat : Int) := by rw [hby, UInt8.toNat_ofNat', hj]; omega
      obtain ⟨bl, hbl⟩ : ∃ bl : List UInt8, bl = [by1] := ⟨_, rfl⟩
      have HR1 := Lib.hid (rd0_u8 wr 5 _ by1 hv)
      rw [← hbl] at HR1
      have v1 := run_back8 (wr.alloc (.cells #[.int .u8 (48 + (U : Int) % 8)] 5)) (some ⟨wr.heap.size, 0, none⟩) bl 1 HR1.out
      rw [show bl.length = 1 by rw [hbl]; rfl] at v1
      obtain ⟨nm, hnm⟩ : ∃ nm : ByteArray, nm = ⟨([102] ++ bl).toArray⟩ := ⟨_, rfl⟩
      have hadd : ∀ wx, (Op.stringOp .add ⟨#[102]⟩ ⟨bl.toArray⟩).run Try.prog wx = .ok (.string nm) wx := fun wx => by
        rw [hnm, ← arr_app]
        exact run_string_add (P := Try.prog) (w := wx) _ _ (by decide) (by rw [hbl]; show ((1 : Nat) : Int) ≤ _; omega)
      have hnl : nm.data.toList = fNm j := by rw [hnm, hbl, hby]; rfl
      have hns : nm.size ≤ maxLen := by rw [hnm, hbl]; show 2 ≤ maxLen; unfold maxLen; omega
      have HA := Lib.hid (HS.out.on (below1 wr (.cells #[.int .u8 (48 + (U : Int) % 8)] 5)))
      obtain ⟨S2, S3, S4, S5, S6, S7, p2, p3, p4, p5, p5o, p5l, p6, p7⟩ := HALL.out j hj8
      have G1 : (⟨#[103]⟩ : ByteArray).data.toList = [103] := rfl
      have C1 := Lib.hid (fun X (hX : Sd X w (st 8)) => sd_append hX ⟨#[103]⟩ (by unfold maxLen; decide) none [] 0 0 rfl (Nat.le_refl _) (by omega) (.inl rfl) (.inl rfl))
      rw [G1, HS1.out] at C1
      have C2 := Lib.hid (fun X (hX : Sd X w S1) => sd_append_new hX (below1 X (.cells #[.int .u8 2] 5)) nm hns (some ⟨X.heap.size, 0, none⟩) [2] 1 1 rfl (Nat.le_refl _) (by omega) (rd0_u8 X 5 2 2 (by decide)) (.inr (fun b hb => by cases hb; exact Nat.le_refl _)))
      rw [hnl, p2] at C2
      have C3 := Lib.hid (fun X (hX : Sd X w S2) => sd_rename hX nm ⟨#[103]⟩ hns (by unfold maxLen; decide))
      rw [G1, hnl, p3] at C3
      have C4 := Lib.hid (fun X (hX : Sd X w S3) => sd_append hX nm hns none [] 0 0 rfl (Nat.le_refl _) (by omega) (.inl rfl) (.inl rfl))
      rw [hnl, p4] at C4
      have C5 := Lib.hid (fun X (hX : Sd X w S4) => sd_rename hX ⟨#[103]⟩ ⟨#[103]⟩ (by unfold maxLen; decide) (by unfold maxLen; decide))
      rw [G1, p5] at C5
      have C6 := Lib.hid (fun X (hX : Sd X w S5) => sd_files8 hX p5o p5l)
      have C7 := Lib.hid (fun X (hX : Sd X w S5) => sd_remove hX ⟨#[103]⟩ (by unfold maxLen; decide))
      rw [G1, p6] at C7
      have C8 := Lib.hid (fun X (hX : Sd X w S6) => sd_append hX nm hns none [] 0 0 rfl (Nat.le_refl _) (by omega) (.inl rfl) (.inl rfl))
      rw [hnl, p7] at C8
      have hlt' : ¬ (8 : Int) < 8 := by omega
      clear hnl hns hnm hbl hby hv HR1 G1 p2 p3 p4 p5 p5o p5l p6 p7 HALL HNX HS1
      go_upto_region 10 with fail
      go_wp2_with (first
        | (go_at_call 12; refine (C8.out _ H7.out).mono ?_; rintro r w8 ⟨rfl, h8⟩; have H8 := Lib.hid h8; clear h8)
        | (go_at_call 20; refine (C7.out _ H6.out).mono ?_; rintro r w7 ⟨rfl, h7⟩; have H7 := Lib.hid h7; clear h7)
        | (go_at_call 31; refine (C6.out _ H5.out).mono ?_; rintro r w6 ⟨q6, c6, rfl, h6⟩; have H6 := Lib.hid h6; clear h6)
        | (go_at_call 16; refine (C5.out _ H4.out).mono ?_; rintro r w5 ⟨rfl, h5⟩; have H5 := Lib.hid h5; clear h5)
        | (go_at_call 12; refine (C4.out _ H3.out).mono ?_; rintro r w4 ⟨rfl, h4⟩; have H4 := Lib.hid h4; clear h4)
        | (go_at_call 16; refine (C3.out _ H2b.out).mono ?_; rintro r w3 ⟨rfl, h3⟩; have H3 := Lib.hid h3; clear h3)
        | (go_at_call 12; refine (C2.out _ H1b.out).mono ?_; rintro r w2 ⟨rfl, h2⟩; have H2b := Lib.hid h2; clear h2)
        | (go_at_call 12; refine (C1.out _ HA.out).mono ?_; rintro r w1 ⟨rfl, h1⟩; have H1b := Lib.hid h1; clear h1))
      go_ret
      exact ⟨by rfl, H8.out.bel⟩
end Go.Proofs.Ytfkmakkofeedpaa
