/-
  Plain: the examples' tokens.
-/
import Derived.Test.YtpkccmceobonnaaDoorAllP
import Derived.Test.YtpkccmceobonnaaDoorNumA
import Derived.KernelRfl
namespace Go.Proofs.YtpkccmceobonnaaDoor
open Go.RowKit

theorem allF_tok (f k : Nat) (c : UInt8) (r : List UInt8) (K : Int) (n : Nat) (h : oneL (c :: r) = ⟨0, K, n⟩) : allF (f + 1) k (c :: r) = Toks.put [⟨K, k, (k + n : Nat)⟩] (allF f (k + n) ((c :: r).drop n)) := by
  rw [allF, h]; rfl
theorem allF_blank (f k : Nat) (c : UInt8) (r : List UInt8) (h : oneL (c :: r) = ⟨4, 0, 0⟩) : allF (f + 1) k (c :: r) = allF f (k + 1) r := by
  rw [allF, h]; rfl
theorem allF_err (f k : Nat) (c : UInt8) (r : List UInt8) (h : oneL (c :: r) = ⟨5, 0, 0⟩) : allF (f + 1) k (c :: r) = ⟨[], k, 5⟩ := by
  rw [allF, h]; rfl
theorem dd1 (d : Nat) (h : d < 10) : Lib.decDigits d = [UInt8.ofNat (48 + d)] := by rw [Lib.decDigits, dif_pos h]
theorem kind_of_itoa (n : Int) (l : List UInt8) (h0 : -9223372036854775808 ≤ n) (h1 : n ≤ 9223372036854775807) (hl : Lib.itoa n = l) (hw : wordL l = false) (hu : upB (l.headD 0).toNat = false) : kindL l = 3 := by
  have e : (⟨l.toArray⟩ : ByteArray) = itoaS n := by unfold itoaS; rw [hl]
  have hn : nameL l = false := by
    have := name_itoa n
    rw [nameB_eq, ← e] at this
    exact this
  unfold kindL
  rw [if_neg (by rw [hw]; decide), if_neg (by rw [hu]; simp), if_neg (by rw [hn]; decide), e, readN_itoa n h0 h1]
  rfl
theorem kind_7 : kindL [55] = 3 := kind_of_itoa 7 _ (by decide) (by decide) (by unfold Lib.itoa; rw [if_neg (by decide)]; exact dd1 7 (by decide)) rfl rfl
theorem kind_m7 : kindL [45, 55] = 3 := kind_of_itoa (-7) _ (by decide) (by decide) (by unfold Lib.itoa; rw [if_pos (by decide)]; exact congrArg _ (dd1 7 (by decide))) rfl rfl
theorem kind_m5 : kindL [45, 53] = 3 := kind_of_itoa (-5) _ (by decide) (by decide) (by unfold Lib.itoa; rw [if_pos (by decide)]; exact congrArg _ (dd1 5 (by decide))) rfl rfl
theorem one_num (c : UInt8) (r : List UInt8) (n : Nat) (h : Blk c = false) (h2 : Sgn c = false) (h3 : (c.toNat == 58) = false) (h4 : (c.toNat == 33) = false) (h5 : Begins c r) (hn : 1 + runL r = n) (hk : kindL ((c :: r).take n) = 3) : oneL (c :: r) = ⟨0, 3, n⟩ := by
  rw [oneL_piece c r h h2 h3 h4 h5, hn, pieceL, hk]; rfl
theorem fx_a_12 : allF 2 14 [] = ⟨[], 0, 0⟩ := rfl
theorem fx_a_11 : allF 3 13 [46] = ⟨[⟨4, 13, 14⟩], 0, 0⟩ := (allF_tok _ _ _ _ 4 1 (by kernel_rfl)).trans (by rw [show allF 2 (13 + 1) (List.drop 1 [46]) = _ from fx_a_12]; kernel_rfl)
theorem fx_a_10 : allF 4 11 [45, 55, 46] = ⟨[⟨3, 11, 13⟩, ⟨4, 13, 14⟩], 0, 0⟩ := (allF_tok _ _ _ _ 3 2 (one_num 45 [55, 46] 2 rfl rfl rfl rfl (.inl ⟨rfl, rfl⟩) rfl kind_m7)).trans (by rw [show allF 3 (11 + 2) (List.drop 2 [45, 55, 46]) = _ from fx_a_11]; kernel_rfl)
theorem fx_a_9 : allF 5 10 [60, 45, 55, 46] = ⟨[⟨4, 10, 11⟩, ⟨3, 11, 13⟩, ⟨4, 13, 14⟩], 0, 0⟩ := (allF_tok _ _ _ _ 4 1 (by kernel_rfl)).trans (by rw [show allF 4 (10 + 1) (List.drop 1 [60, 45, 55, 46]) = _ from fx_a_10]; kernel_rfl)
theorem fx_a_8 : allF 6 9 [55, 60, 45, 55, 46] = ⟨[⟨3, 9, 10⟩, ⟨4, 10, 11⟩, ⟨3, 11, 13⟩, ⟨4, 13, 14⟩], 0, 0⟩ := (allF_tok _ _ _ _ 3 1 (one_num 55 [60, 45, 55, 46] 1 rfl rfl rfl rfl (.inr ⟨rfl, rfl⟩) rfl kind_7)).trans (by rw [show allF 5 (9 + 1) (List.drop 1 [55, 60, 45, 55, 46]) = _ from fx_a_9]; kernel_rfl)
theorem fx_a_7 : allF 7 8 [32, 55, 60, 45, 55, 46] = ⟨[⟨3, 9, 10⟩, ⟨4, 10, 11⟩, ⟨3, 11, 13⟩, ⟨4, 13, 14⟩], 0, 0⟩ := (allF_blank _ _ _ _ (by kernel_rfl)).trans fx_a_8
theorem fx_a_6 : allF 8 7 [44, 32, 55, 60, 45, 55, 46] = ⟨[⟨4, 7, 8⟩, ⟨3, 9, 10⟩, ⟨4, 10, 11⟩, ⟨3, 11, 13⟩, ⟨4, 13, 14⟩], 0, 0⟩ := (allF_tok _ _ _ _ 4 1 (by kernel_rfl)).trans (by rw [show allF 7 (7 + 1) (List.drop 1 [44, 32, 55, 60, 45, 55, 46]) = _ from fx_a_7]; kernel_rfl)
theorem fx_a_5 : allF 9 6 [113, 44, 32, 55, 60, 45, 55, 46] = ⟨[⟨1, 6, 7⟩, ⟨4, 7, 8⟩, ⟨3, 9, 10⟩, ⟨4, 10, 11⟩, ⟨3, 11, 13⟩, ⟨4, 13, 14⟩], 0, 0⟩ := (allF_tok _ _ _ _ 1 1 (by kernel_rfl)).trans (by rw [show allF 8 (6 + 1) (List.drop 1 [113, 44, 32, 55, 60, 45, 55, 46]) = _ from fx_a_6]; kernel_rfl)
theorem fx_a_4 : allF 10 4 [58, 45, 113, 44, 32, 55, 60, 45, 55, 46] = ⟨[⟨4, 4, 6⟩, ⟨1, 6, 7⟩, ⟨4, 7, 8⟩, ⟨3, 9, 10⟩, ⟨4, 10, 11⟩, ⟨3, 11, 13⟩, ⟨4, 13, 14⟩], 0, 0⟩ := (allF_tok _ _ _ _ 4 2 (by kernel_rfl)).trans (by rw [show allF 9 (4 + 2) (List.drop 2 [58, 45, 113, 44, 32, 55, 60, 45, 55, 46]) = _ from fx_a_5]; kernel_rfl)
theorem fx_a_3 : allF 11 3 [41, 58, 45, 113, 44, 32, 55, 60, 45, 55, 46] = ⟨[⟨4, 3, 4⟩, ⟨4, 4, 6⟩, ⟨1, 6, 7⟩, ⟨4, 7, 8⟩, ⟨3, 9, 10⟩, ⟨4, 10, 11⟩, ⟨3, 11, 13⟩, ⟨4, 13, 14⟩], 0, 0⟩ := (allF_tok _ _ _ _ 4 1 (by kernel_rfl)).trans (by rw [show allF 10 (3 + 1) (List.drop 1 [41, 58, 45, 113, 44, 32, 55, 60, 45, 55, 46]) = _ from fx_a_4]; kernel_rfl)
theorem fx_a_2 : allF 12 2 [88, 41, 58, 45, 113, 44, 32, 55, 60, 45, 55, 46] = ⟨[⟨2, 2, 3⟩, ⟨4, 3, 4⟩, ⟨4, 4, 6⟩, ⟨1, 6, 7⟩, ⟨4, 7, 8⟩, ⟨3, 9, 10⟩, ⟨4, 10, 11⟩, ⟨3, 11, 13⟩, ⟨4, 13, 14⟩], 0, 0⟩ := (allF_tok _ _ _ _ 2 1 (by kernel_rfl)).trans (by rw [show allF 11 (2 + 1) (List.drop 1 [88, 41, 58, 45, 113, 44, 32, 55, 60, 45, 55, 46]) = _ from fx_a_3]; kernel_rfl)
theorem fx_a_1 : allF 13 1 [40, 88, 41, 58, 45, 113, 44, 32, 55, 60, 45, 55, 46] = ⟨[⟨4, 1, 2⟩, ⟨2, 2, 3⟩, ⟨4, 3, 4⟩, ⟨4, 4, 6⟩, ⟨1, 6, 7⟩, ⟨4, 7, 8⟩, ⟨3, 9, 10⟩, ⟨4, 10, 11⟩, ⟨3, 11, 13⟩, ⟨4, 13, 14⟩], 0, 0⟩ := (allF_tok _ _ _ _ 4 1 (by kernel_rfl)).trans (by rw [show allF 12 (1 + 1) (List.drop 1 [40, 88, 41, 58, 45, 113, 44, 32, 55, 60, 45, 55, 46]) = _ from fx_a_2]; kernel_rfl)
theorem fx_a_0 : allF 14 0 [112, 40, 88, 41, 58, 45, 113, 44, 32, 55, 60, 45, 55, 46] = ⟨[⟨1, 0, 1⟩, ⟨4, 1, 2⟩, ⟨2, 2, 3⟩, ⟨4, 3, 4⟩, ⟨4, 4, 6⟩, ⟨1, 6, 7⟩, ⟨4, 7, 8⟩, ⟨3, 9, 10⟩, ⟨4, 10, 11⟩, ⟨3, 11, 13⟩, ⟨4, 13, 14⟩], 0, 0⟩ := (allF_tok _ _ _ _ 1 1 (by kernel_rfl)).trans (by rw [show allF 13 (0 + 1) (List.drop 1 [112, 40, 88, 41, 58, 45, 113, 44, 32, 55, 60, 45, 55, 46]) = _ from fx_a_1]; kernel_rfl)
theorem fix_a : allL [112, 40, 88, 41, 58, 45, 113, 44, 32, 55, 60, 45, 55, 46] = ⟨[⟨1, 0, 1⟩, ⟨4, 1, 2⟩, ⟨2, 2, 3⟩, ⟨4, 3, 4⟩, ⟨4, 4, 6⟩, ⟨1, 6, 7⟩, ⟨4, 7, 8⟩, ⟨3, 9, 10⟩, ⟨4, 10, 11⟩, ⟨3, 11, 13⟩, ⟨4, 13, 14⟩], 0, 0⟩ := (allL_short _ (by decide)).trans fx_a_0
theorem fx_b_3 : allF 2 3 [45, 98] = ⟨[], 3, 5⟩ := allF_err _ _ _ _ (by kernel_rfl)
theorem fx_b_2 : allF 3 2 [97, 45, 98] = ⟨[], 3, 5⟩ := (allF_tok _ _ _ _ 1 1 (by kernel_rfl)).trans (by rw [show allF 2 (2 + 1) (List.drop 1 [97, 45, 98]) = _ from fx_b_3]; kernel_rfl)
theorem fx_b_1 : allF 4 1 [32, 97, 45, 98] = ⟨[], 3, 5⟩ := (allF_blank _ _ _ _ (by kernel_rfl)).trans fx_b_2
theorem fx_b_0 : allF 5 0 [112, 32, 97, 45, 98] = ⟨[], 3, 5⟩ := (allF_tok _ _ _ _ 1 1 (by kernel_rfl)).trans (by rw [show allF 4 (0 + 1) (List.drop 1 [112, 32, 97, 45, 98]) = _ from fx_b_1]; kernel_rfl)
theorem fix_b : allL [112, 32, 97, 45, 98] = ⟨[], 3, 5⟩ := (allL_short _ (by decide)).trans fx_b_0
theorem fx_c_3 : allF 2 5 [] = ⟨[], 0, 0⟩ := rfl
theorem fx_c_2 : allF 3 3 [45, 53] = ⟨[⟨3, 3, 5⟩], 0, 0⟩ := (allF_tok _ _ _ _ 3 2 (one_num 45 [53] 2 rfl rfl rfl rfl (.inl ⟨rfl, rfl⟩) rfl kind_m5)).trans (by rw [show allF 2 (3 + 2) (List.drop 2 [45, 53]) = _ from fx_c_3]; kernel_rfl)
theorem fx_c_1 : allF 4 1 [58, 45, 45, 53] = ⟨[⟨4, 1, 3⟩, ⟨3, 3, 5⟩], 0, 0⟩ := (allF_tok _ _ _ _ 4 2 (by kernel_rfl)).trans (by rw [show allF 3 (1 + 2) (List.drop 2 [58, 45, 45, 53]) = _ from fx_c_2]; kernel_rfl)
theorem fx_c_0 : allF 5 0 [120, 58, 45, 45, 53] = ⟨[⟨1, 0, 1⟩, ⟨4, 1, 3⟩, ⟨3, 3, 5⟩], 0, 0⟩ := (allF_tok _ _ _ _ 1 1 (by kernel_rfl)).trans (by rw [show allF 4 (0 + 1) (List.drop 1 [120, 58, 45, 45, 53]) = _ from fx_c_1]; kernel_rfl)
theorem fix_c : allL [120, 58, 45, 45, 53] = ⟨[⟨1, 0, 1⟩, ⟨4, 1, 3⟩, ⟨3, 3, 5⟩], 0, 0⟩ := (allL_short _ (by decide)).trans fx_c_0
theorem fix_d : oneA [97, 32, 110, 111, 116] 2 = ⟨0, 5, 3⟩ := by kernel_rfl
end Go.Proofs.YtpkccmceobonnaaDoor
