/-
  Plain facts on value.Text and value.Read: there and back.
-/
import Derived.Test.YtpkccmceobonnaaDoorRead2
import Derived.Test.YtpkccmceobonnaaDoorDec
namespace Go.Proofs.YtpkccmceobonnaaDoor
open Go.RowKit

def readS (s : ByteArray) : ByteArray := if nameB s = true then s else ⟨#[]⟩
def readI (s : ByteArray) : Int := if nameB s = true then 0 else (readN s).getD 0
def readB (s : ByteArray) : Bool := nameB s || (readN s).isSome
theorem readV_eq (s : ByteArray) : readV s = .tuple #[.agg #[.string (readS s), .int .i64 (readI s)], .bool (readB s)] := by
  unfold readV readS readI readB
  by_cases h : nameB s = true
  · simp [h]
  · have h : nameB s = false := by simpa using h
    rw [h]
    cases readN s <;> simp
theorem nil_of_empty (s : ByteArray) (h : s.toList.isEmpty = true) : s = ⟨#[]⟩ := by
  rw [ByteArray.toList_eq] at h
  obtain ⟨⟨l⟩⟩ := s
  cases l with
  | nil => rfl
  | cons c r => cases h
theorem isEmpty_nil : (⟨#[]⟩ : ByteArray).toList.isEmpty = true := by rw [ByteArray.toList_eq]; rfl
theorem good_nil (n : Int) : goodB ⟨#[]⟩ n = true := by unfold goodB; rw [isEmpty_nil]; rfl
theorem nameB_ne (s : ByteArray) (h : nameB s = true) : s.toList.isEmpty = false := by
  unfold nameB at h
  cases e : s.toList.isEmpty with
  | false => rfl
  | true => rw [e] at h; simp at h
theorem nameB_size (s : ByteArray) (h : nameB s = true) : s.size ≤ 16 := by
  unfold nameB at h
  simp only [Bool.and_eq_true, decide_eq_true_eq] at h
  exact h.1.1.1.2
theorem name_itoa (n : Int) : nameB (itoaS n) = false := by
  obtain ⟨c, r, e, hc⟩ := itoa_head n
  have h : hdB (itoaS n) = c.toNat := by unfold hdB itoaS; rw [e]; rfl
  have : letB (hdB (itoaS n)) = false := by rw [h]; simp only [letB, Bool.and_eq_false_iff, decide_eq_false_iff_not]; omega
  unfold nameB; rw [this]; simp
theorem readN_itoa (n : Int) (h0 : -9223372036854775808 ≤ n) (h1 : n ≤ 9223372036854775807) : readN (itoaS n) = some n := by
  have e : (itoaS n).data.toList = Lib.itoa n := rfl
  unfold readN
  rw [e, parse_itoa n h0 h1]
  simp
theorem dec_len (k : Nat) : ∀ u, u < 10 ^ (k + 1) → (Lib.decDigits u).length ≤ k + 1 := by
  induction k with
  | zero => intro u h; rw [Lib.decDigits, dif_pos (by simpa using h)]; simp
  | succ k ih =>
    intro u h
    by_cases hu : u < 10
    · rw [Lib.decDigits, dif_pos hu]; simp
    · rw [Lib.decDigits, dif_neg hu, List.length_append]
      have := ih (u / 10) (by rw [Nat.pow_succ] at h; omega)
      simp; omega
theorem itoa_size (n : Int) (h0 : -9223372036854775808 ≤ n) (h1 : n ≤ 9223372036854775807) : (itoaS n).size ≤ 30 := by
  show (Lib.itoa n).length ≤ 30
  have e : (10 : Nat) ^ (19 + 1) = 100000000000000000000 := by decide
  unfold Lib.itoa
  by_cases hn : n < 0
  · rw [if_pos hn]
    have := dec_len 19 n.natAbs (by omega)
    simp; omega
  · rw [if_neg hn]
    have := dec_len 19 n.toNat (by omega)
    omega
theorem text_size (s : ByteArray) (n : Int) (h0 : -9223372036854775808 ≤ n) (h1 : n ≤ 9223372036854775807) : (textS s n).size ≤ 140737488351232 := by
  unfold textS
  by_cases g : goodB s n = true
  · rw [if_pos g]
    by_cases e : s.toList.isEmpty = true
    · rw [if_pos e]; have := itoa_size n h0 h1; omega
    · rw [if_neg e]
      have : nameB s = true := by unfold goodB at g; simp at e; simp [e] at g; exact g.2
      have := nameB_size s this; omega
  · rw [if_neg g]; decide
/-- what is written is read as it was -/
theorem back_text (s : ByteArray) (n : Int) (h0 : -9223372036854775808 ≤ n) (h1 : n ≤ 9223372036854775807) (g : goodB s n = true) : readB (textS s n) = true ∧ readS (textS s n) = s ∧ readI (textS s n) = n := by
  by_cases e : s.toList.isEmpty = true
  · have ht : textS s n = itoaS n := by unfold textS; rw [if_pos g, if_pos e]
    rw [ht]
    refine ⟨by unfold readB; rw [readN_itoa n h0 h1]; simp, by unfold readS; rw [name_itoa, nil_of_empty s e]; rfl, by unfold readI; rw [name_itoa, readN_itoa n h0 h1]; rfl⟩
  · have e' : s.toList.isEmpty = false := by simpa using e
    have ht : textS s n = s := by unfold textS; rw [if_pos g, if_neg e]
    have g2 : n = 0 ∧ nameB s = true := by unfold goodB at g; rw [e'] at g; simpa using g
    rw [ht]
    refine ⟨by unfold readB; rw [g2.2]; rfl, by unfold readS; rw [if_pos g2.2], by unfold readI; rw [if_pos g2.2]; exact g2.1.symm⟩
/-- what is read is written as it was -/
theorem back_read (s : ByteArray) (h : readB s = true) : goodB (readS s) (readI s) = true ∧ textS (readS s) (readI s) = s := by
  by_cases hn : nameB s = true
  · have e := nameB_ne s hn
    have g : goodB s 0 = true := by unfold goodB; rw [hn, e]; rfl
    unfold readS readI; rw [if_pos hn, if_pos hn]
    exact ⟨g, by unfold textS; rw [if_pos g, e]; rfl⟩
  · have hn : nameB s = false := by simpa using hn
    unfold readB at h; rw [hn, Bool.false_or] at h
    unfold readS readI; rw [hn]
    obtain ⟨v, hv⟩ := Option.isSome_iff_exists.1 h
    rw [hv]
    refine ⟨good_nil _, ?_⟩
    show textS ⟨#[]⟩ v = s
    unfold textS
    rw [if_pos (good_nil v), if_pos isEmpty_nil]
    unfold readN at hv
    split at hv
    · rename_i u _
      by_cases h2 : Lib.itoa u = s.data.toList
      · rw [if_pos h2] at hv; cases hv
        unfold itoaS; rw [h2]
      · rw [if_neg h2] at hv; cases hv
    · cases hv
theorem readI_bd (s : ByteArray) : -9223372036854775808 ≤ readI s ∧ readI s ≤ 9223372036854775807 := by
  unfold readI
  by_cases hn : nameB s = true
  · rw [if_pos hn]; omega
  · rw [if_neg hn]
    cases hv : readN s with
    | none => simp
    | some v =>
      unfold readN at hv
      split at hv
      · rename_i u hu
        by_cases h2 : Lib.itoa u = s.data.toList
        · rw [if_pos h2] at hv; cases hv; exact parseIntB_bd _ _ hu
        · rw [if_neg h2] at hv; cases hv
      · cases hv
theorem readS_size (s : ByteArray) : (readS s).size ≤ maxLen := by
  unfold readS
  by_cases hn : nameB s = true
  · rw [if_pos hn]; have := nameB_size s hn; unfold maxLen; omega
  · rw [if_neg hn]; decide
end Go.Proofs.YtpkccmceobonnaaDoor
