/-
  Contracts: the reference's Number at any number, and its Text.
-/
import Derived.Test.YtdoadclblloddaaDoorNumA
import Derived.Test.YtdoadclblloddaaDoorNumB
import Derived.Test.YtdoadclblloddaaDoorNumC
namespace Go.Proofs.YtdoadclblloddaaDoor
open Go.RowKit

theorem number_any (n : Int) (w : World) (h0 : -9223372036854775808 ≤ n) (h1 : n ≤ 9223372036854775807) :
    Calls Tryd.prog 34 #[.int .i64 n] w fun e w' => e = .returned (.string (itoaS n)) ∧ Below w.heap.size w w' := by
  by_cases hp : 0 ≤ n
  · rw [itoa_pos n hp]; exact number_pos n w hp h1
  · by_cases hl : n = -9223372036854775808
    · rw [show itoaS n = _ from hl ▸ itoa_least]
      exact number_least n w (by rw [hl]; rfl)
    · have e : (10 : Nat) ^ (19 + 1) = 100000000000000000000 := by decide
      have hz : (⟨(Lib.decDigits (-n).toNat).toArray⟩ : ByteArray).size ≤ 30 := by
        show (Lib.decDigits (-n).toNat).length ≤ 30
        have := dec_len 19 (-n).toNat (by omega)
        omega
      rw [itoa_neg n (by omega)]
      exact number_neg n _ w (by omega) (by omega) hz rfl

set_option maxHeartbeats 400000 in
theorem reftext_any (s : ByteArray) (n : Int) (w : World) (hs : s.size ≤ maxLen) (h0 : -9223372036854775808 ≤ n) (h1 : n ≤ 9223372036854775807) :
    Calls Tryd.prog 20 #[.agg #[.string s, .int .i64 n]] w fun e w' => e = .returned (.tuple #[.string (textS s n), .bool (goodB s n)]) ∧ Below w.heap.size w w' := by
  by_cases hg : goodB s n = true
  · by_cases h2 : s.toList.isEmpty = true
    · have H := Lib.hid (show textS s n = itoaS n by simp [textS, hg, h2])
      have q1 : ((s.size : Int) == 0) = true := by rw [sz_eq, h2]
      have q : ¬ 0 < s.size := by have := beq_iff_eq.1 q1; omega
      go_enter Tryd.func20, Tryd.ntmps20
      go_wp2_with fail
      refine (refgood_any _ _ _ hs).mono ?_
      rintro e w1 ⟨rfl, hb⟩
      obtain ⟨hc, hf⟩ := bcell hb
      go_wp2_with fail
      refine (number_any n _ h0 h1).mono ?_
      rintro e w2 ⟨rfl, hb2⟩
      go_wp2_with fail
      go_ret2
      exact ⟨by rw [H.out, hg]; rfl, (app1 hb).trans (hb2.mono (app1 hb).size)⟩
    · have h2 : s.toList.isEmpty = false := by simpa using h2
      have H := Lib.hid (show textS s n = s by simp [textS, hg, h2])
      have q : 0 < s.size := pos_of_ne s h2
      go_enter Tryd.func20, Tryd.ntmps20
      go_wp2_with fail
      refine (refgood_any _ _ _ hs).mono ?_
      rintro e w1 ⟨rfl, hb⟩
      obtain ⟨hc, hf⟩ := bcell hb
      go_wp2_with fail
      go_ret2
      exact ⟨by rw [H.out, hg]; rfl, app1 hb⟩
  · have hg : goodB s n = false := by simpa using hg
    have H := Lib.hid (show textS s n = ⟨#[]⟩ by simp [textS, hg])
    go_enter Tryd.func20, Tryd.ntmps20
    go_wp2_with fail
    refine (refgood_any _ _ _ hs).mono ?_
    rintro e w1 ⟨rfl, hb⟩
    obtain ⟨hc, hf⟩ := bcell hb
    go_wp2_with fail
    go_ret2
    exact ⟨by rw [H.out, hg]; rfl, app1 hb⟩
end Go.Proofs.YtdoadclblloddaaDoor
