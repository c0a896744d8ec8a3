/-
  Contract: the reference's One, whole.
-/
import Derived.Test.YtpkccmceobonnaaDoorRone
import Derived.Test.YtpkccmceobonnaaDoorOneA
namespace Go.Proofs.YtpkccmceobonnaaDoor
open Go.RowKit

set_option maxHeartbeats 1000000 in
theorem refone_any (s : ByteArray) (a : Int) (w : World) (hm : s.size ≤ 140737488351232) : Calls Tryd.prog 14 #[.string s, .int .i64 a] w fun e w' => e = .returned (oneV s.data.toList a) ∧ Below w.heap.size w w' := by
  by_cases ho : a < 0 ∨ (¬ a < 0 ∧ (s.size : Int) ≤ a)
  · rw [oneV_out s a (by omega)]; exact rone_out s a w hm ho
  obtain ⟨k, rfl⟩ := Int.eq_ofNat_of_zero_le (show 0 ≤ a by omega)
  have hk : k < s.size := by omega
  by_cases hb : (s[k].toNat == 32 || s[k].toNat == 9) = true
  · rw [oneV_in s k hk _ (oneL_blank _ _ hb)]
    refine rone_blank s k w hk hm ?_
    cases h1 : (s[k].toNat == 32) with
    | true => exact .inl rfl
    | false => rw [h1] at hb; exact .inr ⟨rfl, hb⟩
  have hb' : (s[k].toNat == 32 || s[k].toNat == 9) = false := by simpa using hb
  have g1 : (s[k].toNat == 32) = false := by rw [Bool.or_eq_false_iff] at hb'; exact hb'.1
  have g2 : (s[k].toNat == 9) = false := by rw [Bool.or_eq_false_iff] at hb'; exact hb'.2
  by_cases hs : (s[k].toNat == 40 || s[k].toNat == 41 || s[k].toNat == 44 || s[k].toNat == 46 || s[k].toNat == 60) = true
  · rw [oneV_in s k hk _ (oneL_sign _ _ hb' hs)]
    refine rone_sign s k w hk hm g1 g2 ?_
    cases h1 : (s[k].toNat == 40) <;> cases h2 : (s[k].toNat == 41) <;> cases h3 : (s[k].toNat == 44) <;> cases h4 : (s[k].toNat == 46) <;> cases h5 : (s[k].toNat == 60) <;> simp_all
  have hs' : (s[k].toNat == 40 || s[k].toNat == 41 || s[k].toNat == 44 || s[k].toNat == 46 || s[k].toNat == 60) = false := by simpa using hs
  obtain ⟨g3, g4, g5, g6, g7⟩ : (s[k].toNat == 40) = false ∧ (s[k].toNat == 41) = false ∧ (s[k].toNat == 44) = false ∧ (s[k].toNat == 46) = false ∧ (s[k].toNat == 60) = false := by
    simp only [Bool.or_eq_false_iff] at hs'; exact ⟨hs'.1.1.1.1, hs'.1.1.1.2, hs'.1.1.2, hs'.1.2, hs'.2⟩
  by_cases h8 : (s[k].toNat == 58) = true
  · by_cases hn : ((s.data.toList.drop (k + 1)).headD 0).toNat == 45
    · obtain ⟨hk1, he1⟩ := next_is s k 45 (by decide) hn
      rw [oneV_in s k hk _ (oneL_colon _ _ hb' hs' h8 hn)]
      exact rone_colon_yes s k w hk hm g1 g2 g3 g4 g5 g6 g7 h8 hk1 he1
    · have hn : (((s.data.toList.drop (k + 1)).headD 0).toNat == 45) = false := by simpa using hn
      rw [oneV_in s k hk _ (oneL_colon_no _ _ hb' hs' h8 hn)]
      exact rone_colon_no s k w hk hm g1 g2 g3 g4 g5 g6 g7 h8 (next_not s k 45 hn)
  have h8 : (s[k].toNat == 58) = false := by simpa using h8
  by_cases h9 : (s[k].toNat == 33) = true
  · by_cases hn : ((s.data.toList.drop (k + 1)).headD 0).toNat == 61
    · obtain ⟨hk1, he1⟩ := next_is s k 61 (by decide) hn
      rw [oneV_in s k hk _ (oneL_bang _ _ hb' hs' h8 h9 hn)]
      exact rone_bang_yes s k w hk hm g1 g2 g3 g4 g5 g6 g7 h8 h9 hk1 he1
    · have hn : (((s.data.toList.drop (k + 1)).headD 0).toNat == 61) = false := by simpa using hn
      rw [oneV_in s k hk _ (oneL_bang_no _ _ hb' hs' h8 h9 hn)]
      exact rone_bang_no s k w hk hm g1 g2 g3 g4 g5 g6 g7 h8 h9 (next_not s k 61 hn)
  have h9 : (s[k].toNat == 33) = false := by simpa using h9
  have hst : 1 + runL (s.data.toList.drop (k + 1)) = k + 1 + runL (s.data.toList.drop (k + 1)) - k := by omega
  have hkd : kindL ((s[k] :: s.data.toList.drop (k + 1)).take (1 + runL (s.data.toList.drop (k + 1)))) = kindL (s.extract k (k + 1 + runL (s.data.toList.drop (k + 1)))).data.toList := by
    rw [hst, ← drop_at s k hk, extract_list]
  have hsz : (s.extract k (k + 1 + runL (s.data.toList.drop (k + 1)))).size ≤ 140737488351232 := by rw [ByteArray.size_extract]; omega
  have hpo : 0 < (s.extract k (k + 1 + runL (s.data.toList.drop (k + 1)))).size := by
    have := runL_le (s.data.toList.drop (k + 1))
    simp at this
    rw [ByteArray.size_extract]; omega
  by_cases hp : ((s[k].toNat == 45) = true ∧ digB ((s.data.toList.drop (k + 1)).headD 0).toNat = true) ∨ ((s[k].toNat == 45) = false ∧ winB (s[k].toNat : Int) = true)
  · have hl := oneL_piece _ _ hb' hs' h8 h9 hp
    have hmode : ((s[k].toNat == 45) = true ∧ ∃ h : k + 1 < s.size, digB (s[k + 1].toNat : Int) = true) ∨ ((s[k].toNat == 45) = false ∧ winB (s[k].toNat : Int) = true) := by
      rcases hp with ⟨h1, h2⟩ | h
      · exact .inl ⟨h1, next_dig s k h2⟩
      · exact .inr h
    by_cases hz : kindL (s.extract k (k + 1 + runL (s.data.toList.drop (k + 1)))).data.toList = 0
    · rw [oneV_in s k hk ⟨5, 0, 0⟩ (by rw [hl, pieceL, if_pos (by rw [hkd]; exact hz)])]
      exact rone_piece_no s k _ _ w  hk hm rfl (by rw [hz]; rfl) (fun wx => refkind_any _ wx hsz) hmode g1 g2 g3 g4 g5 g6 g7 h8 h9
    · rw [oneV_in s k hk ⟨0, kindL (s.extract k (k + 1 + runL (s.data.toList.drop (k + 1)))).data.toList, 1 + runL (s.data.toList.drop (k + 1))⟩ (by rw [hl, pieceL, if_neg (by rw [hkd]; exact hz), hkd])]
      have hto : ((k : Int) + ((1 + runL (s.data.toList.drop (k + 1)) : Nat) : Int)) = ((k + 1 + runL (s.data.toList.drop (k + 1)) : Nat) : Int) := by omega
      unfold ansV
      simp only [if_true, hto]
      exact rone_piece_yes s k _ _ w  hk hm rfl (by simpa using hz) (fun wx => refkind_any _ wx hsz) hmode g1 g2 g3 g4 g5 g6 g7 h8 h9
  · rw [oneV_in s k hk ⟨5, 0, 0⟩ (oneL_none _ _ hb' hs' h8 h9 hp)]
    cases h10 : (s[k].toNat == 45) with
    | true =>
      have hd : digB ((s.data.toList.drop (k + 1)).headD 0).toNat = false := by
        cases h : digB ((s.data.toList.drop (k + 1)).headD 0).toNat with
        | false => rfl
        | true => exact absurd (.inl ⟨h10, h⟩) hp
      exact rone_minus_no s k w hk hm g1 g2 g3 g4 g5 g6 g7 h8 h9 h10 (next_nodig s k hd)
    | false =>
      have hd : winB (s[k].toNat : Int) = false := by
        cases h : winB (s[k].toNat : Int) with
        | false => rfl
        | true => exact absurd (.inr ⟨h10, h⟩) hp
      exact rone_other s k w hk hm g1 g2 g3 g4 g5 g6 g7 h8 h9 h10 hd
end Go.Proofs.YtpkccmceobonnaaDoor
