/-
  Contract: lex.One, whole.
-/
import Derived.Test.YtpkccmceobonnaaDoorOneC
namespace Go.Proofs.YtpkccmceobonnaaDoor
open Go.RowKit

/-- an answer as a value -/
def ansV (t : Tk) (a : Int) : Value := .tuple #[.agg #[.int .u8 t.kind, .int .i64 (if t.err = 0 then a else 0), .int .i64 (if t.err = 0 then a + t.len else 0)], .int .i64 t.err]
theorem oneV_out (s : ByteArray) (a : Int) (h : a < 0 ∨ (s.size : Int) ≤ a) : oneV s.data.toList a = ansV ⟨1, 0, 0⟩ a := by
  unfold oneV oneA
  rw [if_neg (by simp; omega)]; rfl
theorem oneV_in (s : ByteArray) (k : Nat) (hk : k < s.size) (t : Tk) (h : oneL (s[k] :: s.data.toList.drop (k + 1)) = t) : oneV s.data.toList k = ansV t k := by
  unfold oneV oneA
  rw [if_pos (by simp; omega), show ((k : Int)).toNat = k from rfl, drop_at s k hk, h]; rfl
theorem extract_list (s : ByteArray) (k e : Nat) : (s.extract k e).data.toList = (s.data.toList.drop k).take (e - k) := by
  rw [ByteArray.data_extract]; simp [List.extract_eq_take_drop]
theorem next_some (s : ByteArray) (k : Nat) (hk : k + 1 < s.size) : (s.data.toList.drop (k + 1)).headD 0 = s[k + 1] := by
  rw [drop_at s (k + 1) hk]; rfl
theorem next_none (s : ByteArray) (k : Nat) (hk : ¬ k + 1 < s.size) : (s.data.toList.drop (k + 1)).headD 0 = 0 := by
  rw [List.drop_eq_nil_of_le (by simp; omega)]; rfl
theorem next_is (s : ByteArray) (k n : Nat) (h0 : 0 < n) (h : ((s.data.toList.drop (k + 1)).headD 0).toNat == n) : ∃ hk1 : k + 1 < s.size, (s[k + 1].toNat == n) = true := by
  by_cases hk : k + 1 < s.size
  · rw [next_some s k hk] at h; exact ⟨hk, h⟩
  · rw [next_none s k hk] at h; simp at h; omega
theorem next_not (s : ByteArray) (k n : Nat) (h : (((s.data.toList.drop (k + 1)).headD 0).toNat == n) = false) : ¬ k + 1 < s.size ∨ ∃ hk1 : k + 1 < s.size, (s[k + 1].toNat == n) = false := by
  by_cases hk : k + 1 < s.size
  · rw [next_some s k hk] at h; exact .inr ⟨hk, h⟩
  · exact .inl hk
theorem next_dig (s : ByteArray) (k : Nat) (h : digB ((s.data.toList.drop (k + 1)).headD 0).toNat = true) : ∃ hk1 : k + 1 < s.size, digB (s[k + 1].toNat : Int) = true := by
  by_cases hk : k + 1 < s.size
  · rw [next_some s k hk] at h; exact ⟨hk, h⟩
  · rw [next_none s k hk] at h; simp [digB] at h
theorem next_nodig (s : ByteArray) (k : Nat) (h : digB ((s.data.toList.drop (k + 1)).headD 0).toNat = false) : ¬ k + 1 < s.size ∨ ∃ hk1 : k + 1 < s.size, digB (s[k + 1].toNat : Int) = false := by
  by_cases hk : k + 1 < s.size
  · rw [next_some s k hk] at h; exact .inr ⟨hk, h⟩
  · exact .inl hk

theorem nt {b : Bool} (h : b = false) : ¬ b = true := by rw [h]; decide
abbrev Blk (c : UInt8) : Bool := (c.toNat == 32 || c.toNat == 9)
abbrev Sgn (c : UInt8) : Bool := (c.toNat == 40 || c.toNat == 41 || c.toNat == 44 || c.toNat == 46 || c.toNat == 60)
theorem oneL_blank (c : UInt8) (r : List UInt8) (h : Blk c = true) : oneL (c :: r) = ⟨4, 0, 0⟩ := by rw [oneL, if_pos h]
theorem oneL_sign (c : UInt8) (r : List UInt8) (h : Blk c = false) (h2 : Sgn c = true) : oneL (c :: r) = ⟨0, 4, 1⟩ := by rw [oneL, if_neg (nt h), if_pos h2]
theorem oneL_colon (c : UInt8) (r : List UInt8) (h : Blk c = false) (h2 : Sgn c = false) (h3 : (c.toNat == 58) = true) (h4 : ((r.headD 0).toNat == 45) = true) : oneL (c :: r) = ⟨0, 4, 2⟩ := by
  rw [oneL, if_neg (nt h), if_neg (nt h2), if_pos h3, if_pos h4]
theorem oneL_colon_no (c : UInt8) (r : List UInt8) (h : Blk c = false) (h2 : Sgn c = false) (h3 : (c.toNat == 58) = true) (h4 : ((r.headD 0).toNat == 45) = false) : oneL (c :: r) = ⟨5, 0, 0⟩ := by
  rw [oneL, if_neg (nt h), if_neg (nt h2), if_pos h3, if_neg (nt h4)]
theorem oneL_bang (c : UInt8) (r : List UInt8) (h : Blk c = false) (h2 : Sgn c = false) (h3 : (c.toNat == 58) = false) (h4 : (c.toNat == 33) = true) (h5 : ((r.headD 0).toNat == 61) = true) : oneL (c :: r) = ⟨0, 4, 2⟩ := by
  rw [oneL, if_neg (nt h), if_neg (nt h2), if_neg (nt h3), if_pos h4, if_pos h5]
theorem oneL_bang_no (c : UInt8) (r : List UInt8) (h : Blk c = false) (h2 : Sgn c = false) (h3 : (c.toNat == 58) = false) (h4 : (c.toNat == 33) = true) (h5 : ((r.headD 0).toNat == 61) = false) : oneL (c :: r) = ⟨5, 0, 0⟩ := by
  rw [oneL, if_neg (nt h), if_neg (nt h2), if_neg (nt h3), if_pos h4, if_neg (nt h5)]
abbrev Begins (c : UInt8) (r : List UInt8) : Prop := ((c.toNat == 45) = true ∧ digB (r.headD 0).toNat = true) ∨ ((c.toNat == 45) = false ∧ winB (c.toNat : Int) = true)
theorem oneL_piece (c : UInt8) (r : List UInt8) (h : Blk c = false) (h2 : Sgn c = false) (h3 : (c.toNat == 58) = false) (h4 : (c.toNat == 33) = false) (h5 : Begins c r) : oneL (c :: r) = pieceL (c :: r) (1 + runL r) := by
  rw [oneL, if_neg (nt h), if_neg (nt h2), if_neg (nt h3), if_neg (nt h4)]
  rcases h5 with ⟨a, b⟩ | ⟨a, b⟩
  · rw [if_pos a, if_pos b]
  · rw [if_neg (nt a), if_pos b]
theorem oneL_none (c : UInt8) (r : List UInt8) (h : Blk c = false) (h2 : Sgn c = false) (h3 : (c.toNat == 58) = false) (h4 : (c.toNat == 33) = false) (h5 : ¬ Begins c r) : oneL (c :: r) = ⟨5, 0, 0⟩ := by
  rw [oneL, if_neg (nt h), if_neg (nt h2), if_neg (nt h3), if_neg (nt h4)]
  cases a : (c.toNat == 45) with
  | true => rw [if_pos rfl, if_neg (fun b => h5 (.inl ⟨a, b⟩))]
  | false => rw [if_neg (by decide), if_neg (fun b => h5 (.inr ⟨a, b⟩))]

set_option maxHeartbeats 1000000 in
theorem one_any (s : ByteArray) (a : Int) (w : World) (hm : s.size ≤ 140737488351232) (he : Env w) : Calls Tryd.prog 13 #[.string s, .int .i64 a] w fun e w' => e = .returned (oneV s.data.toList a) ∧ Below w.heap.size w w' := by
  by_cases ho : a < 0 ∨ (¬ a < 0 ∧ (s.size : Int) ≤ a)
  · rw [oneV_out s a (by omega)]; exact one_out s a w hm ho
  obtain ⟨k, rfl⟩ := Int.eq_ofNat_of_zero_le (show 0 ≤ a by omega)
  have hk : k < s.size := by omega
  by_cases hb : (s[k].toNat == 32 || s[k].toNat == 9) = true
  · rw [oneV_in s k hk _ (oneL_blank _ _ hb)]
    refine one_blank s k w hk hm ?_
    cases h1 : (s[k].toNat == 32) with
    | true => exact .inl rfl
    | false => rw [h1] at hb; exact .inr ⟨rfl, hb⟩
  have hb' : (s[k].toNat == 32 || s[k].toNat == 9) = false := by simpa using hb
  have g1 : (s[k].toNat == 32) = false := by rw [Bool.or_eq_false_iff] at hb'; exact hb'.1
  have g2 : (s[k].toNat == 9) = false := by rw [Bool.or_eq_false_iff] at hb'; exact hb'.2
  by_cases hs : (s[k].toNat == 40 || s[k].toNat == 41 || s[k].toNat == 44 || s[k].toNat == 46 || s[k].toNat == 60) = true
  · rw [oneV_in s k hk _ (oneL_sign _ _ hb' hs)]
    refine one_sign s k w hk hm g1 g2 ?_
    cases h1 : (s[k].toNat == 40) <;> cases h2 : (s[k].toNat == 41) <;> cases h3 : (s[k].toNat == 44) <;> cases h4 : (s[k].toNat == 46) <;> cases h5 : (s[k].toNat == 60) <;> simp_all
  have hs' : (s[k].toNat == 40 || s[k].toNat == 41 || s[k].toNat == 44 || s[k].toNat == 46 || s[k].toNat == 60) = false := by simpa using hs
  obtain ⟨g3, g4, g5, g6, g7⟩ : (s[k].toNat == 40) = false ∧ (s[k].toNat == 41) = false ∧ (s[k].toNat == 44) = false ∧ (s[k].toNat == 46) = false ∧ (s[k].toNat == 60) = false := by
    simp only [Bool.or_eq_false_iff] at hs'; exact ⟨hs'.1.1.1.1, hs'.1.1.1.2, hs'.1.1.2, hs'.1.2, hs'.2⟩
  by_cases h8 : (s[k].toNat == 58) = true
  · by_cases hn : ((s.data.toList.drop (k + 1)).headD 0).toNat == 45
    · obtain ⟨hk1, he1⟩ := next_is s k 45 (by decide) hn
      rw [oneV_in s k hk _ (oneL_colon _ _ hb' hs' h8 hn)]
      exact one_colon_yes s k w hk hm g1 g2 g3 g4 g5 g6 g7 h8 hk1 he1
    · have hn : (((s.data.toList.drop (k + 1)).headD 0).toNat == 45) = false := by simpa using hn
      rw [oneV_in s k hk _ (oneL_colon_no _ _ hb' hs' h8 hn)]
      exact one_colon_no s k w hk hm g1 g2 g3 g4 g5 g6 g7 h8 (next_not s k 45 hn)
  have h8 : (s[k].toNat == 58) = false := by simpa using h8
  by_cases h9 : (s[k].toNat == 33) = true
  · by_cases hn : ((s.data.toList.drop (k + 1)).headD 0).toNat == 61
    · obtain ⟨hk1, he1⟩ := next_is s k 61 (by decide) hn
      rw [oneV_in s k hk _ (oneL_bang _ _ hb' hs' h8 h9 hn)]
      exact one_bang_yes s k w hk hm g1 g2 g3 g4 g5 g6 g7 h8 h9 hk1 he1
    · have hn : (((s.data.toList.drop (k + 1)).headD 0).toNat == 61) = false := by simpa using hn
      rw [oneV_in s k hk _ (oneL_bang_no _ _ hb' hs' h8 h9 hn)]
      exact one_bang_no s k w hk hm g1 g2 g3 g4 g5 g6 g7 h8 h9 (next_not s k 61 hn)
  have h9 : (s[k].toNat == 33) = false := by simpa using h9
  have hst : 1 + runL (s.data.toList.drop (k + 1)) = k + 1 + runL (s.data.toList.drop (k + 1)) - k := by omega
  have hkd : kindL ((s[k] :: s.data.toList.drop (k + 1)).take (1 + runL (s.data.toList.drop (k + 1)))) = kindL (s.extract k (k + 1 + runL (s.data.toList.drop (k + 1)))).data.toList := by
    rw [hst, ← drop_at s k hk, extract_list]
  have hsz : (s.extract k (k + 1 + runL (s.data.toList.drop (k + 1)))).size ≤ 140737488351232 := by rw [ByteArray.size_extract]; omega
  have hpo : 0 < (s.extract k (k + 1 + runL (s.data.toList.drop (k + 1)))).size := by
    have := runL_le (s.data.toList.drop (k + 1))
    simp at this
    rw [ByteArray.size_extract]; omega
  by_cases hp : ((s[k].toNat == 45) = true ∧ digB ((s.data.toList.drop (k + 1)).headD 0).toNat = true) ∨ ((s[k].toNat == 45) = false ∧ winB (s[k].toNat : Int) = true)
  · have hl := oneL_piece _ _ hb' hs' h8 h9 hp
    have hmode : ((s[k].toNat == 45) = true ∧ ∃ h : k + 1 < s.size, digB (s[k + 1].toNat : Int) = true) ∨ ((s[k].toNat == 45) = false ∧ winB (s[k].toNat : Int) = true) := by
      rcases hp with ⟨h1, h2⟩ | h
      · exact .inl ⟨h1, next_dig s k h2⟩
      · exact .inr h
    by_cases hz : kindL (s.extract k (k + 1 + runL (s.data.toList.drop (k + 1)))).data.toList = 0
    · rw [oneV_in s k hk ⟨5, 0, 0⟩ (by rw [hl, pieceL, if_pos (by rw [hkd]; exact hz)])]
      exact one_piece_no s k _ _ w he hk hm rfl (by rw [hz]; rfl) (fun wx hex => kind_any _ wx hsz hpo hex) hmode g1 g2 g3 g4 g5 g6 g7 h8 h9
    · rw [oneV_in s k hk ⟨0, kindL (s.extract k (k + 1 + runL (s.data.toList.drop (k + 1)))).data.toList, 1 + runL (s.data.toList.drop (k + 1))⟩ (by rw [hl, pieceL, if_neg (by rw [hkd]; exact hz), hkd])]
      have hto : ((k : Int) + ((1 + runL (s.data.toList.drop (k + 1)) : Nat) : Int)) = ((k + 1 + runL (s.data.toList.drop (k + 1)) : Nat) : Int) := by omega
      unfold ansV
      simp only [if_true, hto]
      exact one_piece_yes s k _ _ w he hk hm rfl (by simpa using hz) (fun wx hex => kind_any _ wx hsz hpo hex) hmode g1 g2 g3 g4 g5 g6 g7 h8 h9
  · rw [oneV_in s k hk ⟨5, 0, 0⟩ (oneL_none _ _ hb' hs' h8 h9 hp)]
    cases h10 : (s[k].toNat == 45) with
    | true =>
      have hd : digB ((s.data.toList.drop (k + 1)).headD 0).toNat = false := by
        cases h : digB ((s.data.toList.drop (k + 1)).headD 0).toNat with
        | false => rfl
        | true => exact absurd (.inl ⟨h10, h⟩) hp
      exact one_minus_no s k w hk hm g1 g2 g3 g4 g5 g6 g7 h8 h9 h10 (next_nodig s k hd)
    | false =>
      have hd : winB (s[k].toNat : Int) = false := by
        cases h : winB (s[k].toNat : Int) with
        | false => rfl
        | true => exact absurd (.inr ⟨h10, h⟩) hp
      exact one_other s k w hk hm g1 g2 g3 g4 g5 g6 g7 h8 h9 h10 hd
end Go.Proofs.YtpkccmceobonnaaDoor
