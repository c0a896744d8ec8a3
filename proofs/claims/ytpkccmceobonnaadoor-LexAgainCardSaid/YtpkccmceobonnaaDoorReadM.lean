/-
  Plain facts on numerals: each digit, and the length.
-/
import Derived.Test.YtpkccmceobonnaaDoorNum2
namespace Go.Proofs.YtpkccmceobonnaaDoor
open Go.RowKit

theorem dec_pos (N : Nat) : 0 < (Lib.decDigits N).length := by
  rw [Lib.decDigits]; split <;> simp
theorem dec_lt (N : Nat) : N < 10 ^ (Lib.decDigits N).length := by
  induction N using Nat.strongRecOn with
  | ind N ih =>
    by_cases h : N < 10
    · rw [Lib.decDigits, dif_pos h]; simpa using h
    · rw [Lib.decDigits, dif_neg h, List.length_append]
      have := ih (N / 10) (by omega)
      simp only [List.length_singleton, Nat.pow_succ]
      omega
theorem dec_get (N : Nat) : ∀ j, j < (Lib.decDigits N).length → (Lib.decDigits N)[j]? = some (UInt8.ofNat (48 + N / 10 ^ ((Lib.decDigits N).length - 1 - j) % 10)) := by
  induction N using Nat.strongRecOn with
  | ind N ih =>
    intro j hj
    by_cases h : N < 10
    · have e : Lib.decDigits N = [UInt8.ofNat (48 + N)] := by rw [Lib.decDigits, dif_pos h]
      rw [e] at hj ⊢
      obtain rfl : j = 0 := by simpa using hj
      simp [Nat.mod_eq_of_lt h]
    · have e : Lib.decDigits N = Lib.decDigits (N / 10) ++ [UInt8.ofNat (48 + N % 10)] := by rw [Lib.decDigits, dif_neg h]
      rw [e] at hj ⊢
      have hp := dec_pos (N / 10)
      simp only [List.length_append, List.length_singleton] at hj ⊢
      by_cases hl : j < (Lib.decDigits (N / 10)).length
      · rw [List.getElem?_append_left hl, ih (N / 10) (by omega) j hl, Nat.div_div_eq_div_mul, show 10 * 10 ^ ((Lib.decDigits (N / 10)).length - 1 - j) = 10 ^ ((Lib.decDigits (N / 10)).length + 1 - 1 - j) by rw [← Nat.pow_succ']; congr 1; omega]
      · obtain rfl : j = (Lib.decDigits (N / 10)).length := by omega
        rw [List.getElem?_append_right (Nat.le_refl _)]
        simp

/-- where the digits begin -/
def atB (s : ByteArray) : Nat := if s.data.toList[0]? = some 45 then 1 else 0
theorem digit_nat (x : Nat) : (UInt8.ofNat (48 + x % 10)).toNat = 48 + x % 10 := by rw [UInt8.toNat_ofNat']; omega

theorem shape (s : ByteArray) (m : Int) (h0 : -9223372036854775808 ≤ m) (h1 : m ≤ 9223372036854775807) (hm : itoaS m = s) :
    atB s < s.size ∧ s.size ≤ 20 ∧ m.natAbs < 10 ^ (s.size - atB s) ∧ (∀ i (h : i < s.size), atB s ≤ i → (s[i]).toNat = 48 + m.natAbs / 10 ^ (s.size - 1 - i) % 10) ∧ ((atB s = 1 ∧ m < 0) ∨ (atB s = 0 ∧ 0 ≤ m)) := by
  have e20 : (10 : Nat) ^ (18 + 1) = 10000000000000000000 := by decide
  have hL := dec_len 18 m.natAbs (by omega)
  have hp := dec_pos m.natAbs
  have hlt := dec_lt m.natAbs
  have hsz : s.size = s.data.toList.length := by simp
  by_cases hn : m < 0
  · have e : s.data.toList = 45 :: Lib.decDigits m.natAbs := by rw [← hm]; show Lib.itoa m = _; unfold Lib.itoa; rw [if_pos hn]
    have ha : atB s = 1 := by unfold atB; rw [e]; rfl
    have hs : s.size = (Lib.decDigits m.natAbs).length + 1 := by rw [hsz, e]; rfl
    refine ⟨by omega, by omega, by rw [ha, hs]; exact hlt, ?_, .inl ⟨ha, hn⟩⟩
    intro i h hi
    have hg : s.data.toList[i]? = some s[i] := by rw [List.getElem?_eq_getElem (by omega)]; rfl
    obtain ⟨j, rfl⟩ : ∃ j, i = j + 1 := ⟨i - 1, by omega⟩
    rw [e, List.getElem?_cons_succ, dec_get _ j (by omega)] at hg
    rw [← Option.some.inj hg, digit_nat, show s.size - 1 - (j + 1) = (Lib.decDigits m.natAbs).length - 1 - j by omega]
  · have e : s.data.toList = Lib.decDigits m.natAbs := by rw [← hm]; show Lib.itoa m = _; unfold Lib.itoa; rw [if_neg hn, show m.toNat = m.natAbs by omega]
    have hs : s.size = (Lib.decDigits m.natAbs).length := by rw [hsz, e]
    have ha : atB s = 0 := by
      unfold atB; rw [e, dec_get _ 0 (by omega), if_neg]
      intro h
      have := congrArg UInt8.toNat (Option.some.inj h)
      rw [digit_nat] at this
      have e45 : (45 : UInt8).toNat = 45 := rfl
      omega
    refine ⟨by omega, by omega, by rw [ha, hs]; exact hlt, ?_, .inr ⟨ha, by omega⟩⟩
    intro i h hi
    have hg : s.data.toList[i]? = some s[i] := by rw [List.getElem?_eq_getElem (by omega)]; rfl
    rw [e, dec_get _ i (by omega)] at hg
    rw [← Option.some.inj hg, digit_nat, show s.size - 1 - i = (Lib.decDigits m.natAbs).length - 1 - i by omega]

/-- the number so far, below zero, if s is a number's text -/
def Pre (s : ByteArray) (i : Nat) (n : Int) : Prop := ∀ m : Int, -9223372036854775808 ≤ m → m ≤ 9223372036854775807 → itoaS m = s → n = -((m.natAbs / 10 ^ (s.size - i) : Nat) : Int)
theorem readN_some (s : ByteArray) (m : Int) (h : readN s = some m) : -9223372036854775808 ≤ m ∧ m ≤ 9223372036854775807 ∧ itoaS m = s := by
  unfold readN at h
  cases hp : Lib.parseIntB 64 s.data.toList with
  | ok v =>
    rw [hp] at h; simp only at h
    by_cases e : Lib.itoa v = s.data.toList
    · rw [if_pos e] at h; obtain rfl := Option.some.inj h
      obtain ⟨a, b⟩ := parseIntB_bd _ _ hp
      exact ⟨a, b, by unfold itoaS; rw [e]⟩
    · rw [if_neg e] at h; cases h
  | _ => rw [hp] at h; cases h
theorem readN_none (s : ByteArray) (h : ∀ m : Int, -9223372036854775808 ≤ m → m ≤ 9223372036854775807 → itoaS m ≠ s) : readN s = none := by
  cases e : readN s with
  | none => rfl
  | some m => obtain ⟨a, b, c⟩ := readN_some s m e; exact absurd c (h m a b)
theorem pre_start (s : ByteArray) : Pre s (atB s) 0 := by
  intro m h0 h1 hm
  obtain ⟨_, _, h, _⟩ := shape s m h0 h1 hm
  rw [Nat.div_eq_of_lt h]; rfl
theorem pre_step (s : ByteArray) (i : Nat) (n : Int) (h : Pre s i n) (hi : i < s.size) (ha : atB s ≤ i) (m : Int) (h0 : -9223372036854775808 ≤ m) (h1 : m ≤ 9223372036854775807) (hm : itoaS m = s) :
    48 ≤ s[i].toNat ∧ s[i].toNat ≤ 57 ∧ n * 10 - ((s[i].toNat : Int) - 48) = -((m.natAbs / 10 ^ (s.size - (i + 1)) : Nat) : Int) ∧ -9223372036854775808 ≤ n * 10 - ((s[i].toNat : Int) - 48) := by
  obtain ⟨_, _, _, hd, _⟩ := shape s m h0 h1 hm
  have hd := hd i hi ha
  have hn := h m h0 h1 hm
  have e : m.natAbs / 10 ^ (s.size - i) = m.natAbs / 10 ^ (s.size - (i + 1)) / 10 := by
    rw [Nat.div_div_eq_div_mul, ← Nat.pow_succ, show (s.size - (i + 1)).succ = s.size - i by omega]
  rw [e] at hn
  rw [show s.size - 1 - i = s.size - (i + 1) by omega] at hd
  have hle : m.natAbs / 10 ^ (s.size - (i + 1)) ≤ m.natAbs := Nat.div_le_self _ _
  generalize m.natAbs / 10 ^ (s.size - (i + 1)) = K at *
  omega
end Go.Proofs.YtpkccmceobonnaaDoor
