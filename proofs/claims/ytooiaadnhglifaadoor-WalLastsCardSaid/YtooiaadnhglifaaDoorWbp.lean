/-
  Plain: a record is scanned as it was written; one that is cut is none.
-/
import Derived.Test.YtooiaadnhglifaaDoorWsp
import Derived.Test.YtooiaadnhglifaaDoorWap
set_option linter.unusedVariables false
set_option linter.unusedSimpArgs false
namespace Go.Proofs.YtooiaadnhglifaaDoor
open Go.RowKit

theorem beS_num_take (n size : Nat) : ∀ j, j ≤ size → beS ((numS n size).take j) = n / 2 ^ (8 * (size - j)) % 256 ^ j
  | 0, _ => by simp [beS, Nat.mod_one]
  | j + 1, h => by
    have ih := beS_num_take n size j (by omega)
    rw [numS_step n size j (by omega), beS, List.foldl_append]
    show beS ((numS n size).take j) * 256 + (UInt8.ofNat _).toNat = _
    rw [ih, UInt8.toNat_ofNat', show size - 1 - j = size - (j + 1) by omega]
    have e : n / 2 ^ (8 * (size - j)) = n / 2 ^ (8 * (size - (j + 1))) / 256 := by
      rw [Nat.div_div_eq_div_mul, show (256 : Nat) = 2 ^ 8 from rfl, ← Nat.pow_add]
      congr 2; omega
    rw [e, show 256 ^ (j + 1) = 256 * 256 ^ j from Nat.pow_succ']
    generalize n / 2 ^ (8 * (size - (j + 1))) = q
    rw [Nat.mod_mul]
    omega
theorem beS_num (n size : Nat) (h : n < 256 ^ size) : beS (numS n size) = n := by
  have := beS_num_take n size size (Nat.le_refl _)
  rw [List.take_of_length_le (by rw [numS_len]; exact Nat.le_refl _), Nat.sub_self, Nat.mul_zero, Nat.pow_zero, Nat.div_one, Nat.mod_eq_of_lt h] at this
  exact this
theorem recS_len (n : Nat) (m : List UInt8) : (recS n m).length = m.length + 17 := by
  simp only [recS, List.length_append, numS_len, wendS_len]; omega
theorem recS_head (n : Nat) (m r : List UInt8) (k : Nat) (hk : 4 ≤ k) : ((recS n m ++ r).take k).take 4 = numS (8 + m.length) 4 := by
  rw [List.take_take, Nat.min_eq_left hk]
  simp only [recS, List.append_assoc]
  rw [List.take_append_of_le_length (by rw [numS_len]; omega), List.take_of_length_le (by rw [numS_len]; omega)]
theorem whole_rec (n : Nat) (m r : List UInt8) (hm : m.length ≤ 8192) : wholeS (recS n m ++ r) = some (numS n 8 ++ m) := by
  have hb : (recS n m ++ r).take 4 = numS (8 + m.length) 4 := by
    have := recS_head n m r (recS n m ++ r).length (by rw [List.length_append, recS_len]; omega)
    rwa [List.take_of_length_le (Nat.le_refl _)] at this
  have hL := beS_num (8 + m.length) 4 (by omega)
  have hlen : (recS n m ++ r).length = m.length + 17 + r.length := by rw [List.length_append, recS_len]
  have hd : (recS n m ++ r).drop 4 = (numS n 8 ++ m) ++ (wendS (numS n 8 ++ m) ++ r) := by
    simp only [recS, List.append_assoc]
    rw [List.drop_append_of_le_length (by rw [numS_len]; omega), List.drop_of_length_le (by rw [numS_len]; omega), List.nil_append]
  have hbl : (numS n 8 ++ m).length = 8 + m.length := by rw [List.length_append, numS_len]
  have hbody : ((recS n m ++ r).drop 4).take (8 + m.length) = numS n 8 ++ m := by
    rw [hd, ← hbl, List.take_left]
  have hrest : (recS n m ++ r).drop (4 + (8 + m.length)) = wendS (numS n 8 ++ m) ++ r := by
    rw [← List.drop_drop, hd, ← hbl, List.drop_left]
  unfold wholeS
  rw [hb, hL, hbody, hrest, if_pos ⟨by omega, by omega, by omega, by omega⟩, if_pos ⟨by rw [List.length_append, wendS_len]; omega, by rw [List.take_append_of_le_length (by rw [wendS_len]; omega), List.take_of_length_le (by rw [wendS_len]; omega)]⟩]
theorem whole_cut (n : Nat) (m : List UInt8) (hm : m.length ≤ 8192) (k : Nat) (hk : k < m.length + 17) : wholeS ((recS n m).take k) = none := by
  have hlen : ((recS n m).take k).length = k := by rw [List.length_take, recS_len]; omega
  by_cases h4 : k < 4
  · unfold wholeS; rw [if_neg (by omega)]
  have hb : ((recS n m).take k).take 4 = numS (8 + m.length) 4 := by
    have := recS_head n m [] k (by omega)
    rwa [List.append_nil] at this
  have hL := beS_num (8 + m.length) 4 (by omega)
  unfold wholeS
  rw [hb, hL]
  by_cases h : 4 + (8 + m.length) ≤ k
  · rw [if_pos ⟨by omega, by omega, by omega, by omega⟩, if_neg (fun h => by have := h.1; rw [List.length_drop, hlen] at this; omega)]
  · rw [if_neg (by omega)]
theorem scanG_ext (b : List UInt8) : ∀ (k first e : Nat) (out : List (List UInt8)), b.length - e ≤ k → out ≠ [] → ∃ ext e', scanG b first out e = (first, out ++ ext, e') ∧ e ≤ e'
  | 0, first, e, out, h, ho => by
    cases hw : wholeS (b.drop e) with
    | none => exact ⟨[], e, by rw [scanG_none hw, List.append_nil], Nat.le_refl _⟩
    | some m => have := wholeS_len hw; rw [List.length_drop] at this; omega
  | k + 1, first, e, out, h, ho => by
    cases hw : wholeS (b.drop e) with
    | none => exact ⟨[], e, by rw [scanG_none hw, List.append_nil], Nat.le_refl _⟩
    | some m =>
      have hl := wholeS_len hw
      rw [List.length_drop] at hl
      cases hk : okN (beS (m.take 8)) first out.length with
      | false => exact ⟨[], e, by rw [scanG_bad hw hk, List.append_nil], Nat.le_refl _⟩
      | true =>
        have h0 : ¬ out.length = 0 := fun h => ho (List.length_eq_zero_iff.1 h)
        rw [scanG_step hw hk, if_neg h0]
        obtain ⟨ext, e', h1, h2⟩ := scanG_ext b k first (e + (m.length + 9)) (out ++ [m.drop 8]) (by omega) (by simp)
        exact ⟨m.drop 8 :: ext, e', by rw [h1]; simp, by omega⟩
theorem scan_rec (n : Nat) (m r : List UInt8) (h1 : 1 ≤ n) (h2 : n ≤ 1099511627776) (hm : m.length ≤ 8192) :
    ∃ ext e', scanG (recS n m ++ r) 0 [] 0 = (n, m :: ext, e') ∧ m.length + 17 ≤ e' := by
  have hw := whole_rec n m r hm
  have hn : (numS n 8 ++ m).take 8 = numS n 8 := by rw [List.take_append_of_le_length (by rw [numS_len]; omega), List.take_of_length_le (by rw [numS_len]; omega)]
  have hd : (numS n 8 ++ m).drop 8 = m := by rw [List.drop_append_of_le_length (by rw [numS_len]; omega), List.drop_of_length_le (by rw [numS_len]; omega), List.nil_append]
  have hb := beS_num n 8 (by omega)
  have hok : okN (beS ((numS n 8 ++ m).take 8)) 0 ([] : List (List UInt8)).length = true := by
    rw [hn, hb]; unfold okN; rw [List.length_nil, if_pos rfl, decide_eq_true h1, decide_eq_true h2]; rfl
  have hst := scanG_step (b := recS n m ++ r) (first := 0) (out := []) (e := 0) (by rw [List.drop_zero]; exact hw) hok
  rw [hn, hb, hd, List.length_nil, if_pos rfl, List.nil_append] at hst
  obtain ⟨ext, e', h3, h4⟩ := scanG_ext (recS n m ++ r) _ n (0 + ((numS n 8 ++ m).length + 9)) [m] (Nat.le_refl _) (by simp)
  refine ⟨ext, e', by rw [hst, h3]; rfl, ?_⟩
  rw [List.length_append, numS_len] at h4
  omega
theorem scan_cut (n : Nat) (m : List UInt8) (hm : m.length ≤ 8192) (k : Nat) (hk : k < m.length + 17) : scanG ((recS n m).take k) 0 [] 0 = (0, [], 0) :=
  scanG_none (by rw [List.drop_zero]; exact whole_cut n m hm k hk)
end Go.Proofs.YtooiaadnhglifaaDoor
