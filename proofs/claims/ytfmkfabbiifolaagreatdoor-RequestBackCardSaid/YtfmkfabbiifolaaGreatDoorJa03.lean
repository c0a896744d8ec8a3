/-
  Joined of: ReadM, ReadT, ReadR0, ReadR1, ReadA, LexS.
-/
import Derived.Test.YtfmkfabbiifolaaGreatDoorJa02
set_option linter.unusedVariables false
set_option linter.unusedSimpArgs false
/-
  Plain facts on numerals: each digit, and the length.
-/
namespace Go.Proofs.YtfmkfabbiifolaaGreatDoor
open Go.RowKit

theorem dec_pos (N : Nat) : 0 < (Lib.decDigits N).length := by
  rw [Lib.decDigits]; split <;> simp
theorem dec_lt (N : Nat) : N < 10 ^ (Lib.decDigits N).length := by
  induction N using Nat.strongRecOn with
  | ind N ih =>
    by_cases h : N < 10
    · rw [Lib.decDigits, dif_pos h]; simpa using h
    · rw [Lib.decDigits, dif_neg h, List.length_append]
      have := ih (N / 10) (by omega)
      simp only [List.length_singleton, Nat.pow_succ]
      omega
theorem dec_get (N : Nat) : ∀ j, j < (Lib.decDigits N).length → (Lib.decDigits N)[j]? = some (UInt8.ofNat (48 + N / 10 ^ ((Lib.decDigits N).length - 1 - j) % 10)) := by
  induction N using Nat.strongRecOn with
  | ind N ih =>
    intro j hj
    by_cases h : N < 10
    · have e : Lib.decDigits N = [UInt8.ofNat (48 + N)] := by rw [Lib.decDigits, dif_pos h]
      rw [e] at hj ⊢
      obtain rfl : j = 0 := by simpa using hj
      simp [Nat.mod_eq_of_lt h]
    · have e : Lib.decDigits N = Lib.decDigits (N / 10) ++ [UInt8.ofNat (48 + N % 10)] := by rw [Lib.decDigits, dif_neg h]
      rw [e] at hj ⊢
      have hp := dec_pos (N / 10)
      simp only [List.length_append, List.length_singleton] at hj ⊢
      by_cases hl : j < (Lib.decDigits (N / 10)).length
      · rw [List.getElem?_append_left hl, ih (N / 10) (by omega) j hl, Nat.div_div_eq_div_mul, show 10 * 10 ^ ((Lib.decDigits (N / 10)).length - 1 - j) = 10 ^ ((Lib.decDigits (N / 10)).length + 1 - 1 - j) by rw [← Nat.pow_succ']; congr 1; omega]
      · obtain rfl : j = (Lib.decDigits (N / 10)).length := by omega
        rw [List.getElem?_append_right (Nat.le_refl _)]
        simp

/-- where the digits begin -/
def atB (s : ByteArray) : Nat := if s.data.toList[0]? = some 45 then 1 else 0
theorem digit_nat (x : Nat) : (UInt8.ofNat (48 + x % 10)).toNat = 48 + x % 10 := by rw [UInt8.toNat_ofNat']; omega

theorem shape (s : ByteArray) (m : Int) (h0 : -9223372036854775808 ≤ m) (h1 : m ≤ 9223372036854775807) (hm : itoaS m = s) :
    atB s < s.size ∧ s.size ≤ 20 ∧ m.natAbs < 10 ^ (s.size - atB s) ∧ (∀ i (h : i < s.size), atB s ≤ i → (s[i]).toNat = 48 + m.natAbs / 10 ^ (s.size - 1 - i) % 10) ∧ ((atB s = 1 ∧ m < 0) ∨ (atB s = 0 ∧ 0 ≤ m)) := by
  have e20 : (10 : Nat) ^ (18 + 1) = 10000000000000000000 := by decide
  have hL := dec_len 18 m.natAbs (by omega)
  have hp := dec_pos m.natAbs
  have hlt := dec_lt m.natAbs
  have hsz : s.size = s.data.toList.length := by simp
  by_cases hn : m < 0
  · have e : s.data.toList = 45 :: Lib.decDigits m.natAbs := by rw [← hm]; show Lib.itoa m = _; unfold Lib.itoa; rw [if_pos hn]
    have ha : atB s = 1 := by unfold atB; rw [e]; rfl
    have hs : s.size = (Lib.decDigits m.natAbs).length + 1 := by rw [hsz, e]; rfl
    refine ⟨by omega, by omega, by rw [ha, hs]; exact hlt, ?_, .inl ⟨ha, hn⟩⟩
    intro i h hi
    have hg : s.data.toList[i]? = some s[i] := by rw [List.getElem?_eq_getElem (by omega)]; rfl
    obtain ⟨j, rfl⟩ : ∃ j, i = j + 1 := ⟨i - 1, by omega⟩
    rw [e, List.getElem?_cons_succ, dec_get _ j (by omega)] at hg
    rw [← Option.some.inj hg, digit_nat, show s.size - 1 - (j + 1) = (Lib.decDigits m.natAbs).length - 1 - j by omega]
  · have e : s.data.toList = Lib.decDigits m.natAbs := by rw [← hm]; show Lib.itoa m = _; unfold Lib.itoa; rw [if_neg hn, show m.toNat = m.natAbs by omega]
    have hs : s.size = (Lib.decDigits m.natAbs).length := by rw [hsz, e]
    have ha : atB s = 0 := by
      unfold atB; rw [e, dec_get _ 0 (by omega), if_neg]
      intro h
      have := congrArg UInt8.toNat (Option.some.inj h)
      rw [digit_nat] at this
      have e45 : (45 : UInt8).toNat = 45 := rfl
      omega
    refine ⟨by omega, by omega, by rw [ha, hs]; exact hlt, ?_, .inr ⟨ha, by omega⟩⟩
    intro i h hi
    have hg : s.data.toList[i]? = some s[i] := by rw [List.getElem?_eq_getElem (by omega)]; rfl
    rw [e, dec_get _ i (by omega)] at hg
    rw [← Option.some.inj hg, digit_nat, show s.size - 1 - i = (Lib.decDigits m.natAbs).length - 1 - i by omega]

/-- the number so far, below zero, if s is a number's text -/
def Pre (s : ByteArray) (i : Nat) (n : Int) : Prop := ∀ m : Int, -9223372036854775808 ≤ m → m ≤ 9223372036854775807 → itoaS m = s → n = -((m.natAbs / 10 ^ (s.size - i) : Nat) : Int)
theorem readN_some (s : ByteArray) (m : Int) (h : readN s = some m) : -9223372036854775808 ≤ m ∧ m ≤ 9223372036854775807 ∧ itoaS m = s := by
  unfold readN at h
  cases hp : Lib.parseIntB 64 s.data.toList with
  | ok v =>
    rw [hp] at h; simp only at h
    by_cases e : Lib.itoa v = s.data.toList
    · rw [if_pos e] at h; obtain rfl := Option.some.inj h
      obtain ⟨a, b⟩ := parseIntB_bd _ _ hp
      exact ⟨a, b, by unfold itoaS; rw [e]⟩
    · rw [if_neg e] at h; cases h
  | _ => rw [hp] at h; cases h
theorem readN_none (s : ByteArray) (h : ∀ m : Int, -9223372036854775808 ≤ m → m ≤ 9223372036854775807 → itoaS m ≠ s) : readN s = none := by
  cases e : readN s with
  | none => rfl
  | some m => obtain ⟨a, b, c⟩ := readN_some s m e; exact absurd c (h m a b)
theorem pre_start (s : ByteArray) : Pre s (atB s) 0 := by
  intro m h0 h1 hm
  obtain ⟨_, _, h, _⟩ := shape s m h0 h1 hm
  rw [Nat.div_eq_of_lt h]; rfl
theorem pre_step (s : ByteArray) (i : Nat) (n : Int) (h : Pre s i n) (hi : i < s.size) (ha : atB s ≤ i) (m : Int) (h0 : -9223372036854775808 ≤ m) (h1 : m ≤ 9223372036854775807) (hm : itoaS m = s) :
    48 ≤ s[i].toNat ∧ s[i].toNat ≤ 57 ∧ n * 10 - ((s[i].toNat : Int) - 48) = -((m.natAbs / 10 ^ (s.size - (i + 1)) : Nat) : Int) ∧ -9223372036854775808 ≤ n * 10 - ((s[i].toNat : Int) - 48) := by
  obtain ⟨_, _, _, hd, _⟩ := shape s m h0 h1 hm
  have hd := hd i hi ha
  have hn := h m h0 h1 hm
  have e : m.natAbs / 10 ^ (s.size - i) = m.natAbs / 10 ^ (s.size - (i + 1)) / 10 := by
    rw [Nat.div_div_eq_div_mul, ← Nat.pow_succ, show (s.size - (i + 1)).succ = s.size - i by omega]
  rw [e] at hn
  rw [show s.size - 1 - i = s.size - (i + 1) by omega] at hd
  have hle : m.natAbs / 10 ^ (s.size - (i + 1)) ≤ m.natAbs := Nat.div_le_self _ _
  generalize m.natAbs / 10 ^ (s.size - (i + 1)) = K at *
  omega
end Go.Proofs.YtfmkfabbiifolaaGreatDoor

/-
  Plain facts for the reference's Read: its guard against too great numbers; the result's cells.
-/
namespace Go.Proofs.YtfmkfabbiifolaaGreatDoor
open Go.RowKit
theorem guard_tdiv (d : Int) (_h0 : 0 ≤ d) (h1 : d ≤ 9) : ((-9223372036854775808 : Int) + d).tdiv 10 = -((9223372036854775808 - d) / 10) := by
  rw [show (-9223372036854775808 : Int) + d = -(9223372036854775808 - d) by omega, Int.neg_tdiv, Int.tdiv_eq_ediv_of_nonneg (by omega)]
theorem cellsR25 {w wr : World} (hb : Below (w.alloc (.cells #[.string ⟨#[]⟩, .int .i64 0] 23)).heap.size (w.alloc (.cells #[.string ⟨#[]⟩, .int .i64 0] 23)) wr) :
    wr.cell? ⟨w.heap.size, 0, none⟩ = some (.string ⟨#[]⟩) ∧ wr.cell? ⟨w.heap.size, 1, none⟩ = some (.int .i64 0) ∧ wr.frozen? ⟨w.heap.size, 0, none⟩ = false ∧ wr.frozen? ⟨w.heap.size, 1, none⟩ = false ∧ w.heap.size < wr.heap.size := by
  have c0 := hb.cell (p := ⟨w.heap.size, 0, none⟩) (by simp)
  have c1 := hb.cell (p := ⟨w.heap.size, 1, none⟩) (by simp)
  have f0 := hb.frozen (p := ⟨w.heap.size, 0, none⟩) (by simp)
  have f1 := hb.frozen (p := ⟨w.heap.size, 1, none⟩) (by simp)
  have hz := hb.size
  simp [go_sem] at c0 c1 f0 f1 hz
  exact ⟨c0, c1, f0, f1, by omega⟩
end Go.Proofs.YtfmkfabbiifolaaGreatDoor

/-
  Contract: the reference's Read at a text that does not begin with a minus.
-/
namespace Go.Proofs.YtfmkfabbiifolaaGreatDoor
open Go.RowKit

set_option maxHeartbeats 1000000 in
set_option maxRecDepth 100000 in
theorem refread_0 (s : ByteArray) (w : World) (h20 : s.size ≤ 20) (hA : 0 < s.size) (hn : nameB s = false) (hh : (s[0]'(by omega)).toNat ≠ 45) :
    Calls Tryz.prog 57 #[.string s] w fun e w' => e = .returned (readV s) ∧ Below w.heap.size w w' := by
  have hm : s.size ≤ maxLen := by unfold maxLen; omega
  have hB := (Below.refl w.heap.size w).alloc (Nat.le_refl _) (.cells #[.string ⟨#[]⟩, .int .i64 0] 23)
  have HB := Lib.hid hB
  clear hB
  have ha : atB s = 0 := by
    unfold atB
    have e : s.data.toList[0]? = some (s[0]'(by omega)) := by rw [List.getElem?_eq_getElem (by simp; omega)]; rfl
    rw [e]
    rw [if_neg]; intro h; rw [Option.some.inj h] at hh; exact hh rfl
  have HN := Lib.hid (show readN s = none → readV s = .tuple #[.agg #[.string ⟨#[]⟩, .int .i64 0], .bool false] from fun h => by unfold readV; rw [hn, h]; rfl)
  have HS := Lib.hid (show ∀ n, readN s = some n → readV s = .tuple #[.agg #[.string ⟨#[]⟩, .int .i64 n], .bool true] from fun n h => by unfold readV; rw [hn, h]; rfl)
  have g0 : ((s[0]'(by omega)).toNat == 45) = false := by rw [beq_eq_false_iff_ne]; exact hh
  have p0 : 0 < s.size := by omega
  have q1 : ((s.size : Int) == 0) = false := by rw [beq_eq_false_iff_ne]; omega
  have q2 : ¬ 20 < s.size := by omega
  have HNM := Lib.hid (show ∀ wx, Calls Tryz.prog 33 #[.string s] wx fun e w' => e = .returned (.bool false) ∧ wx = w' from fun wx => hn ▸ refname_any s wx hm)
  have HP := Lib.hid (ha ▸ pre_start s)
  clear hm hn hh
  go_enter Tryz.func57, Tryz.ntmps57
  go_wp2_with (go_at_call 33; refine (HNM.out _).mono ?_; rintro e w' ⟨rfl, rfl⟩)
  go_loopw [5, 6] (fun a i wr => ∃ (n : Int) (k : Nat), a = .int .i64 n ∧ i = .int .i64 k ∧ 0 ≤ k ∧ k ≤ s.size ∧ -9223372036854775808 ≤ n ∧ n ≤ 0 ∧ Hid (Pre s k n) ∧ Below (w.alloc (.cells #[.string ⟨#[]⟩, .int .i64 0] 23)).heap.size (w.alloc (.cells #[.string ⟨#[]⟩, .int .i64 0] 23)) wr) (fun _ i _ => s.size - (intOf i).toNat)
  case atStart => exact ⟨0, 0, rfl, rfl, Nat.le_refl _, by omega, by omega, by omega, HP, Below.refl _ _⟩
  case round =>
    obtain ⟨n, k, rfl, rfl, hk0, hk1, n0, n1, hpre, hb⟩ := hrel
    have HB2 := Lib.hid hb
    clear hb
    obtain ⟨c0, c1, f0, f1, hz⟩ := cellsR25 HB2.out
    by_cases h1 : k < s.size
    · have HST := Lib.hid (pre_step s k n hpre.out h1 (by omega))
      have h256 := s[k].toNat_lt
      by_cases x1 : s[k].toNat < 48
      · have HR := Lib.hid (HN.out (readN_none s fun m a b c => by have := (HST.out m a b c).1; omega))
        have d1 : ((s[k].toNat : Int) - 48) < 0 := by omega
        clear hpre
        go_wp2_with fail
        refine bodyPost_ret (v := .tuple #[.agg #[.string ⟨#[]⟩, .int .i64 0], .bool false]) (by simp [results, Tryz.results57, go_sem, c0, c1]) rfl ⟨by rw [HR.out], ?_⟩
        exact ((HB.out.trans (HB2.out.mono HB.out.size)).setCell (Nat.le_refl _) _).setCell (Nat.le_refl _) _
      · by_cases x2 : 57 < s[k].toNat
        · have HR := Lib.hid (HN.out (readN_none s fun m a b c => by have := (HST.out m a b c).2.1; omega))
          have d1 : ¬ ((s[k].toNat : Int) - 48) < 0 := by omega
          have d2 : (9 : Int) < ((s[k].toNat : Int) - 48) := by omega
          clear hpre
          go_wp2_with fail
          refine bodyPost_ret (v := .tuple #[.agg #[.string ⟨#[]⟩, .int .i64 0], .bool false]) (by simp [results, Tryz.results57, go_sem, c0, c1]) rfl ⟨by rw [HR.out], ?_⟩
          exact ((HB.out.trans (HB2.out.mono HB.out.size)).setCell (Nat.le_refl _) _).setCell (Nat.le_refl _) _
        · have d1 : ¬ ((s[k].toNat : Int) - 48) < 0 := by omega
          have d2 : ¬ (9 : Int) < ((s[k].toNat : Int) - 48) := by omega
          have ht := guard_tdiv ((s[k].toNat : Int) - 48) (by omega) (by omega)
          by_cases d3 : n < ((-9223372036854775808 : Int) + ((s[k].toNat : Int) - 48)).tdiv 10
          · have HR := Lib.hid (HN.out (readN_none s fun m a b c => by have := (HST.out m a b c).2.2.2; omega))
            clear hpre ht
            go_wp2_with fail
            refine bodyPost_ret (v := .tuple #[.agg #[.string ⟨#[]⟩, .int .i64 0], .bool false]) (by simp [results, Tryz.results57, go_sem, c0, c1]) rfl ⟨by rw [HR.out], ?_⟩
            exact ((HB.out.trans (HB2.out.mono HB.out.size)).setCell (Nat.le_refl _) _).setCell (Nat.le_refl _) _
          · have d4 : -9223372036854775808 ≤ n * 10 := by omega
            have d5 : -9223372036854775808 ≤ n * 10 - ((s[k].toNat : Int) - 48) := by omega
            have HPN := Lib.hid (show Pre s (k + 1) (n * 10 - ((s[k].toNat : Int) - 48)) from fun m a b c => (HST.out m a b c).2.2.1)
            clear ht hpre
            go_wp2_with fail
            exact ⟨⟨_, k + 1, rfl, by go_num, by omega, by omega, d5, by omega, HPN, HB2.out⟩, by simp [intOf]; omega⟩
    · obtain rfl : k = s.size := by omega
      have HE := Lib.hid (show ∀ m : Int, -9223372036854775808 ≤ m → m ≤ 9223372036854775807 → itoaS m = s → m = -n from fun m a b c => by
        have h := hpre.out m a b c
        obtain ⟨_, _, _, _, h5⟩ := shape s m a b c
        simp at h
        omega)
      clear hpre
      by_cases hl : n = -9223372036854775808
      · have HR := Lib.hid (HN.out (readN_none s fun m a b c => by have := HE.out m a b c; omega))
        have l1 : (n == -9223372036854775808) = true := by rw [beq_iff_eq]; exact hl
        clear hl
        go_wp2_with fail
        refine bodyPost_ret (v := .tuple #[.agg #[.string ⟨#[]⟩, .int .i64 0], .bool false]) (by simp [results, Tryz.results57, go_sem, c0, c1]) rfl ⟨by rw [HR.out], ?_⟩
        exact ((HB.out.trans (HB2.out.mono HB.out.size)).setCell (Nat.le_refl _) _).setCell (Nat.le_refl _) _
      · have l1 : (n == -9223372036854775808) = false := by rw [beq_eq_false_iff_ne]; exact hl
        have l2 : -n ≤ 9223372036854775807 := by omega
        have HNU := Lib.hid (show ∀ wx, _ from fun wx => number_any (-n) wx (by omega) l2)
        by_cases he : itoaS (-n) = s
        · have HR := Lib.hid (HS.out (-n) (by rw [← he]; exact readN_itoa (-n) (by omega) l2))
          have e1 : ((itoaS (-n)).toList == s.toList) = true := by rw [he]; simp
          clear he hl c0 c1 f0 f1 hz
          go_wp2_with fail
          refine (HNU.out _).mono ?_
          rintro e w2 ⟨rfl, hb2⟩
          have HB3 := Lib.hid (HB2.out.trans (hb2.mono HB2.out.size))
          obtain ⟨c0, c1, f0, f1, hz⟩ := cellsR25 HB3.out
          clear hb2
          go_wp2_with fail
          refine bodyPost_ret (v := .tuple #[.agg #[.string ⟨#[]⟩, .int .i64 (-n)], .bool true]) (by simp [results, Tryz.results57, go_sem, c0, c1]) rfl ⟨by rw [HR.out], ?_⟩
          exact ((HB.out.trans (HB3.out.mono HB.out.size)).setCell (Nat.le_refl _) _).setCell (Nat.le_refl _) _
        · have HR := Lib.hid (HN.out (readN_none s fun m a b c => he ((HE.out m a b c) ▸ c)))
          have e1 : ((itoaS (-n)).toList == s.toList) = false := by
            rw [beq_eq_false_iff_ne]; intro h; rw [ByteArray.toList_eq, ByteArray.toList_eq] at h
            exact he (ByteArray.ext (Array.toList_inj.1 h))
          clear he hl c0 c1 f0 f1 hz
          go_wp2_with fail
          refine (HNU.out _).mono ?_
          rintro e w2 ⟨rfl, hb2⟩
          have HB3 := Lib.hid (HB2.out.trans (hb2.mono HB2.out.size))
          obtain ⟨c0, c1, f0, f1, hz⟩ := cellsR25 HB3.out
          clear hb2
          go_wp2_with fail
          refine bodyPost_ret (v := .tuple #[.agg #[.string ⟨#[]⟩, .int .i64 0], .bool false]) (by simp [results, Tryz.results57, go_sem, c0, c1]) rfl ⟨by rw [HR.out], ?_⟩
          exact ((HB.out.trans (HB3.out.mono HB.out.size)).setCell (Nat.le_refl _) _).setCell (Nat.le_refl _) _
end Go.Proofs.YtfmkfabbiifolaaGreatDoor

/-
  Contract: the reference's Read at a text that begins with a minus.
-/
namespace Go.Proofs.YtfmkfabbiifolaaGreatDoor
open Go.RowKit

set_option maxHeartbeats 1000000 in
set_option maxRecDepth 100000 in
theorem refread_1 (s : ByteArray) (w : World) (h20 : s.size ≤ 20) (hA : 1 < s.size) (hn : nameB s = false) (hh : (s[0]'(by omega)).toNat = 45) :
    Calls Tryz.prog 57 #[.string s] w fun e w' => e = .returned (readV s) ∧ Below w.heap.size w w' := by
  have hm : s.size ≤ maxLen := by unfold maxLen; omega
  have hB := (Below.refl w.heap.size w).alloc (Nat.le_refl _) (.cells #[.string ⟨#[]⟩, .int .i64 0] 23)
  have HB := Lib.hid hB
  clear hB
  have ha : atB s = 1 := by
    unfold atB
    have e : s.data.toList[0]? = some (s[0]'(by omega)) := by rw [List.getElem?_eq_getElem (by simp; omega)]; rfl
    rw [e]
    rw [if_pos]; rw [show s[0]'(by omega) = 45 from UInt8.toNat_inj.1 hh]
  have HN := Lib.hid (show readN s = none → readV s = .tuple #[.agg #[.string ⟨#[]⟩, .int .i64 0], .bool false] from fun h => by unfold readV; rw [hn, h]; rfl)
  have HS := Lib.hid (show ∀ n, readN s = some n → readV s = .tuple #[.agg #[.string ⟨#[]⟩, .int .i64 n], .bool true] from fun n h => by unfold readV; rw [hn, h]; rfl)
  have g0 : ((s[0]'(by omega)).toNat == 45) = true := by rw [beq_iff_eq]; exact hh
  have p0 : 0 < s.size := by omega
  have q1 : ((s.size : Int) == 1) = false := by rw [beq_eq_false_iff_ne]; omega
  have q2 : ¬ 20 < s.size := by omega
  have HNM := Lib.hid (show ∀ wx, Calls Tryz.prog 33 #[.string s] wx fun e w' => e = .returned (.bool false) ∧ wx = w' from fun wx => hn ▸ refname_any s wx hm)
  have HP := Lib.hid (ha ▸ pre_start s)
  clear hm hn hh
  go_enter Tryz.func57, Tryz.ntmps57
  go_wp2_with (go_at_call 33; refine (HNM.out _).mono ?_; rintro e w' ⟨rfl, rfl⟩)
  go_loopw [5, 6] (fun a i wr => ∃ (n : Int) (k : Nat), a = .int .i64 n ∧ i = .int .i64 k ∧ 1 ≤ k ∧ k ≤ s.size ∧ -9223372036854775808 ≤ n ∧ n ≤ 0 ∧ Hid (Pre s k n) ∧ Below (w.alloc (.cells #[.string ⟨#[]⟩, .int .i64 0] 23)).heap.size (w.alloc (.cells #[.string ⟨#[]⟩, .int .i64 0] 23)) wr) (fun _ i _ => s.size - (intOf i).toNat)
  case atStart => exact ⟨0, 1, rfl, rfl, Nat.le_refl _, by omega, by omega, by omega, HP, Below.refl _ _⟩
  case round =>
    obtain ⟨n, k, rfl, rfl, hk0, hk1, n0, n1, hpre, hb⟩ := hrel
    have HB2 := Lib.hid hb
    clear hb
    obtain ⟨c0, c1, f0, f1, hz⟩ := cellsR25 HB2.out
    by_cases h1 : k < s.size
    · have HST := Lib.hid (pre_step s k n hpre.out h1 (by omega))
      have h256 := s[k].toNat_lt
      by_cases x1 : s[k].toNat < 48
      · have HR := Lib.hid (HN.out (readN_none s fun m a b c => by have := (HST.out m a b c).1; omega))
        have d1 : ((s[k].toNat : Int) - 48) < 0 := by omega
        clear hpre
        go_wp2_with fail
        refine bodyPost_ret (v := .tuple #[.agg #[.string ⟨#[]⟩, .int .i64 0], .bool false]) (by simp [results, Tryz.results57, go_sem, c0, c1]) rfl ⟨by rw [HR.out], ?_⟩
        exact ((HB.out.trans (HB2.out.mono HB.out.size)).setCell (Nat.le_refl _) _).setCell (Nat.le_refl _) _
      · by_cases x2 : 57 < s[k].toNat
        · have HR := Lib.hid (HN.out (readN_none s fun m a b c => by have := (HST.out m a b c).2.1; omega))
          have d1 : ¬ ((s[k].toNat : Int) - 48) < 0 := by omega
          have d2 : (9 : Int) < ((s[k].toNat : Int) - 48) := by omega
          clear hpre
          go_wp2_with fail
          refine bodyPost_ret (v := .tuple #[.agg #[.string ⟨#[]⟩, .int .i64 0], .bool false]) (by simp [results, Tryz.results57, go_sem, c0, c1]) rfl ⟨by rw [HR.out], ?_⟩
          exact ((HB.out.trans (HB2.out.mono HB.out.size)).setCell (Nat.le_refl _) _).setCell (Nat.le_refl _) _
        · have d1 : ¬ ((s[k].toNat : Int) - 48) < 0 := by omega
          have d2 : ¬ (9 : Int) < ((s[k].toNat : Int) - 48) := by omega
          have ht := guard_tdiv ((s[k].toNat : Int) - 48) (by omega) (by omega)
          by_cases d3 : n < ((-9223372036854775808 : Int) + ((s[k].toNat : Int) - 48)).tdiv 10
          · have HR := Lib.hid (HN.out (readN_none s fun m a b c => by have := (HST.out m a b c).2.2.2; omega))
            clear hpre ht
            go_wp2_with fail
            refine bodyPost_ret (v := .tuple #[.agg #[.string ⟨#[]⟩, .int .i64 0], .bool false]) (by simp [results, Tryz.results57, go_sem, c0, c1]) rfl ⟨by rw [HR.out], ?_⟩
            exact ((HB.out.trans (HB2.out.mono HB.out.size)).setCell (Nat.le_refl _) _).setCell (Nat.le_refl _) _
          · have d4 : -9223372036854775808 ≤ n * 10 := by omega
            have d5 : -9223372036854775808 ≤ n * 10 - ((s[k].toNat : Int) - 48) := by omega
            have HPN := Lib.hid (show Pre s (k + 1) (n * 10 - ((s[k].toNat : Int) - 48)) from fun m a b c => (HST.out m a b c).2.2.1)
            clear ht hpre
            go_wp2_with fail
            exact ⟨⟨_, k + 1, rfl, by go_num, by omega, by omega, d5, by omega, HPN, HB2.out⟩, by simp [intOf]; omega⟩
    · obtain rfl : k = s.size := by omega
      have HE := Lib.hid (show ∀ m : Int, -9223372036854775808 ≤ m → m ≤ 9223372036854775807 → itoaS m = s → m = n from fun m a b c => by
        have h := hpre.out m a b c
        obtain ⟨_, _, _, _, h5⟩ := shape s m a b c
        simp at h
        omega)
      have HNU := Lib.hid (show ∀ wx, _ from fun wx => number_any n wx n0 (by omega))
      clear hpre
      by_cases he : itoaS n = s
      · have HR := Lib.hid (HS.out n (by rw [← he]; exact readN_itoa n n0 (by omega)))
        have e1 : ((itoaS n).toList == s.toList) = true := by rw [he]; simp
        clear he c0 c1 f0 f1 hz
        go_wp2_with fail
        refine (HNU.out _).mono ?_
        rintro e w2 ⟨rfl, hb2⟩
        have HB3 := Lib.hid (HB2.out.trans (hb2.mono HB2.out.size))
        obtain ⟨c0, c1, f0, f1, hz⟩ := cellsR25 HB3.out
        clear hb2
        go_wp2_with fail
        refine bodyPost_ret (v := .tuple #[.agg #[.string ⟨#[]⟩, .int .i64 n], .bool true]) (by simp [results, Tryz.results57, go_sem, c0, c1]) rfl ⟨by rw [HR.out], ?_⟩
        exact ((HB.out.trans (HB3.out.mono HB.out.size)).setCell (Nat.le_refl _) _).setCell (Nat.le_refl _) _
      · have HR := Lib.hid (HN.out (readN_none s fun m a b c => he ((HE.out m a b c) ▸ c)))
        have e1 : ((itoaS n).toList == s.toList) = false := by
          rw [beq_eq_false_iff_ne]; intro h; rw [ByteArray.toList_eq, ByteArray.toList_eq] at h
          exact he (ByteArray.ext (Array.toList_inj.1 h))
        clear he c0 c1 f0 f1 hz
        go_wp2_with fail
        refine (HNU.out _).mono ?_
        rintro e w2 ⟨rfl, hb2⟩
        have HB3 := Lib.hid (HB2.out.trans (hb2.mono HB2.out.size))
        obtain ⟨c0, c1, f0, f1, hz⟩ := cellsR25 HB3.out
        clear hb2
        go_wp2_with fail
        refine bodyPost_ret (v := .tuple #[.agg #[.string ⟨#[]⟩, .int .i64 0], .bool false]) (by simp [results, Tryz.results57, go_sem, c0, c1]) rfl ⟨by rw [HR.out], ?_⟩
        exact ((HB.out.trans (HB3.out.mono HB.out.size)).setCell (Nat.le_refl _) _).setCell (Nat.le_refl _) _
end Go.Proofs.YtfmkfabbiifolaaGreatDoor

/-
  Contract: the reference's Read, whole.
-/
namespace Go.Proofs.YtfmkfabbiifolaaGreatDoor
open Go.RowKit

set_option maxHeartbeats 1000000 in
set_option maxRecDepth 100000 in
theorem refread_bad (s : ByteArray) (w : World) (hm : s.size ≤ maxLen) (hn : nameB s = false) (hr : readN s = none) (h : s.size = 0 ∨ 20 < s.size ∨ (s.size = 1 ∧ s.data.toList[0]? = some 45)) :
    Calls Tryz.prog 57 #[.string s] w fun e w' => e = .returned (readV s) ∧ Below w.heap.size w w' := by
  have HR := Lib.hid (show readV s = .tuple #[.agg #[.string ⟨#[]⟩, .int .i64 0], .bool false] by unfold readV; rw [hn, hr]; rfl)
  have HNM := Lib.hid (show ∀ wx, Calls Tryz.prog 33 #[.string s] wx fun e w' => e = .returned (.bool false) ∧ wx = w' from fun wx => hn ▸ refname_any s wx hm)
  clear hm hn hr
  rcases h with h | h | ⟨h, h45⟩
  · have q0 : ¬ 0 < s.size := by omega
    have q1 : ((s.size : Int) == 0) = true := by rw [beq_iff_eq]; omega
    clear h
    go_enter Tryz.func57, Tryz.ntmps57
    go_wp2_with (go_at_call 33; refine (HNM.out _).mono ?_; rintro e w' ⟨rfl, rfl⟩)
    refine bodyPost_ret (v := .tuple #[.agg #[.string ⟨#[]⟩, .int .i64 0], .bool false]) (by simp [results, Tryz.results57, go_sem]) rfl ⟨by rw [HR.out], ?_⟩
    exact (Below.refl _ _).alloc (Nat.le_refl _) _
  · have q0 : 0 < s.size := by omega
    have q1 : ((s.size : Int) == 0) = false := by rw [beq_eq_false_iff_ne]; omega
    have q3 : ((s.size : Int) == 1) = false := by rw [beq_eq_false_iff_ne]; omega
    cases g : (s[0].toNat == 45)
    all_goals
      go_enter Tryz.func57, Tryz.ntmps57
      go_wp2_with (go_at_call 33; refine (HNM.out _).mono ?_; rintro e w' ⟨rfl, rfl⟩)
      refine bodyPost_ret (v := .tuple #[.agg #[.string ⟨#[]⟩, .int .i64 0], .bool false]) (by simp [results, Tryz.results57, go_sem]) rfl ⟨by rw [HR.out], ?_⟩
      exact (Below.refl _ _).alloc (Nat.le_refl _) _
  · have q0 : 0 < s.size := by omega
    have q1 : ((s.size : Int) == 1) = true := by rw [beq_iff_eq]; omega
    have g : (s[0].toNat == 45) = true := by
      have e : s.data.toList[0]? = some s[0] := by rw [List.getElem?_eq_getElem (by simp; omega)]; rfl
      rw [e] at h45; rw [Option.some.inj h45]; rfl
    clear h45 h
    go_enter Tryz.func57, Tryz.ntmps57
    go_wp2_with (go_at_call 33; refine (HNM.out _).mono ?_; rintro e w' ⟨rfl, rfl⟩)
    refine bodyPost_ret (v := .tuple #[.agg #[.string ⟨#[]⟩, .int .i64 0], .bool false]) (by simp [results, Tryz.results57, go_sem]) rfl ⟨by rw [HR.out], ?_⟩
    exact (Below.refl _ _).alloc (Nat.le_refl _) _

set_option maxHeartbeats 1000000 in
theorem refread_name (s : ByteArray) (w : World) (hm : s.size ≤ maxLen) (hn : nameB s = true) :
    Calls Tryz.prog 57 #[.string s] w fun e w' => e = .returned (readV s) ∧ Below w.heap.size w w' := by
  have HR := Lib.hid (show readV s = .tuple #[.agg #[.string s, .int .i64 0], .bool true] by simp [readV, hn])
  have HNM := Lib.hid (show ∀ wx, Calls Tryz.prog 33 #[.string s] wx fun e w' => e = .returned (.bool true) ∧ wx = w' from fun wx => hn ▸ refname_any s wx hm)
  clear hm hn
  go_enter Tryz.func57, Tryz.ntmps57
  go_wp2_with (go_at_call 33; refine (HNM.out _).mono ?_; rintro e w' ⟨rfl, rfl⟩)
  refine bodyPost_ret (v := .tuple #[.agg #[.string s, .int .i64 0], .bool true]) (by simp [results, Tryz.results57, go_sem]) rfl ⟨by rw [HR.out], ?_⟩
  exact (Below.refl _ _).alloc (Nat.le_refl _) _

theorem refread_any (s : ByteArray) (w : World) (hm : s.size ≤ maxLen) :
    Calls Tryz.prog 57 #[.string s] w fun e w' => e = .returned (readV s) ∧ Below w.heap.size w w' := by
  by_cases hn : nameB s = true
  · exact refread_name s w hm hn
  have hn : nameB s = false := by simpa using hn
  by_cases hb : s.size = 0 ∨ 20 < s.size ∨ (s.size = 1 ∧ s.data.toList[0]? = some 45)
  · refine refread_bad s w hm hn (readN_none s fun m a b c => ?_) hb
    obtain ⟨h1, h2, _⟩ := shape s m a b c
    rcases hb with h | h | ⟨h, h45⟩
    · omega
    · omega
    · have : atB s = 1 := by unfold atB; rw [if_pos h45]
      omega
  · have hp : 0 < s.size := by omega
    have e : s.data.toList[0]? = some s[0] := by rw [List.getElem?_eq_getElem (by simp; omega)]; rfl
    by_cases hh : s[0].toNat = 45
    · have h45 : s.data.toList[0]? = some 45 := by rw [e, show s[0] = 45 from UInt8.toNat_inj.1 hh]
      exact refread_1 s w (by omega) (by have : ¬ s.size = 1 := fun h => hb (.inr (.inr ⟨h, h45⟩)); omega) hn hh
    · exact refread_0 s w (by omega) hp hn hh
end Go.Proofs.YtfmkfabbiifolaaGreatDoor

/-
  Plain: what a piece is, what the token at a list's head is, what a list's tokens are.
-/
namespace Go.Proofs.YtfmkfabbiifolaaGreatDoor
open Go.RowKit

def upB (c : Int) : Bool := decide (65 ≤ c) && decide (c ≤ 90)
def winB (c : Int) : Bool := lowB c || upB c
def wordL (l : List UInt8) : Bool := l == [110, 111, 116] || l == [115, 97, 121, 115]
def nameL (l : List UInt8) : Bool := !l.isEmpty && decide (l.length ≤ 16) && !wordL l && letB (l.headD 0).toNat && l.all fun c => lowB (c.toNat : Int)
def kindL (l : List UInt8) : Int := if wordL l = true then 5 else if (upB (l.headD 0).toNat && decide (l.length ≤ 16)) = true then 2 else if nameL l = true then 1 else if (readN ⟨l.toArray⟩).isSome = true then 3 else 0
theorem wordB_eq (s : ByteArray) : wordB s = wordL s.data.toList := by unfold wordB wordL; rw [ByteArray.toList_eq]
theorem nameB_eq (s : ByteArray) : nameB s = nameL s.data.toList := by
  unfold nameB nameL allB hdB; rw [ByteArray.toList_eq, wordB_eq]; rfl
theorem mk_toList (s : ByteArray) : (⟨s.data.toList.toArray⟩ : ByteArray) = s := by obtain ⟨⟨l⟩⟩ := s; rfl

/-- how many bytes of a piece a list begins with -/
def runL : List UInt8 → Nat
  | [] => 0
  | c :: r => if winB (c.toNat : Int) = true then runL r + 1 else 0
theorem runL_le : ∀ l : List UInt8, runL l ≤ l.length
  | [] => Nat.le_refl _
  | c :: r => by have := runL_le r; rw [runL]; split <;> simp <;> omega

/-- the token at a list's head: an error's number, a kind, a length -/
structure Tk where
  err : Int
  kind : Int
  len : Nat
deriving DecidableEq
def pieceL (l : List UInt8) (n : Nat) : Tk := if kindL (l.take n) = 0 then ⟨5, 0, 0⟩ else ⟨0, kindL (l.take n), n⟩
def oneL : List UInt8 → Tk
  | [] => ⟨1, 0, 0⟩
  | c :: r =>
    if (c.toNat == 32 || c.toNat == 9) = true then ⟨4, 0, 0⟩
    else if (c.toNat == 40 || c.toNat == 41 || c.toNat == 44 || c.toNat == 46 || c.toNat == 60) = true then ⟨0, 4, 1⟩
    else if (c.toNat == 58) = true then (if ((r.headD 0).toNat == 45) = true then ⟨0, 4, 2⟩ else ⟨5, 0, 0⟩)
    else if (c.toNat == 33) = true then (if ((r.headD 0).toNat == 61) = true then ⟨0, 4, 2⟩ else ⟨5, 0, 0⟩)
    else if (c.toNat == 45) = true then (if digB (r.headD 0).toNat = true then pieceL (c :: r) (1 + runL r) else ⟨5, 0, 0⟩)
    else if winB (c.toNat : Int) = true then pieceL (c :: r) (1 + runL r)
    else ⟨5, 0, 0⟩

/-- a token: its kind, from where, to where -/
structure Tok where
  kind : Int
  fr : Int
  to : Int
deriving DecidableEq
structure Toks where
  toks : List Tok
  pl : Int
  err : Int
def Toks.put (t : List Tok) (x : Toks) : Toks := if x.err = 0 then ⟨t ++ x.toks, 0, 0⟩ else ⟨[], x.pl, x.err⟩
def allF : Nat → Nat → List UInt8 → Toks
  | 0, _, _ => ⟨[], 0, 0⟩
  | _ + 1, _, [] => ⟨[], 0, 0⟩
  | f + 1, k, c :: r =>
    if (oneL (c :: r)).err = 4 then allF f (k + 1) r
    else if (oneL (c :: r)).err = 0 then Toks.put [⟨(oneL (c :: r)).kind, k, (k + (oneL (c :: r)).len : Nat)⟩] (allF f (k + (oneL (c :: r)).len) ((c :: r).drop (oneL (c :: r)).len))
    else ⟨[], k, (oneL (c :: r)).err⟩
def allL (l : List UInt8) : Toks := if 4096 < l.length then ⟨[], 0, 2⟩ else allF l.length 0 l

/-- the parts of One's answer -/
def oneA (l : List UInt8) (a : Int) : Tk := if 0 ≤ a ∧ a < l.length then oneL (l.drop a.toNat) else ⟨1, 0, 0⟩
def oneV (l : List UInt8) (a : Int) : Value := let t := oneA l a
  .tuple #[.agg #[.int .u8 t.kind, .int .i64 (if t.err = 0 then a else 0), .int .i64 (if t.err = 0 then a + t.len else 0)], .int .i64 t.err]
theorem pieceL_bd (l : List UInt8) (n : Nat) (h0 : 0 < n) (h1 : n ≤ l.length) : ((pieceL l n).err = 0 → 0 < (pieceL l n).len ∧ (pieceL l n).len ≤ l.length) ∧ ((pieceL l n).err = 0 ∨ (pieceL l n).err = 5) ∧ ((pieceL l n).err ≠ 0 → (pieceL l n).kind = 0) := by
  unfold pieceL; split <;> simp <;> omega
theorem oneL_bd (l : List UInt8) (h : 0 < l.length) : ((oneL l).err = 0 → 0 < (oneL l).len ∧ (oneL l).len ≤ l.length) ∧ ((oneL l).err = 0 ∨ (oneL l).err = 4 ∨ (oneL l).err = 5) ∧ ((oneL l).err ≠ 0 → (oneL l).kind = 0) := by
  cases l with
  | nil => simp at h
  | cons c r =>
    have hp := pieceL_bd (c :: r) (1 + runL r) (by omega) (by have := runL_le r; simp; omega)
    have hh : ∀ n, ((r.headD 0).toNat == n) = true → 0 < n → 0 < r.length := by
      intro n h1 h2
      cases r with
      | nil => simp at h1; omega
      | cons => simp
    rw [oneL]
    split
    · simp
    split
    · exact ⟨fun _ => ⟨by decide, by simp⟩, .inl rfl, fun h => absurd rfl h⟩
    split
    · split
      · rename_i h1; have := hh _ h1 (by omega)
        exact ⟨fun _ => ⟨by decide, by simp; omega⟩, .inl rfl, fun h => absurd rfl h⟩
      · simp
    split
    · split
      · rename_i h1; have := hh _ h1 (by omega)
        exact ⟨fun _ => ⟨by decide, by simp; omega⟩, .inl rfl, fun h => absurd rfl h⟩
      · simp
    split
    · split
      · exact ⟨hp.1, by rcases hp.2.1 with h | h <;> simp [h], hp.2.2⟩
      · simp
    split
    · exact ⟨hp.1, by rcases hp.2.1 with h | h <;> simp [h], hp.2.2⟩
    · simp
end Go.Proofs.YtfmkfabbiifolaaGreatDoor
