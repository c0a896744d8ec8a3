/-
  Contracts of the plain answers: mandateref04.Right, Label, At, Above, Below.
-/
import Derived.Test.YtkgcloggnnjioaaDoorRefR
namespace Go.Proofs.YtkgcloggnnjioaaDoor
open Go.RowKit

set_option maxHeartbeats 1000000 in
theorem rright_any (ms : List Nat) (p : Option Addr) (c : Nat) (w : World) (hz : ms.length ≤ maxLen) (hs : Small ms) (hp : Us w w.heap.size p ms) :
    Calls Tryd.prog 16 #[.slice p ms.length c] w fun e w' => e = .returned (.bool (ordB ms)) ∧ w = w' := by
  by_cases h : 1 ≤ ms.length ∧ ms.length ≤ 64
  · exact rright_in ms p c w h.1 h.2 hs hp
  · have HF := Lib.hid (show ordB ms = false from ordB_false fun hO => h ⟨hO.1, hO.2.1⟩)
    unfold maxLen at hz
    by_cases h1 : ms.length < 1
    · go_enter Tryd.func16, Tryd.ntmps16
      go_wp2_with fail
      go_ret
      exact ⟨by rw [HF.out]; rfl, rfl⟩
    · have h2 : 64 < ms.length := by omega
      clear h
      go_enter Tryd.func16, Tryd.ntmps16
      go_wp2_with fail
      go_ret
      exact ⟨by rw [HF.out]; rfl, rfl⟩

noncomputable def labB (ms : List Nat) (a : Int) : Bool := ordB ms && inB ms a
theorem inB_true {ms : List Nat} {a : Int} (h : inB ms a = true) : ∃ k : Nat, a = k ∧ k < ms.length := by
  unfold inB at h
  simp only [decide_eq_true_eq] at h
  exact ⟨a.toNat, by omega, by omega⟩
theorem inB_nat {ms : List Nat} {k : Nat} (h : k < ms.length) : inB ms k = true := by unfold inB; simp; omega
set_option maxHeartbeats 2000000 in
theorem label_any (ms : List Nat) (p : Option Addr) (c : Nat) (a : Int) (w : World) (hz : ms.length ≤ maxLen) (hs : Small ms) (hp : Us w w.heap.size p ms) :
    Calls Tryd.prog 36 #[.slice p ms.length c, .int .i64 a] w fun e w' => e = .returned (.bool (labB ms a)) ∧ w = w' := by
  have HR := Lib.hid (rright_any ms p c w hz hs hp)
  have hl : labB ms a = (ordB ms && decide (0 ≤ a ∧ a < ms.length)) := rfl
  unfold maxLen at hz
  clear hs hp
  cases ho : ordB ms with
  | false =>
    rw [ho] at HR hl
    have HL := Lib.hid hl
    clear ho hl
    go_enter Tryd.func36, Tryd.ntmps36
    go_wp2_with (go_at_call 16; refine HR.out.mono ?_; rintro e w' ⟨rfl, rfl⟩)
    go_ret
    exact ⟨by rw [HL.out]; rfl, rfl⟩
  | true =>
    rw [ho] at HR hl
    by_cases h1 : 0 ≤ a
    · by_cases h2 : a < (ms.length : Int)
      · have HL := Lib.hid (show labB ms a = true by rw [hl]; simp [h1, h2])
        clear ho hl
        go_enter Tryd.func36, Tryd.ntmps36
        go_wp2_with (go_at_call 16; refine HR.out.mono ?_; rintro e w' ⟨rfl, rfl⟩)
        go_ret
        exact ⟨by rw [HL.out]; simp, rfl⟩
      · have HL := Lib.hid (show labB ms a = false by rw [hl]; simp [h2])
        have h3 : decide (a < (ms.length : Int)) = false := by simpa using h2
        clear ho hl h2
        go_enter Tryd.func36, Tryd.ntmps36
        go_wp2_with (go_at_call 16; refine HR.out.mono ?_; rintro e w' ⟨rfl, rfl⟩)
        go_ret
        exact ⟨by rw [HL.out]; simp, rfl⟩
    · have HL := Lib.hid (show labB ms a = false by rw [hl]; simp [h1])
      have h3 : decide (0 ≤ a) = false := by simpa using h1
      clear ho hl h1
      go_enter Tryd.func36, Tryd.ntmps36
      go_wp2_with (go_at_call 16; refine HR.out.mono ?_; rintro e w' ⟨rfl, rfl⟩)
      go_ret
      exact ⟨by rw [HL.out]; rfl, rfl⟩

set_option maxHeartbeats 2000000 in
theorem rat_any (ms : List Nat) (p : Option Addr) (c : Nat) (a b : Int) (w : World) (hz : ms.length ≤ maxLen) (hs : Small ms) (hp : Us w w.heap.size p ms) :
    Calls Tryd.prog 20 #[.slice p ms.length c, .int .i64 a, .int .i64 b] w fun e w' => e = .returned (.bool (atB ms a b)) ∧ w = w' := by
  have HLA := Lib.hid (label_any ms p c a w hz hs hp)
  have HLB := Lib.hid (label_any ms p c b w hz hs hp)
  have hat : atB ms a b = (((inB ms a && (inB ms b && true)) && ordB ms) && (ms.getD a.toNat 0).testBit b.toNat) := rfl
  have hla : labB ms a = (ordB ms && inB ms a) := rfl
  have hlb : labB ms b = (ordB ms && inB ms b) := rfl
  unfold maxLen at hz
  cases h1 : labB ms a with
  | false =>
    rw [h1] at HLA hla
    have HF := Lib.hid (show atB ms a b = false by
      rw [hat]; have := hla.symm; rw [Bool.and_eq_false_iff] at this
      rcases this with h | h <;> rw [h] <;> simp)
    clear h1 hla hlb hat hs hp
    go_enter Tryd.func20, Tryd.ntmps20
    go_wp2_with (go_at_call 36; refine HLA.out.mono ?_; rintro e w' ⟨rfl, rfl⟩)
    go_ret
    exact ⟨by rw [HF.out]; rfl, rfl⟩
  | true =>
    rw [h1] at HLA hla
    cases h2 : labB ms b with
    | false =>
      rw [h2] at HLB hlb
      have HF := Lib.hid (show atB ms a b = false by
        rw [hat]; have := hlb.symm; rw [Bool.and_eq_false_iff] at this
        rcases this with h | h <;> rw [h] <;> simp)
      clear h1 h2 hla hlb hat hs hp
      have tok1 : True := trivial
      go_enter Tryd.func20, Tryd.ntmps20
      go_wp2_with (first | (go_at_call 36; have _t := tok1; refine HLA.out.mono ?_; rintro e w' ⟨rfl, rfl⟩; clear tok1) | (go_at_call 36; refine HLB.out.mono ?_; rintro e w' ⟨rfl, rfl⟩))
      go_ret
      exact ⟨by rw [HF.out]; rfl, rfl⟩
    | true =>
      rw [h2] at HLB hlb
      have ha := (Bool.and_eq_true _ _).mp hla.symm
      have hb := (Bool.and_eq_true _ _).mp hlb.symm
      obtain ⟨i, rfl, hi⟩ := inB_true ha.2
      obtain ⟨j, rfl, hj⟩ := inB_true hb.2
      have hn64 : ms.length ≤ 64 := by
        have : OrdM ms := Classical.byContradiction fun hc => by have := ordB_false hc; rw [this] at ha; cases ha.1
        exact this.2.1
      obtain ⟨bb, off, rfl, _, hcs⟩ := hp.cell (by omega)
      have xi := hcs i hi
      have hX := small_getD hs i
      have HF := Lib.hid (show atB ms i j = (ms.getD i 0).testBit j by rw [hat, ha.1, ha.2, hb.2]; simp)
      clear h1 h2 hla hlb hat hs hcs hp ha hb
      generalize ms.getD i 0 = X at *
      have hij : j < 64 := by omega
      have HB := Lib.hid (fun wx => Bit_ref X j hX hij wx)
      cases ht : X.testBit j
      all_goals
        rw [ht] at HF HB
        clear ht
        have tok1 : True := trivial
        go_enter Tryd.func20, Tryd.ntmps20
        go_wp2_with (first | (go_at_call 29; refine (HB.out _).mono ?_; rintro e w' ⟨rfl, rfl⟩) | (go_at_call 36; have _t := tok1; refine HLA.out.mono ?_; rintro e w' ⟨rfl, rfl⟩; clear tok1) | (go_at_call 36; refine HLB.out.mono ?_; rintro e w' ⟨rfl, rfl⟩))
        go_ret
        exact ⟨by rw [HF.out]; rfl, rfl⟩

/-- a mask of what is asked bit by bit -/
def genK (f : Nat → Bool) : Nat → Nat
  | 0 => 0
  | k + 1 => if f k = true then genK f k ||| 2 ^ k else genK f k
theorem genK_lt (f : Nat → Bool) : ∀ k, k ≤ 64 → genK f k < 18446744073709551616
  | 0, _ => by rw [genK]; decide
  | k + 1, h => by
    have ih := genK_lt f k (by omega)
    rw [genK]
    split
    · exact Nat.or_lt_two_pow (n := 64) ih (pow_lt64 (by omega))
    · exact ih
theorem testBit_genK (f : Nat → Bool) (i : Nat) : ∀ k, (genK f k).testBit i = (decide (i < k) && f i)
  | 0 => by simp [genK]
  | k + 1 => by
    have ih := testBit_genK f i k
    rw [genK]
    by_cases h : f k = true
    · rw [if_pos h, Nat.testBit_or, ih, Nat.testBit_two_pow]
      by_cases e : i = k
      · subst e; rw [h]; simp
      · have e' : ¬ k = i := fun h => e h.symm
        by_cases h2 : i < k
        · have : i < k + 1 := by omega
          simp [h2, this, e']
        · have : ¬ i < k + 1 := by omega
          simp [h2, this, e']
    · rw [if_neg h, ih]
      by_cases e : i = k
      · subst e; simp at h; simp [h]
      · by_cases h2 : i < k
        · have : i < k + 1 := by omega
          simp [h2, this]
        · have : ¬ i < k + 1 := by omega
          simp [h2, this]
theorem genK_zero {f : Nat → Bool} (h : ∀ k, f k = false) : ∀ k, genK f k = 0
  | 0 => rfl
  | k + 1 => by rw [genK, h k, if_neg (by decide), genK_zero h k]
theorem atB_out {ms : List Nat} {a b : Int} (h : atB ms a b = true) : OrdM ms ∧ ∃ i j : Nat, a = i ∧ b = j ∧ i < ms.length ∧ j < ms.length ∧ has ms i j := by
  unfold atB at h
  rw [Bool.and_eq_true] at h
  obtain ⟨i, rfl, hi⟩ := labelsB_in h.1 (a := a) (by simp)
  obtain ⟨j, rfl, hj⟩ := labelsB_in h.1 (a := b) (by simp)
  exact ⟨labelsB_ord h.1, i, j, rfl, rfl, hi, hj, by have := h.2; simpa [has] using this⟩
theorem atB_nat {ms : List Nat} (ho : OrdM ms) {i j : Nat} (hi : i < ms.length) (hj : j < ms.length) : atB ms i j = (ms.getD i 0).testBit j := by
  unfold atB labelsB
  have h1 := inB_nat hi
  have h2 := inB_nat hj
  simp [h1, h2, ordB_true ho]
theorem labelsB1 {ms : List Nat} {a : Int} (h : labelsB ms [a] = true) : OrdM ms ∧ ∃ i : Nat, a = i ∧ i < ms.length := ⟨labelsB_ord h, labelsB_in h (by simp)⟩
theorem labelsB1_of {ms : List Nat} (ho : OrdM ms) {i : Nat} (hi : i < ms.length) : labelsB ms [(i : Int)] = true := by unfold labelsB; simp [inB_nat hi, ordB_true ho]
theorem above_gen (ms : List Nat) (_hs : Small ms) (a : Int) : aboveM ms a = genK (fun b => atB ms a b) ms.length := by
  unfold aboveM
  by_cases h : labelsB ms [a] = true
  · rw [if_pos h]
    obtain ⟨ho, i, rfl, hi⟩ := labelsB1 h
    apply Nat.eq_of_testBit_eq
    intro j
    rw [testBit_genK, Int.toNat_natCast]
    by_cases hj : j < ms.length
    · rw [atB_nat ho hi hj]; simp [hj]
    · simp only [hj, decide_false, Bool.false_and]
      rw [Bool.eq_false_iff]
      intro ht
      exact hj ((ho.2.2 i hi).2.1 j ht)
  · rw [if_neg h, genK_zero]
    intro k
    rw [Bool.eq_false_iff]
    intro ht
    obtain ⟨ho, i, j, rfl, _, hi, _⟩ := atB_out ht
    exact h (labelsB1_of ho hi)
theorem below_gen (ms : List Nat) (a : Int) : belowM ms a = genK (fun b => atB ms b a) ms.length := by
  unfold belowM
  by_cases h : labelsB ms [a] = true
  · rw [if_pos h]
    obtain ⟨ho, i, rfl, hi⟩ := labelsB1 h
    apply Nat.eq_of_testBit_eq
    intro j
    rw [testBit_genK, testBit_belowK, Int.toNat_natCast]
    by_cases hj : j < ms.length
    · rw [atB_nat ho hj hi]
    · simp [hj]
  · rw [if_neg h, genK_zero]
    intro k
    rw [Bool.eq_false_iff]
    intro ht
    obtain ⟨ho, i, j, _, rfl, _, hj, _⟩ := atB_out ht
    exact h (labelsB1_of ho hj)
theorem at_len {ms : List Nat} {a b : Int} (h : atB ms a b = true) : ms.length ≤ 64 := (atB_out h).1.2.1

theorem Set_ref (m a : Nat) (hm : m < 18446744073709551616) (h : a < 64) (w : World) : Calls Tryd.prog 32 #[.int .u64 m, .int .i64 a] w fun e w' => e = .returned (.int .u64 ((m ||| 2 ^ a : Nat) : Int)) ∧ w = w' :=
  (Set_any m a hm h w).mono fun _e _w' h => ⟨h.1, h.2.symm⟩
/-- beyond 64 labels nothing stands -/
theorem genK_any {f : Nat → Bool} {n : Nat} (h : ∀ k, f k = true → n ≤ 64) : ∀ k, k ≤ n → genK f k < 18446744073709551616 := by
  intro k hk
  by_cases h64 : n ≤ 64
  · exact genK_lt f k (by omega)
  · rw [genK_zero (fun k => by rw [Bool.eq_false_iff]; exact fun ht => h64 (h k ht))]; decide

set_option maxHeartbeats 4000000 in
theorem rabove_any (ms : List Nat) (p : Option Addr) (c : Nat) (a : Int) (w : World) (hz : ms.length ≤ maxLen) (hs : Small ms) (hp : Us w w.heap.size p ms) :
    Calls Tryd.prog 22 #[.slice p ms.length c, .int .i64 a] w fun e w' => e = .returned (.int .u64 (aboveM ms a : Nat)) ∧ w = w' := by
  have HG := Lib.hid (above_gen ms hs a)
  have HLT := Lib.hid (genK_any (f := fun b => atB ms a b) (n := ms.length) (fun k hk => at_len hk))
  have HA := Lib.hid (fun b : Nat => rat_any ms p c a b w hz hs hp)
  have H64 := Lib.hid (show ∀ b : Nat, atB ms a b = true → ms.length ≤ 64 from fun b h => at_len h)
  unfold maxLen at hz
  clear hs hp
  go_enter Tryd.func22, Tryd.ntmps22
  go_wp2_with fail
  go_loop [5, 6] (fun m i => ∃ k : Nat, k ≤ ms.length ∧ i = .int .i64 k ∧ m = .int .u64 (genK (fun b => atB ms a b) k : Nat)) (fun _ i => ms.length - (intOf i).toNat)
  case atStart => exact ⟨0, Nat.zero_le _, rfl, rfl⟩
  case round =>
    obtain ⟨k, hk, rfl, rfl⟩ := hrel
    by_cases hlt : k < ms.length
    · have hst : genK (fun b => atB ms a b) (k + 1) = if atB ms a k = true then genK (fun b => atB ms a b) k ||| 2 ^ k else genK (fun b => atB ms a b) k := rfl
      have hM := HLT.out k hk
      have HAK := Lib.hid (HA.out k)
      cases ht : atB ms a k with
      | true =>
        have h64 := H64.out k ht
        rw [ht] at hst HAK
        rw [if_pos rfl] at hst
        have HN := Lib.hid (show ((genK (fun b => atB ms a b) (k + 1) : Nat) : Int) = ((genK (fun b => atB ms a b) k ||| 2 ^ k : Nat) : Int) by rw [hst])
        clear ht hst
        generalize genK (fun b => atB ms a b) k = M at *
        have HS := Lib.hid (fun wx => Set_ref M k hM (by omega) wx)
        generalize M ||| 2 ^ k = M2 at *
        go_wp2_with (first | (go_at_call 20; refine HAK.out.mono ?_; rintro e w' ⟨rfl, rfl⟩) | (go_at_call 32; refine (HS.out _).mono ?_; rintro e w' ⟨rfl, rfl⟩))
        go_round
        case rel => exact ⟨k + 1, by omega, by go_num, by rw [HN.out]⟩
        case measure => simp [intOf]; omega
      | false =>
        rw [ht] at hst HAK
        rw [if_neg (by decide)] at hst
        have HN := Lib.hid (show ((genK (fun b => atB ms a b) (k + 1) : Nat) : Int) = ((genK (fun b => atB ms a b) k : Nat) : Int) by rw [hst])
        clear ht hst
        generalize genK (fun b => atB ms a b) k = M at *
        go_wp2_with (go_at_call 20; refine HAK.out.mono ?_; rintro e w' ⟨rfl, rfl⟩)
        go_round
        case rel => exact ⟨k + 1, by omega, by go_num, by rw [HN.out]⟩
        case measure => simp [intOf]; omega
    · obtain rfl : k = ms.length := by omega
      have HE := Lib.hid (show ((aboveM ms a : Nat) : Int) = ((genK (fun b => atB ms a b) ms.length : Nat) : Int) by rw [HG.out])
      generalize genK (fun b => atB ms a b) ms.length = M at *
      go_wp2_with fail
      go_ret
      exact ⟨by rw [HE.out]; rfl, rfl⟩
set_option maxHeartbeats 4000000 in
theorem rbelow_any (ms : List Nat) (p : Option Addr) (c : Nat) (a : Int) (w : World) (hz : ms.length ≤ maxLen) (hs : Small ms) (hp : Us w w.heap.size p ms) :
    Calls Tryd.prog 24 #[.slice p ms.length c, .int .i64 a] w fun e w' => e = .returned (.int .u64 (belowM ms a : Nat)) ∧ w = w' := by
  have HG := Lib.hid (below_gen ms a)
  have HLT := Lib.hid (genK_any (f := fun b => atB ms b a) (n := ms.length) (fun k hk => at_len hk))
  have HA := Lib.hid (fun b : Nat => rat_any ms p c b a w hz hs hp)
  have H64 := Lib.hid (show ∀ b : Nat, atB ms b a = true → ms.length ≤ 64 from fun b h => at_len h)
  unfold maxLen at hz
  clear hs hp
  go_enter Tryd.func24, Tryd.ntmps24
  go_wp2_with fail
  go_loop [5, 6] (fun m i => ∃ k : Nat, k ≤ ms.length ∧ i = .int .i64 k ∧ m = .int .u64 (genK (fun b => atB ms b a) k : Nat)) (fun _ i => ms.length - (intOf i).toNat)
  case atStart => exact ⟨0, Nat.zero_le _, rfl, rfl⟩
  case round =>
    obtain ⟨k, hk, rfl, rfl⟩ := hrel
    by_cases hlt : k < ms.length
    · have hst : genK (fun b => atB ms b a) (k + 1) = if atB ms k a = true then genK (fun b => atB ms b a) k ||| 2 ^ k else genK (fun b => atB ms b a) k := rfl
      have hM := HLT.out k hk
      have HAK := Lib.hid (HA.out k)
      cases ht : atB ms k a with
      | true =>
        have h64 := H64.out k ht
        rw [ht] at hst HAK
        rw [if_pos rfl] at hst
        have HN := Lib.hid (show ((genK (fun b => atB ms b a) (k + 1) : Nat) : Int) = ((genK (fun b => atB ms b a) k ||| 2 ^ k : Nat) : Int) by rw [hst])
        clear ht hst
        generalize genK (fun b => atB ms b a) k = M at *
        have HS := Lib.hid (fun wx => Set_ref M k hM (by omega) wx)
        generalize M ||| 2 ^ k = M2 at *
        go_wp2_with (first | (go_at_call 20; refine HAK.out.mono ?_; rintro e w' ⟨rfl, rfl⟩) | (go_at_call 32; refine (HS.out _).mono ?_; rintro e w' ⟨rfl, rfl⟩))
        go_round
        case rel => exact ⟨k + 1, by omega, by go_num, by rw [HN.out]⟩
        case measure => simp [intOf]; omega
      | false =>
        rw [ht] at hst HAK
        rw [if_neg (by decide)] at hst
        have HN := Lib.hid (show ((genK (fun b => atB ms b a) (k + 1) : Nat) : Int) = ((genK (fun b => atB ms b a) k : Nat) : Int) by rw [hst])
        clear ht hst
        generalize genK (fun b => atB ms b a) k = M at *
        go_wp2_with (go_at_call 20; refine HAK.out.mono ?_; rintro e w' ⟨rfl, rfl⟩)
        go_round
        case rel => exact ⟨k + 1, by omega, by go_num, by rw [HN.out]⟩
        case measure => simp [intOf]; omega
    · obtain rfl : k = ms.length := by omega
      have HE := Lib.hid (show ((belowM ms a : Nat) : Int) = ((genK (fun b => atB ms b a) ms.length : Nat) : Int) by rw [HG.out])
      generalize genK (fun b => atB ms b a) ms.length = M at *
      go_wp2_with fail
      go_ret
      exact ⟨by rw [HE.out]; rfl, rfl⟩
end Go.Proofs.YtkgcloggnnjioaaDoor
