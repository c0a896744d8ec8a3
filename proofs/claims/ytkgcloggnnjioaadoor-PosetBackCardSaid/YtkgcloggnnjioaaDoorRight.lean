/-
  Contract: poset.Right answers whether a list of masks is an order.
-/
import Derived.Test.YtkgcloggnnjioaaDoorHolds
namespace Go.Proofs.YtkgcloggnnjioaaDoor
open Go.RowKit Go.Shelf

theorem all_val (n : Nat) (h1 : 1 ≤ n) (h : n ≤ 64) : (18446744073709551615 : Int) / 2 ^ (64 - n) = ((2 ^ n - 1 : Nat) : Int) := by
  have e : (2 : Int) ^ (64 - n) = ((2 ^ (64 - n) : Nat) : Int) := by simp
  rw [e, show (18446744073709551615 : Int) = ((18446744073709551615 : Nat) : Int) from rfl, ← Int.natCast_ediv]
  congr 1
  have hp : 0 < 2 ^ (64 - n) := Nat.pow_pos (by decide)
  have hq : 2 ^ (64 - n) * 2 ^ n = 18446744073709551616 := by rw [← Nat.pow_add, show 64 - n + n = 64 by omega]
  have hn : 0 < 2 ^ n := Nat.pow_pos (by decide)
  apply Nat.div_eq_of_lt_le
  · rw [Nat.sub_mul, Nat.one_mul, Nat.mul_comm, hq]; omega
  · rw [show 2 ^ n - 1 + 1 = 2 ^ n by omega, Nat.mul_comm, hq]; decide

set_option maxHeartbeats 4000000 in
set_option maxRecDepth 100000 in
theorem right_in (ms : List Nat) (p : Option Addr) (c : Nat) (w : World) (h1 : 1 ≤ ms.length) (hn : ms.length ≤ 64) (hs : Small ms) (hp : Us w w.heap.size p ms) (hT : Tab w) (hg : 0 < w.heap.size) :
    Calls Tryd.prog 15 #[.slice p ms.length c] w fun e W' => e = .returned (.bool (ordB ms)) ∧ Below w.heap.size w W' := by
  obtain ⟨b, off, rfl, hbl, hcs⟩ : ∃ b off, p = some ⟨b, off, none⟩ ∧ b < w.heap.size ∧ ∀ i (h : i < ms.length), w.cell? ⟨b, off + i, none⟩ = some (mask ms[i]) := by
    rcases hp with h | h
    · subst h; simp at h1
    · exact h
  have hav := all_val ms.length h1 hn
  have HCS := Lib.hid hcs
  have HS := Lib.hid hs
  have HT := Lib.hid hT
  have hAL : 2 ^ ms.length - 1 < 18446744073709551616 := by
    have : 2 ^ ms.length ≤ 2 ^ 64 := Nat.pow_le_pow_right (by decide) hn
    have e : (2 : Nat) ^ 64 = 18446744073709551616 := rfl
    omega
  have HCA := Lib.hid (fun a ha => codeA_iff ms hs hn a ha)
  have HF := Lib.hid (show ∀ a, a < ms.length → ¬ AOk ms a → ordB ms = false from fun a ha h => ordB_false fun hO => h (hO.2.2 a ha))
  have HTR := Lib.hid (show (∀ a, a < ms.length → AOk ms a) → ordB ms = true from fun h => ordB_true ⟨h1, hn, h⟩)
  have HIN := Lib.hid (show ∀ a, andn (ms.getD a 0) (2 ^ ms.length - 1) = 0 → ∀ i, (ms.getD a 0).testBit i = true → i < ms.length from fun a h i hi => by
    have := (andn_zero _ _ (small_getD hs a) hAL).1 h i hi
    rw [Nat.testBit_two_pow_sub_one] at this; simpa using this)
  clear hcs hs hT hp
  generalize hAL2 : 2 ^ ms.length - 1 = AL at *
  clear hAL2
  have e64 : (64 : Int) - (ms.length : Int) = ((64 - ms.length : Nat) : Int) := by omega
  go_enter Tryd.func15, Tryd.ntmps15
  go_wp2_with fail
  go_loopw [20] (fun i wr => ∃ k : Nat, k ≤ ms.length ∧ i = .int .i64 k ∧ Hid (∀ a, a < k → AOk ms a) ∧ Below w.heap.size w wr) (fun i _ => ms.length - (intOf i).toNat)
  case atStart => exact ⟨0, Nat.zero_le _, rfl, Lib.hid (fun a h => absurd h (Nat.not_lt_zero a)), Below.refl _ _⟩
  case round =>
    obtain ⟨k, hk, rfl, HJ, hb⟩ := hrel
    have HB := Lib.hid hb
    by_cases hlt : k < ms.length
    · have xk : wr.cell? ⟨b, off + k, none⟩ = some (.int .u64 (ms.getD k 0 : Nat)) := by
        rw [hb.cell (p := ⟨b, off + k, none⟩) hbl, HCS.out k hlt, getD_at hlt]; rfl
      have hX := small_getD HS.out k
      have hk64 : k < 64 := by omega
      have HC := HCA.out k hlt
      have hHI := HIN.out k
      have hFk := HF.out k hlt
      have hway : ((ms.getD k 0).testBit k = false ∧ ordB ms = false) ∨ ((ms.getD k 0).testBit k = true ∧ (((andn (ms.getD k 0) AL : Nat) : Int) != 0) = true ∧ ordB ms = false) ∨
          ((ms.getD k 0).testBit k = true ∧ (((andn (ms.getD k 0) AL : Nat) : Int) != 0) = false ∧ (∀ i, (ms.getD k 0).testBit i = true → i < ms.length) ∧ holdsB ms k = false ∧ ordB ms = false) ∨
          ((ms.getD k 0).testBit k = true ∧ (((andn (ms.getD k 0) AL : Nat) : Int) != 0) = false ∧ (∀ i, (ms.getD k 0).testBit i = true → i < ms.length) ∧ holdsB ms k = true ∧ AOk ms k) := by
        cases h1 : (ms.getD k 0).testBit k with
        | false => exact .inl ⟨rfl, hFk fun h => by have := (HC.1 h).1; rw [h1] at this; cases this⟩
        | true =>
          by_cases h2 : andn (ms.getD k 0) AL = 0
          · have h2' : (((andn (ms.getD k 0) AL : Nat) : Int) != 0) = false := by rw [h2]; rfl
            cases h3 : holdsB ms k with
            | false => exact .inr (.inr (.inl ⟨rfl, h2', hHI h2, rfl, hFk fun h => by have := (holdsB_iff ms k).2 (HC.1 h).2.2; rw [h3] at this; cases this⟩))
            | true => exact .inr (.inr (.inr ⟨rfl, h2', hHI h2, rfl, HC.2 ⟨h1, h2, (holdsB_iff ms k).1 h3⟩⟩))
          · exact .inr (.inl ⟨rfl, by rw [bne_iff_ne]; omega, hFk fun h => h2 (HC.1 h).2.1⟩)
      have hand : bits .andNot .u64 ((ms.getD k 0 : Nat) : Int) (AL : Int) = ((andn (ms.getD k 0) AL : Nat) : Int) := u64_andNot_nat (ms.getD k 0) AL hX hAL
      have HHO := Lib.hid (show (∀ i, (ms.getD k 0).testBit i = true → i < ms.length) → Calls Tryd.prog 34 #[.slice (some ⟨b, off, none⟩) ms.length c, .int .i64 k] wr fun e W' => e = .returned (.bool (holdsB ms k)) ∧ Below wr.heap.size wr W' from fun h =>
        holds_any ms b off c k wr hlt hn HS.out h (Nat.lt_of_lt_of_le hbl hb.size) (fun i hi => (hb.cell (p := ⟨b, off + i, none⟩) hbl).trans (HCS.out i hi)) (HT.out.below hb hg))
      have HHA := Lib.hid (fun wx => has_any (ms.getD k 0) k hX hk64 wx)
      clear hb HC hHI hFk
      generalize ms.getD k 0 = X at *
      unfold mask at HHA
      rcases hway with ⟨h1, h4⟩ | ⟨h1, h2, h4⟩ | ⟨h1, h2, h3, h5, h4⟩ | ⟨h1, h2, h3, h5, h4⟩
      · rw [h1] at HHA
        have H4 := Lib.hid h4
        clear h4 h1
        go_wp2_with (go_at_call 33; refine (HHA.out _).mono ?_; rintro e w' ⟨rfl, rfl⟩)
        go_ret
        exact ⟨by rw [H4.out]; rfl, HB.out⟩
      · rw [h1] at HHA
        have H4 := Lib.hid h4
        clear h4 h1
        go_wp2_with (go_at_call 33; refine (HHA.out _).mono ?_; rintro e w' ⟨rfl, rfl⟩)
        go_ret
        exact ⟨by rw [H4.out]; rfl, HB.out⟩
      · rw [h1] at HHA
        have HH2 := Lib.hid (HHO.out h3)
        rw [h5] at HH2
        have H4 := Lib.hid h4
        clear h4 h1 h3 h5 HHO
        go_wp2_with (first
          | (go_at_call 33; refine (HHA.out _).mono ?_; rintro e w' ⟨rfl, rfl⟩)
          | (go_at_call 34; refine HH2.out.mono ?_; rintro e w' ⟨rfl, hb2⟩))
        go_ret
        exact ⟨by rw [H4.out]; rfl, HB.out.trans (hb2.mono HB.out.size)⟩
      · rw [h1] at HHA
        have HH2 := Lib.hid (HHO.out h3)
        rw [h5] at HH2
        have HJ2 := Lib.hid (show ∀ a, a < k + 1 → AOk ms a from fun a ha => by
          by_cases e : a = k
          · subst e; exact h4
          · exact HJ.out a (by omega))
        clear h4 h1 h3 h5 HHO
        go_wp2_with (first
          | (go_at_call 33; refine (HHA.out _).mono ?_; rintro e w' ⟨rfl, rfl⟩)
          | (go_at_call 34; refine HH2.out.mono ?_; rintro e w' ⟨rfl, hb2⟩))
        go_roundw
        case rel => exact ⟨k + 1, by omega, by go_num, HJ2, HB.out.trans (hb2.mono HB.out.size)⟩
        case measure => simp [intOf]; omega
    · have H4 := Lib.hid (HTR.out fun a ha => HJ.out a (by omega))
      clear hb
      go_wp2_with fail
      go_ret
      exact ⟨by rw [H4.out]; rfl, HB.out⟩

theorem right_any (ms : List Nat) (p : Option Addr) (c : Nat) (w : World) (hz : ms.length ≤ maxLen) (hs : Small ms) (hp : Us w w.heap.size p ms) (hT : Tab w) (hg : 0 < w.heap.size) :
    Calls Tryd.prog 15 #[.slice p ms.length c] w fun e W' => e = .returned (.bool (ordB ms)) ∧ Below w.heap.size w W' := by
  by_cases h : 1 ≤ ms.length ∧ ms.length ≤ 64
  · exact right_in ms p c w h.1 h.2 hs hp hT hg
  · have HF := Lib.hid (show ordB ms = false from ordB_false fun hO => h ⟨hO.1, hO.2.1⟩)
    unfold maxLen at hz
    by_cases h1 : ms.length < 1
    · go_enter Tryd.func15, Tryd.ntmps15
      go_wp2_with fail
      go_ret
      exact ⟨by rw [HF.out]; rfl, Below.refl _ _⟩
    · have h2 : 64 < ms.length := by omega
      clear h
      go_enter Tryd.func15, Tryd.ntmps15
      go_wp2_with fail
      go_ret
      exact ⟨by rw [HF.out]; rfl, Below.refl _ _⟩
end Go.Proofs.YtkgcloggnnjioaaDoor
