/-
  Contract: the reference's Read at a text that does not begin with a minus.
-/
import Derived.Test.YtpkccmceobonnaaDoorReadT
namespace Go.Proofs.YtpkccmceobonnaaDoor
open Go.RowKit

set_option maxHeartbeats 1000000 in
set_option maxRecDepth 100000 in
theorem refread_0 (s : ByteArray) (w : World) (h20 : s.size ≤ 20) (hA : 0 < s.size) (hn : nameB s = false) (hh : (s[0]'(by omega)).toNat ≠ 45) :
    Calls Tryd.prog 23 #[.string s] w fun e w' => e = .returned (readV s) ∧ Below w.heap.size w w' := by
  have hm : s.size ≤ maxLen := by unfold maxLen; omega
  have hB := (Below.refl w.heap.size w).alloc (Nat.le_refl _) (.cells #[.string ⟨#[]⟩, .int .i64 0] 43)
  have HB := Lib.hid hB
  clear hB
  have ha : atB s = 0 := by
    unfold atB
    have e : s.data.toList[0]? = some (s[0]'(by omega)) := by rw [List.getElem?_eq_getElem (by simp; omega)]; rfl
    rw [e]
    rw [if_neg]; intro h; rw [Option.some.inj h] at hh; exact hh rfl
  have HN := Lib.hid (show readN s = none → readV s = .tuple #[.agg #[.string ⟨#[]⟩, .int .i64 0], .bool false] from fun h => by unfold readV; rw [hn, h]; rfl)
  have HS := Lib.hid (show ∀ n, readN s = some n → readV s = .tuple #[.agg #[.string ⟨#[]⟩, .int .i64 n], .bool true] from fun n h => by unfold readV; rw [hn, h]; rfl)
  have g0 : ((s[0]'(by omega)).toNat == 45) = false := by rw [beq_eq_false_iff_ne]; exact hh
  have p0 : 0 < s.size := by omega
  have q1 : ((s.size : Int) == 0) = false := by rw [beq_eq_false_iff_ne]; omega
  have q2 : ¬ 20 < s.size := by omega
  have HNM := Lib.hid (show ∀ wx, Calls Tryd.prog 22 #[.string s] wx fun e w' => e = .returned (.bool false) ∧ wx = w' from fun wx => hn ▸ refname_any s wx hm)
  have HP := Lib.hid (ha ▸ pre_start s)
  clear hm hn hh
  go_enter Tryd.func23, Tryd.ntmps23
  go_wp2_with (go_at_call 22; refine (HNM.out _).mono ?_; rintro e w' ⟨rfl, rfl⟩)
  go_loopw [5, 6] (fun a i wr => ∃ (n : Int) (k : Nat), a = .int .i64 n ∧ i = .int .i64 k ∧ 0 ≤ k ∧ k ≤ s.size ∧ -9223372036854775808 ≤ n ∧ n ≤ 0 ∧ Hid (Pre s k n) ∧ Below (w.alloc (.cells #[.string ⟨#[]⟩, .int .i64 0] 43)).heap.size (w.alloc (.cells #[.string ⟨#[]⟩, .int .i64 0] 43)) wr) (fun _ i _ => s.size - (intOf i).toNat)
  case atStart => exact ⟨0, 0, rfl, rfl, Nat.le_refl _, by omega, by omega, by omega, HP, Below.refl _ _⟩
  case round =>
    obtain ⟨n, k, rfl, rfl, hk0, hk1, n0, n1, hpre, hb⟩ := hrel
    have HB2 := Lib.hid hb
    clear hb
    obtain ⟨c0, c1, f0, f1, hz⟩ := cellsR25 HB2.out
    by_cases h1 : k < s.size
    · have HST := Lib.hid (pre_step s k n hpre.out h1 (by omega))
      have h256 := s[k].toNat_lt
      by_cases x1 : s[k].toNat < 48
      · have HR := Lib.hid (HN.out (readN_none s fun m a b c => by have := (HST.out m a b c).1; omega))
        have d1 : ((s[k].toNat : Int) - 48) < 0 := by omega
        clear hpre
        go_wp2_with fail
        refine bodyPost_ret (v := .tuple #[.agg #[.string ⟨#[]⟩, .int .i64 0], .bool false]) (by simp [results, Tryd.results23, go_sem, c0, c1]) rfl ⟨by rw [HR.out], ?_⟩
        exact ((HB.out.trans (HB2.out.mono HB.out.size)).setCell (Nat.le_refl _) _).setCell (Nat.le_refl _) _
      · by_cases x2 : 57 < s[k].toNat
        · have HR := Lib.hid (HN.out (readN_none s fun m a b c => by have := (HST.out m a b c).2.1; omega))
          have d1 : ¬ ((s[k].toNat : Int) - 48) < 0 := by omega
          have d2 : (9 : Int) < ((s[k].toNat : Int) - 48) := by omega
          clear hpre
          go_wp2_with fail
          refine bodyPost_ret (v := .tuple #[.agg #[.string ⟨#[]⟩, .int .i64 0], .bool false]) (by simp [results, Tryd.results23, go_sem, c0, c1]) rfl ⟨by rw [HR.out], ?_⟩
          exact ((HB.out.trans (HB2.out.mono HB.out.size)).setCell (Nat.le_refl _) _).setCell (Nat.le_refl _) _
        · have d1 : ¬ ((s[k].toNat : Int) - 48) < 0 := by omega
          have d2 : ¬ (9 : Int) < ((s[k].toNat : Int) - 48) := by omega
          have ht := guard_tdiv ((s[k].toNat : Int) - 48) (by omega) (by omega)
          by_cases d3 : n < ((-9223372036854775808 : Int) + ((s[k].toNat : Int) - 48)).tdiv 10
          · have HR := Lib.hid (HN.out (readN_none s fun m a b c => by have := (HST.out m a b c).2.2.2; omega))
            clear hpre ht
            go_wp2_with fail
            refine bodyPost_ret (v := .tuple #[.agg #[.string ⟨#[]⟩, .int .i64 0], .bool false]) (by simp [results, Tryd.results23, go_sem, c0, c1]) rfl ⟨by rw [HR.out], ?_⟩
            exact ((HB.out.trans (HB2.out.mono HB.out.size)).setCell (Nat.le_refl _) _).setCell (Nat.le_refl _) _
          · have d4 : -9223372036854775808 ≤ n * 10 := by omega
            have d5 : -9223372036854775808 ≤ n * 10 - ((s[k].toNat : Int) - 48) := by omega
            have HPN := Lib.hid (show Pre s (k + 1) (n * 10 - ((s[k].toNat : Int) - 48)) from fun m a b c => (HST.out m a b c).2.2.1)
            clear ht hpre
            go_wp2_with fail
            exact ⟨⟨_, k + 1, rfl, by go_num, by omega, by omega, d5, by omega, HPN, HB2.out⟩, by simp [intOf]; omega⟩
    · obtain rfl : k = s.size := by omega
      have HE := Lib.hid (show ∀ m : Int, -9223372036854775808 ≤ m → m ≤ 9223372036854775807 → itoaS m = s → m = -n from fun m a b c => by
        have h := hpre.out m a b c
        obtain ⟨_, _, _, _, h5⟩ := shape s m a b c
        simp at h
        omega)
      clear hpre
      by_cases hl : n = -9223372036854775808
      · have HR := Lib.hid (HN.out (readN_none s fun m a b c => by have := HE.out m a b c; omega))
        have l1 : (n == -9223372036854775808) = true := by rw [beq_iff_eq]; exact hl
        clear hl
        go_wp2_with fail
        refine bodyPost_ret (v := .tuple #[.agg #[.string ⟨#[]⟩, .int .i64 0], .bool false]) (by simp [results, Tryd.results23, go_sem, c0, c1]) rfl ⟨by rw [HR.out], ?_⟩
        exact ((HB.out.trans (HB2.out.mono HB.out.size)).setCell (Nat.le_refl _) _).setCell (Nat.le_refl _) _
      · have l1 : (n == -9223372036854775808) = false := by rw [beq_eq_false_iff_ne]; exact hl
        have l2 : -n ≤ 9223372036854775807 := by omega
        have HNU := Lib.hid (show ∀ wx, _ from fun wx => number_any (-n) wx (by omega) l2)
        by_cases he : itoaS (-n) = s
        · have HR := Lib.hid (HS.out (-n) (by rw [← he]; exact readN_itoa (-n) (by omega) l2))
          have e1 : ((itoaS (-n)).toList == s.toList) = true := by rw [he]; simp
          clear he hl c0 c1 f0 f1 hz
          go_wp2_with fail
          refine (HNU.out _).mono ?_
          rintro e w2 ⟨rfl, hb2⟩
          have HB3 := Lib.hid (HB2.out.trans (hb2.mono HB2.out.size))
          obtain ⟨c0, c1, f0, f1, hz⟩ := cellsR25 HB3.out
          clear hb2
          go_wp2_with fail
          refine bodyPost_ret (v := .tuple #[.agg #[.string ⟨#[]⟩, .int .i64 (-n)], .bool true]) (by simp [results, Tryd.results23, go_sem, c0, c1]) rfl ⟨by rw [HR.out], ?_⟩
          exact ((HB.out.trans (HB3.out.mono HB.out.size)).setCell (Nat.le_refl _) _).setCell (Nat.le_refl _) _
        · have HR := Lib.hid (HN.out (readN_none s fun m a b c => he ((HE.out m a b c) ▸ c)))
          have e1 : ((itoaS (-n)).toList == s.toList) = false := by
            rw [beq_eq_false_iff_ne]; intro h; rw [ByteArray.toList_eq, ByteArray.toList_eq] at h
            exact he (ByteArray.ext (Array.toList_inj.1 h))
          clear he hl c0 c1 f0 f1 hz
          go_wp2_with fail
          refine (HNU.out _).mono ?_
          rintro e w2 ⟨rfl, hb2⟩
          have HB3 := Lib.hid (HB2.out.trans (hb2.mono HB2.out.size))
          obtain ⟨c0, c1, f0, f1, hz⟩ := cellsR25 HB3.out
          clear hb2
          go_wp2_with fail
          refine bodyPost_ret (v := .tuple #[.agg #[.string ⟨#[]⟩, .int .i64 0], .bool false]) (by simp [results, Tryd.results23, go_sem, c0, c1]) rfl ⟨by rw [HR.out], ?_⟩
          exact ((HB.out.trans (HB3.out.mono HB.out.size)).setCell (Nat.le_refl _) _).setCell (Nat.le_refl _) _
end Go.Proofs.YtpkccmceobonnaaDoor
