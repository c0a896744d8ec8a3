/-
  Contracts: the reference's Compare and Order.
-/
import Derived.Test.YtmfaallipfhajaaRefB
import Derived.RegionTactic
import Derived.Deep.RegionWith
namespace Go.Proofs.Ytmfaallipfhajaa
open Go.RowKit

theorem sz_zero (s : ByteArray) (h : s.toList.isEmpty = true) : s.size = 0 := by
  have := sz_eq s; rw [h] at this; simpa using this

set_option maxHeartbeats 2000000 in
set_option maxRecDepth 100000 in
theorem refcompare_any (s t : ByteArray) (n m : Int) (w : World) (hs : s.size ≤ maxLen) (ht : t.size ≤ maxLen) :
    Calls Try.prog 27 #[.agg #[.string s, .int .i64 n], .agg #[.string t, .int .i64 m]] w fun e w' => e = .returned (.int .i64 (cmpW s n t m)) ∧ Below w.heap.size w w' := by
  have HB := Lib.hid (show ∀ o1 o2, Below w.heap.size w ((w.alloc o1).alloc o2) from fun o1 o2 => below2 w o1 o2)
  have hs0 := hs
  have ht0 := ht
  unfold maxLen at hs0 ht0
  cases es : s.toList.isEmpty with
  | true =>
    cases et : t.toList.isEmpty with
    | false =>
      have HC := Lib.hid (show cmpW s n t m = -1 by rw [cmpW_def, cmpS_empty s t es et]; rfl)
      have g1 : ((s.size : Int) == 0) = true := by rw [sz_eq, es]
      have g2 : 0 < t.size := pos_of_ne t et
      clear es et
      go_enter Try.func27, Try.ntmps27
      go_wp2_with fail
      go_ret
      exact ⟨by rw [HC.out]; rfl, HB.out _ _⟩
    | true =>
      have g1 : ((s.size : Int) == 0) = true := by rw [sz_eq, es]
      have g2 : ¬ 0 < t.size := by rw [sz_zero t et]; omega
      have g3 : ¬ 0 < s.size := by rw [sz_zero s es]; omega
      have e0 : cmpS s t = 0 := by
        rw [ByteArray.toList_eq] at es et
        unfold cmpS; rw [List.isEmpty_iff.1 es, List.isEmpty_iff.1 et]; rfl
      have HC := Lib.hid (show cmpW s n t m = cmpI n m by rw [cmpW_def, e0]; rfl)
      have g4 : (cmpS s t != 0) = false := by rw [e0]; rfl
      clear es et e0
      rcases Int.lt_trichotomy n m with h | h | h
      · have HI := Lib.hid (cmpI_lt _ _ h)
        go_enter Try.func27, Try.ntmps27
        go_wp2_with (go_at_call 35; refine (refbytes_any _ _ _ hs ht).mono ?_; rintro e w1 ⟨rfl, hb⟩; obtain ⟨hc, _⟩ := bcell hb)
        go_ret
        exact ⟨by rw [HC.out, HI.out]; rfl, (HB.out _ _).trans (hb.mono (HB.out _ _).size)⟩
      · have HI := Lib.hid ((cmpI_zero _ _).2 h)
        have h1 : ¬ n < m := by omega
        have h2 : ¬ m < n := by omega
        clear h
        go_enter Try.func27, Try.ntmps27
        go_wp2_with (go_at_call 35; refine (refbytes_any _ _ _ hs ht).mono ?_; rintro e w1 ⟨rfl, hb⟩; obtain ⟨hc, _⟩ := bcell hb)
        go_ret
        exact ⟨by rw [HC.out, HI.out]; rfl, (HB.out _ _).trans (hb.mono (HB.out _ _).size)⟩
      · have HI := Lib.hid (cmpI_gt _ _ h)
        go_enter Try.func27, Try.ntmps27
        go_wp2_with (go_at_call 35; refine (refbytes_any _ _ _ hs ht).mono ?_; rintro e w1 ⟨rfl, hb⟩; obtain ⟨hc, _⟩ := bcell hb)
        go_ret
        exact ⟨by rw [HC.out, HI.out]; rfl, (HB.out _ _).trans (hb.mono (HB.out _ _).size)⟩
  | false =>
    have g1 : ((s.size : Int) == 0) = false := by rw [sz_eq, es]
    have g3 : 0 < s.size := pos_of_ne s es
    cases et : t.toList.isEmpty with
    | true =>
      have HC := Lib.hid (show cmpW s n t m = 1 by rw [cmpW_def, cmpS_empty' s t es et]; rfl)
      have g2 : ((t.size : Int) == 0) = true := by rw [sz_eq, et]
      clear es et
      go_enter Try.func27, Try.ntmps27
      go_wp2_with fail
      go_ret
      exact ⟨by rw [HC.out]; rfl, HB.out _ _⟩
    | false =>
      have g2 : ((t.size : Int) == 0) = false := by rw [sz_eq, et]
      clear es et
      by_cases e0 : cmpS s t = 0
      · have HC := Lib.hid (show cmpW s n t m = cmpI n m by rw [cmpW_def, e0]; rfl)
        have g4 : (cmpS s t != 0) = false := by rw [e0]; rfl
        clear e0
        rcases Int.lt_trichotomy n m with h | h | h
        · have HI := Lib.hid (cmpI_lt _ _ h)
          go_enter Try.func27, Try.ntmps27
          go_wp2_with (go_at_call 35; refine (refbytes_any _ _ _ hs ht).mono ?_; rintro e w1 ⟨rfl, hb⟩; obtain ⟨hc, _⟩ := bcell hb)
          go_ret
          exact ⟨by rw [HC.out, HI.out]; rfl, (HB.out _ _).trans (hb.mono (HB.out _ _).size)⟩
        · have HI := Lib.hid ((cmpI_zero _ _).2 h)
          have h1 : ¬ n < m := by omega
          have h2 : ¬ m < n := by omega
          clear h
          go_enter Try.func27, Try.ntmps27
          go_wp2_with (go_at_call 35; refine (refbytes_any _ _ _ hs ht).mono ?_; rintro e w1 ⟨rfl, hb⟩; obtain ⟨hc, _⟩ := bcell hb)
          go_ret
          exact ⟨by rw [HC.out, HI.out]; rfl, (HB.out _ _).trans (hb.mono (HB.out _ _).size)⟩
        · have HI := Lib.hid (cmpI_gt _ _ h)
          go_enter Try.func27, Try.ntmps27
          go_wp2_with (go_at_call 35; refine (refbytes_any _ _ _ hs ht).mono ?_; rintro e w1 ⟨rfl, hb⟩; obtain ⟨hc, _⟩ := bcell hb)
          go_ret
          exact ⟨by rw [HC.out, HI.out]; rfl, (HB.out _ _).trans (hb.mono (HB.out _ _).size)⟩
      · have HC := Lib.hid (show cmpW s n t m = cmpS s t by rw [cmpW_def, lexI, if_neg e0])
        have g4 : (cmpS s t != 0) = true := by simpa using e0
        clear e0
        go_enter Try.func27, Try.ntmps27
        go_wp2_with (go_at_call 35; refine (refbytes_any _ _ _ hs ht).mono ?_; rintro e w1 ⟨rfl, hb⟩; obtain ⟨hc, _⟩ := bcell hb)
        go_ret
        exact ⟨by rw [HC.out]; rfl, (HB.out _ _).trans (hb.mono (HB.out _ _).size)⟩

set_option maxHeartbeats 4000000 in
set_option maxRecDepth 100000 in
theorem reforder_loop (p q : ByteArray) (x y : Option Addr) (c d : Nat) (l m : List Vl) (w : World) (hp : p.size ≤ maxLen) (hq : q.size ≤ maxLen) (h1 : Vals w w.heap.size x l) (h2 : Vals w w.heap.size y m) (z1 : SzOk l) (z2 : SzOk m) (hl : l.length = m.length) (hm : l.length ≤ maxLen) (e0 : cmpS p q = 0) :
    Calls Try.prog 28 #[.agg #[.string p, .slice x l.length c], .agg #[.string q, .slice y m.length d]] w fun e w' => e = .returned (.int .i64 (cmpVs l m)) ∧ Below w.heap.size w w' := by
  have hm0 := hm
  unfold maxLen at hm0
  have HL := Lib.hid hl
  have hl1 : l.length ≤ m.length := by omega
  have hl2 : m.length ≤ l.length := by omega
  have hl3 : ¬ l.length < m.length := by omega
  have hl4 : ¬ m.length < l.length := by omega
  have hb2 := below2 w (.cells #[.string p, .slice x l.length c] 27) (.cells #[.string q, .slice y m.length d] 27)
  have HB := Lib.hid hb2
  have H1 := Lib.hid (vals_grow h1 hb2)
  have H2 := Lib.hid (vals_grow h2 hb2)
  have Z1 := Lib.hid z1
  have Z2 := Lib.hid z2
  have g0 : (cmpS p q != 0) = false := by rw [e0]; rfl
  have k1 : ((w.alloc (.cells #[.string p, .slice x l.length c] 27)).alloc (.cells #[.string q, .slice y m.length d] 27)).cell? ⟨w.heap.size, 1, none⟩ = some (.slice x l.length c) := by simp [go_sem]
  have k2 : ((w.alloc (.cells #[.string p, .slice x l.length c] 27)).alloc (.cells #[.string q, .slice y m.length d] 27)).cell? ⟨w.heap.size + 1, 1, none⟩ = some (.slice y m.length d) := by simp [go_sem]
  have hz0 : w.heap.size < ((w.alloc (.cells #[.string p, .slice x l.length c] 27)).alloc (.cells #[.string q, .slice y m.length d] 27)).heap.size := by simp; omega
  have hz1 : w.heap.size + 1 < ((w.alloc (.cells #[.string p, .slice x l.length c] 27)).alloc (.cells #[.string q, .slice y m.length d] 27)).heap.size := by simp
  clear hl h1 h2 z1 z2 e0 hb2
  go_enter Try.func28, Try.ntmps28
  go_wp2_with fail
  refine (refbytes_any _ _ _ hp hq).mono ?_
  rintro e w1 ⟨rfl, hb⟩
  have q1 : w1.cell? ⟨w.heap.size, 1, none⟩ = some (.slice x l.length c) := by rw [hb.cell (p := ⟨w.heap.size, 1, none⟩) hz0]; exact k1
  have q2 : w1.cell? ⟨w.heap.size + 1, 1, none⟩ = some (.slice y m.length d) := by rw [hb.cell (p := ⟨w.heap.size + 1, 1, none⟩) hz1]; exact k2
  have HB1 := Lib.hid (show Below w.heap.size w w1 from HB.out.trans (hb.mono HB.out.size))
  have V1 := Lib.hid (vals_grow H1.out hb)
  have V2 := Lib.hid (vals_grow H2.out hb)
  have hw0 := Nat.lt_of_lt_of_le hz0 hb.size
  have hw1 := Nat.lt_of_lt_of_le hz1 hb.size
  clear k1 k2 hz0 hz1 hb H1 H2 HB
  generalize hmm : w.heap.size = h at *
  go_wp2_with fail
  go_loopw [6] (fun i wr => ∃ k : Nat, k ≤ l.length ∧ i = .int .i64 k ∧ cmpVs l m = cmpVs (l.drop k) (m.drop k) ∧ Below w1.heap.size w1 wr) (fun i _ => l.length - (intOf i).toNat)
  case atStart => exact ⟨0, Nat.zero_le _, rfl, rfl, Below.refl _ _⟩
  case round =>
    obtain ⟨k, hk, rfl, he, hbw⟩ := hrel
    have HE := Lib.hid he
    have HBW := Lib.hid hbw
    have hsz := hbw.size
    have r1 : wr.cell? ⟨h, 1, none⟩ = some (.slice x l.length c) := by rw [hbw.cell (p := ⟨h, 1, none⟩) hw0]; exact q1
    have r2 : wr.cell? ⟨h + 1, 1, none⟩ = some (.slice y m.length d) := by rw [hbw.cell (p := ⟨h + 1, 1, none⟩) hw1]; exact q2
    clear he hbw
    by_cases hlt : k < l.length
    · have hlt2 : k < m.length := by omega
      obtain ⟨b1, o1, rfl, hb1, hc1⟩ : ∃ b off, x = some ⟨b, off, none⟩ ∧ b < w1.heap.size ∧ ∀ i (h : i < l.length), w1.cell? ⟨b, off + i * 2, none⟩ = some (.string l[i].1) ∧ w1.cell? ⟨b, off + i * 2 + 1, none⟩ = some (.int .i64 l[i].2) := by
        rcases V1.out with h | h
        · subst h; simp at hlt
        · exact h
      obtain ⟨b2, o2, rfl, hb2, hc2⟩ : ∃ b off, y = some ⟨b, off, none⟩ ∧ b < w1.heap.size ∧ ∀ i (h : i < m.length), w1.cell? ⟨b, off + i * 2, none⟩ = some (.string m[i].1) ∧ w1.cell? ⟨b, off + i * 2 + 1, none⟩ = some (.int .i64 m[i].2) := by
        rcases V2.out with h | h
        · subst h; simp at hlt2
        · exact h
      have x1 : wr.cell? ⟨b1, o1 + k * 2, none⟩ = some (.string l[k].1) := by rw [HBW.out.cell (p := ⟨b1, o1 + k * 2, none⟩) hb1]; exact (hc1 k hlt).1
      have x2 : wr.cell? ⟨b1, o1 + k * 2 + 1, none⟩ = some (.int .i64 l[k].2) := by rw [HBW.out.cell (p := ⟨b1, o1 + k * 2 + 1, none⟩) hb1]; exact (hc1 k hlt).2
      have y1 : wr.cell? ⟨b2, o2 + k * 2, none⟩ = some (.string m[k].1) := by rw [HBW.out.cell (p := ⟨b2, o2 + k * 2, none⟩) hb2]; exact (hc2 k hlt2).1
      have y2 : wr.cell? ⟨b2, o2 + k * 2 + 1, none⟩ = some (.int .i64 m[k].2) := by rw [HBW.out.cell (p := ⟨b2, o2 + k * 2 + 1, none⟩) hb2]; exact (hc2 k hlt2).2
      have s1 := Z1.out k hlt
      have s2 := Z2.out k hlt2
      have hkn : (0 : Int) ≤ (k : Int) := by omega
      have hki : (k : Int) < (l.length : Int) := by omega
      have hkj : (k : Int) < (m.length : Int) := by omega
      clear hc1 hc2
      by_cases hc : cmpW l[k].1 l[k].2 m[k].1 m[k].2 = 0
      · have hcb : (cmpW l[k].1 l[k].2 m[k].1 m[k].2 != 0) = false := by simp [hc]
        have HC := Lib.hid (show cmpVs l m = cmpVs (l.drop (k + 1)) (m.drop (k + 1)) by rw [HE.out, cmpVs_drop l m k hlt hlt2]; simp [lexI, hc])
        clear hc
        go_wp2_with fail
        go_region_with (go_at_call 27; refine (refcompare_any _ _ _ _ _ s1 s2).mono ?_; rintro e w2 ⟨rfl, hb3⟩)
        all_goals
          go_wp2_with fail
          refine ⟨⟨k + 1, by omega, by go_num, HC.out, (HBW.out.drew).trans (hb3.mono hsz)⟩, by simp [intOf]; omega⟩
      · have hcb : (cmpW l[k].1 l[k].2 m[k].1 m[k].2 != 0) = true := by simp [hc]
        have HC := Lib.hid (show cmpVs l m = cmpW l[k].1 l[k].2 m[k].1 m[k].2 by rw [HE.out, cmpVs_drop l m k hlt hlt2]; simp [lexI, hc])
        clear hc
        go_wp2_with fail
        go_region_with (go_at_call 27; refine (refcompare_any _ _ _ _ _ s1 s2).mono ?_; rintro e w2 ⟨rfl, hb3⟩)
        all_goals
          go_wp2_with fail
          go_ret
          exact ⟨by rw [HC.out]; rfl, by rw [hmm]; exact HB1.out.trans (((HBW.out.drew).trans (hb3.mono hsz)).mono (by omega))⟩
    · go_wp2_with fail
      go_ret
      obtain rfl : k = l.length := by omega
      exact ⟨by rw [HE.out, cmpVs_end l m _ rfl]; rfl, by rw [hmm]; exact HB1.out.trans (HBW.out.mono (by omega))⟩
end Go.Proofs.Ytmfaallipfhajaa
