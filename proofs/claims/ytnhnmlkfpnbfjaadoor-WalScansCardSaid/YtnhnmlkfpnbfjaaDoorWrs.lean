/-
  Contract: the reference's Scan.
-/
import Derived.Test.YtnhnmlkfpnbfjaaDoorWone
set_option linter.unusedVariables false
set_option linter.unusedSimpArgs false
namespace Go.Proofs.YtnhnmlkfpnbfjaaDoor
open Go.RowKit

set_option maxRecDepth 100000 in
set_option maxHeartbeats 4000000 in
theorem refscan_any (q : Option Addr) (n c : Nat) (b : List UInt8) (hn : n = b.length) (w : World) (hR : Rd0 w q b) (hc : b.length ≤ c) (hz : b.length ≤ 1000000) :
    Calls Tryd.prog 13 #[.slice q n c] w fun r w' => (∃ v l, r = .returned (.tuple #[.int .i64 ((scanG b 0 [] 0).1 : Int), v, .int .i64 ((scanG b 0 [] 0).2.2 : Int)]) ∧ Pl w' w.heap.size v l ∧ l.map (·.m) = (scanG b 0 [] 0).2.1) ∧ Below w.heap.size w w' := by
  have HN := Lib.hid hn
  have HC := Lib.hid hc
  have HZ := Lib.hid hz
  have HR := Lib.hid hR
  clear hR hc hz hn
  go_enter Tryd.func13, Tryd.ntmps13
  go_wp2_with fail
  go_loopw [5, 6, 7] (fun f ee v wr => ∃ (first e : Nat) (l : List SlA), f = .int .i64 (first : Int) ∧ ee = .int .i64 (e : Int) ∧ scanG b first (l.map (·.m)) e = scanG b 0 [] 0 ∧ e ≤ b.length ∧ l.length ≤ e ∧ Pl wr w.heap.size v l ∧ first ≤ 1099511627776 ∧ Below w.heap.size w wr ∧ (l = [] → first = 0 ∧ e = 0)) (fun _ e _ _ => b.length - (intOf e).toNat)
  case atStart => exact ⟨0, 0, [], rfl, rfl, rfl, by omega, by simp, pl_nil _ _, by omega, Below.refl _ _, fun _ => ⟨rfl, rfl⟩⟩
  case round =>
    obtain ⟨first, e, l, rfl, rfl, hsg, he, hle, hP, hf, hb, hnil⟩ := hrel
    have HSG := Lib.hid hsg
    have HE2 := Lib.hid he
    have HF := Lib.hid hf
    have HB := Lib.hid hb
    have HNI := Lib.hid hnil
    obtain ⟨p, d, rfl, hd⟩ := hP.form
    obtain ⟨K, hK⟩ : ∃ K, l.length = K := ⟨_, rfl⟩
    rw [hK] at hP hle hd ⊢
    have HK := Lib.hid hK
    have HLE := Lib.hid hle
    have HP := Lib.hid hP
    have hsl := fun wx => run_slice_fromQ (P := Tryd.prog) 22 5 Tryd.underlying22 (by kernel_rfl) q n c .i64 (e : Int) e rfl (by have := HN.out; omega) wx
    have HC1 := Lib.hid (one_any (fromQ q c e) (n - e) (c - e) (b.drop e) (by rw [List.length_drop, HN.out]) wr ((HR.out.on HB.out).drop e c HC.out) (by rw [List.length_drop]; have := HC.out; omega) (by rw [List.length_drop]; have := HZ.out; omega))
    clear hsg he hle hP hf hb hK hnil
    cases hw : wholeS (b.drop e) with
    | none =>
      have HW := Lib.hid (scanG_none (first := first) (out := l.map (·.m)) hw)
      rw [hw] at HC1
      clear hw
      go_wp2_with (go_at_call 31; refine HC1.out.mono ?_; rintro r w1 ⟨hr1, hb1⟩; have hr1 := OneR.no_inv hr1; subst hr1; have HP1 := Lib.hid (HP.out.on hb1); have HB1 := Lib.hid (HB.out.trans (hb1.mono HB.out.size)); clear hb1)
      (try simp only [Exit.inBlock, Exit.then])
      refine bodyPost_ret (results_tmp3 rfl _ _ _) rfl ⟨⟨_, l, ?_, HP1.out, ?_⟩, HB1.out⟩
      · rw [← HSG.out, HW.out]; rfl
      · rw [← HSG.out, HW.out]
    | some m =>
      have hml := wholeS_len hw
      rw [List.length_drop] at hml
      have HML := Lib.hid hml
      have HW := Lib.hid hw
      rw [hw] at HC1
      clear hw hml
      have HONE := Lib.hid (fun r w1 (h : OneR (some m) r wr w1) => OneR.yes_inv h)
      obtain ⟨mm, hmm⟩ : ∃ mm, m.drop 8 = mm := ⟨_, rfl⟩
      obtain ⟨J9, hJ9⟩ : ∃ J9 : Int, J9 = ((m.length + 9 : Nat) : Int) := ⟨_, rfl⟩
      rw [hmm, ← hJ9] at HONE
      have HMM := Lib.hid hmm
      have s9 : IntKind.i64.wrap ((e : Int) + J9) = ((e + (m.length + 9) : Nat) : Int) := by rw [hJ9, IntWalk.i64_in _ (by have := HML.out; have := HZ.out; omega)]; omega
      have j0 : ¬ J9 = 0 := by omega
      have j1 : (J9 == 0) = false := by rw [beq_eq_false_iff_ne]; exact j0
      have HST0 := Lib.hid (fun h => scanG_step (first := first) (out := l.map (·.m)) HW.out h)
      have HBAD := Lib.hid (fun h => scanG_bad (first := first) (out := l.map (·.m)) HW.out h)
      rw [List.length_map, HK.out, HMM.out] at HST0
      rw [List.length_map, HK.out] at HBAD
      have HPF := Lib.hid (fun X (h : Pl X w.heap.size (.slice p K d) l) => show ∀ g, (Value.slice p K d).ownBlock = some g → g < X.heap.size from fun g hg => (h.own.lt g hg).2)
      clear hJ9 hmm
      generalize beS (m.take 8) = NB at *
      go_upto_region 4 with (go_at_call 31; refine HC1.out.mono ?_; rintro r w1 ⟨hr1, hb1⟩; obtain ⟨v1, base, hbs, hr1, hA1⟩ := HONE.out _ _ hr1; subst hr1; have HP1 := Lib.hid (HP.out.on hb1); have HB1 := Lib.hid (HB.out.trans (hb1.mono HB.out.size)); have HFAR := Lib.hid (HPF.out _ HP.out); have HBS := Lib.hid hbs; have HA1 := Lib.hid hA1; clear hb1 hA1 hbs)
      obtain ⟨p3, d3, rfl, hd3, hr3⟩ := HA1.out.rd
      have HR3 := Lib.hid hr3
      have HD3 := Lib.hid hd3
      have HFA := Lib.hid (show ∀ g, (Value.slice p K d).ownBlock = some g → mm = [] ∨ ∀ b, p3 = some b → b.block ≠ g from fun g hg => HA1.out.far (Nat.lt_of_lt_of_le (HFAR.out g hg) HBS.out))
      clear hr3 hd3 HC1 HONE HPF HP HFAR HA1
      by_cases h0 : K = 0
      · subst h0
        have HNL := Lib.hid (HNI.out (List.length_eq_zero_iff.1 HK.out))
        have hok : okN NB first 0 = (decide (1 ≤ NB) && decide (NB ≤ 1099511627776)) := rfl
        by_cases hbad : NB < 1 ∨ 1099511627776 < NB
        · have HB2 := Lib.hid (HBAD.out (by rw [hok, Bool.and_eq_false_iff, decide_eq_false_iff_not, decide_eq_false_iff_not]; omega))
          have HRS := Lib.hid (show scanG b 0 [] 0 = (0, [], 0) by
            rw [← HSG.out, HB2.out, HNL.out.1, HNL.out.2, List.length_eq_zero_iff.1 HK.out]; rfl)
          rcases hbad with h | h
          · have w2 : (NB : Int) < 1 := by omega
            clear hok
            go_wp2_with fail
            all_goals (first | (exfalso; omega) | skip)
            (try simp only [Exit.inBlock, Exit.then])
            refine bodyPost_ret (results_tmp3 rfl _ _ _) rfl ⟨⟨Value.slice none 0 0, ?_, ([] : List SlA), pl_nil _ _, ?_⟩, HB1.out⟩
            · rw [HRS.out]; rfl
            · rw [HRS.out]; rfl
          · have w2 : ¬ (NB : Int) < 1 := by omega
            have w3 : (1 : Int) ≤ (NB : Int) := by omega
            have w4 : (1099511627776 : Int) < (NB : Int) := by omega
            clear hok
            go_wp2_with fail
            all_goals (first | (exfalso; omega) | skip)
            (try simp only [Exit.inBlock, Exit.then])
            refine bodyPost_ret (results_tmp3 rfl _ _ _) rfl ⟨⟨Value.slice none 0 0, ?_, ([] : List SlA), pl_nil _ _, ?_⟩, HB1.out⟩
            · rw [HRS.out]; rfl
            · rw [HRS.out]; rfl
        · have HST := Lib.hid (HST0.out (by rw [hok, decide_eq_true (by omega), decide_eq_true (show NB ≤ 1099511627776 by omega)]; rfl))
          rw [if_pos rfl] at HST
          have HJF := Lib.hid (show NB ≤ 1099511627776 by omega)
          have w3 : (1 : Int) ≤ (NB : Int) := by omega
          have w4 : (NB : Int) ≤ 1099511627776 := by omega
          have w5 : ¬ (1099511627776 : Int) < (NB : Int) := by omega
          have s8 : IntKind.i64.wrap (NB : Int) = (NB : Int) := IntWalk.i64_in _ (by omega)
          clear hok hbad
          go_upto_region 12 with fail
          all_goals (first | (exfalso; omega) | skip)
          go_wp2_with (refine wpList_pl rfl _ _ rfl w.heap.size _ l rfl (HP1.out.on (below1 _ _)) ⟨p3, d3, mm⟩ w1.heap.size 1 1 rfl rfl ((Bk.new w1 22 #[.slice p3 mm.length d3]).cell 0 _ rfl) (HR3.out.on (below1 _ _)) HD3.out HFA.out (by rw [HK.out]; have := HLE.out; have := HE2.out; have := HZ.out; omega) (by have := HB1.out.size; simp; omega) ?_; intro v4 w4 hP4 hb4; have HP4 := Lib.hid hP4; have HB4 := Lib.hid (HB1.out.trans (((below1 w1 _).mono HB1.out.size).trans hb4)); clear hP4 hb4)
          go_roundw
          case rel =>
            refine ⟨NB, e + (m.length + 9), l ++ [⟨p3, d3, mm⟩], rfl, by go_num, ?_, by have := HML.out; omega, by rw [List.length_append, HK.out]; simp; have := HLE.out; omega, HP4.out, HJF.out, HB4.out, fun h => by simp at h⟩
            rw [List.map_append, ← HSG.out, HST.out]; rfl
          case measure => simp [intOf]; have := HML.out; omega
      · have w9 : ¬ (K : Int) = 0 := by omega
        have w8 : ((K : Int) == 0) = false := by rw [beq_eq_false_iff_ne]; exact w9
        have HKB := Lib.hid (show K ≤ 1000000 by have := HLE.out; have := HE2.out; have := HZ.out; omega)
        have s1 : IntKind.u64.wrap (first : Int) = (first : Int) := IntWalk.u64_in _ (by have := HF.out; omega)
        have s2 : IntKind.u64.wrap (K : Int) = (K : Int) := IntWalk.u64_in _ (by have := HKB.out; omega)
        have s3 : IntKind.u64.wrap ((first : Int) + (K : Int)) = (first : Int) + (K : Int) := IntWalk.u64_in _ (by have := HKB.out; have := HF.out; omega)
        have hok : okN NB first K = (NB == first + K) := by unfold okN; rw [if_neg h0]
        by_cases heq : NB = first + K
        · have HST := Lib.hid (HST0.out (by rw [hok, heq]; simp))
          rw [if_neg h0] at HST
          have HJF := HF
          have e1 : (NB : Int) = (first : Int) + (K : Int) := by omega
          have e2 : ((NB : Int) == (first : Int) + (K : Int)) = true := by rw [beq_iff_eq]; exact e1
          have e3 : ((NB : Int) != (first : Int) + (K : Int)) = false := by rw [bne_eq_false_iff_eq]; exact e1
          clear hok heq e1
          go_upto_region 12 with fail
          all_goals (first | (exfalso; omega) | skip)
          go_wp2_with (refine wpList_pl rfl _ _ rfl w.heap.size _ l rfl (HP1.out.on (below1 _ _)) ⟨p3, d3, mm⟩ w1.heap.size 1 1 rfl rfl ((Bk.new w1 22 #[.slice p3 mm.length d3]).cell 0 _ rfl) (HR3.out.on (below1 _ _)) HD3.out HFA.out (by rw [HK.out]; have := HLE.out; have := HE2.out; have := HZ.out; omega) (by have := HB1.out.size; simp; omega) ?_; intro v4 w4 hP4 hb4; have HP4 := Lib.hid hP4; have HB4 := Lib.hid (HB1.out.trans (((below1 w1 _).mono HB1.out.size).trans hb4)); clear hP4 hb4)
          go_roundw
          case rel =>
            refine ⟨first, e + (m.length + 9), l ++ [⟨p3, d3, mm⟩], rfl, by go_num, ?_, by have := HML.out; omega, by rw [List.length_append, HK.out]; simp; have := HLE.out; omega, HP4.out, HJF.out, HB4.out, fun h => by simp at h⟩
            rw [List.map_append, ← HSG.out, HST.out]; rfl
          case measure => simp [intOf]; have := HML.out; omega
        · have HB2 := Lib.hid (HBAD.out (by rw [hok, beq_eq_false_iff_ne]; exact heq))
          have e1 : ¬ (NB : Int) = (first : Int) + (K : Int) := by omega
          have e2 : ((NB : Int) == (first : Int) + (K : Int)) = false := by rw [beq_eq_false_iff_ne]; exact e1
          have e3 : ((NB : Int) != (first : Int) + (K : Int)) = true := by rw [bne_iff_ne]; exact e1
          clear hok heq
          go_wp2_with fail
          (try simp only [Exit.inBlock, Exit.then])
          refine bodyPost_ret (results_tmp3 rfl _ _ _) rfl ⟨⟨_, l, ?_, HP1.out, ?_⟩, HB1.out⟩
          · rw [← HSG.out, HB2.out]; rfl
          · rw [← HSG.out, HB2.out]
end Go.Proofs.YtnhnmlkfpnbfjaaDoor
