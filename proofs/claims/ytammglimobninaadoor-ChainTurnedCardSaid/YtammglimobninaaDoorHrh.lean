/-
  Contracts: the reference's head, Head, Verify.
-/
import Derived.Test.YtammglimobninaaDoorHhb
import Derived.Test.YtammglimobninaaDoorCba
set_option linter.unusedVariables false
set_option linter.unusedSimpArgs false
namespace Go.Proofs.YtammglimobninaaDoor
open Go.RowKit Nm

theorem take_linkS (cut : Nat) (l : List En) (k : Nat) (h : cut ≤ 32) : ((linkS cut l k).take cut).length = cut := by rw [List.length_take, linkS_len]; omega
/-- what is kept in the outer loop -/
structure Ro (X w : World) (n : Nat) (v : Value) (m : List UInt8) : Prop where
  rd : ∃ q c, v = .slice q n c ∧ Rd0 X q m
  bel : Below w.heap.size w X
/-- what is kept in the inner loop: a sum in a block, its first bytes in a row -/
structure Rn (X w : World) (M : Nat) (S : List UInt8) (v : Value) (xs : List UInt8) : Prop where
  row : Bk X M 22 (cells8 S).toArray
  acc : Acc X (M + 1) v xs
  bel : Below w.heap.size w X
  far : w.heap.size ≤ M
theorem Rn.al {X w : World} {M : Nat} {S : List UInt8} {v : Value} {xs : List UInt8} (h : Rn X w M S v xs) (o : Obj) : Rn (X.alloc o) w M S v xs :=
  ⟨h.row.on (below1 _ _), h.acc.on h.row.lt (below1 _ _), h.bel.trans ((below1 _ _).mono h.bel.size), h.far⟩
theorem Rn.app {X X' w : World} {M : Nat} {S : List UInt8} {v v' : Value} {xs xs' : List UInt8} (h : Rn X w M S v xs) (hA : Acc X' (M + 1) v' xs') (hb : Below (M + 1) X X') : Rn X' w M S v' xs' :=
  ⟨h.row.below hb (Nat.lt_succ_self _), hA, h.bel.trans (hb.mono (by have := h.far; omega)), h.far⟩

set_option maxRecDepth 100000 in
set_option maxHeartbeats 4000000 in
theorem rhead_any (cut : Nat) (q : Option Addr) (l : List En) (c : Nat) (w : World) (hL : Ens w q l) (hn : l.length < 1000000000000) (h1 : 1 ≤ cut) (h2 : cut ≤ 32) (hg : l.all goodB = true) :
    Calls Tryd.prog 41 #[.int .i64 cut, .slice q l.length c] w fun r w' => ∃ q' c', r = .returned (.slice q' ((linkS cut l l.length).take cut).length c') ∧ Rd0 w' q' ((linkS cut l l.length).take cut) ∧ Below w.heap.size w w' := by
  have HL := Lib.hid hL
  have HG := Lib.hid hg
  have HN := Lib.hid hn
  have HCT := Lib.hid h2
  have w0 : (0 : Int) ≤ (cut : Int) := by omega
  have hmk := fun wx => run_make8 cut .i64 (cut : Int) rfl (by omega) wx
  clear hL hg h1 h2
  go_enter Tryd.func41, Tryd.ntmps41
  go_wp2_with fail
  have HO := Lib.hid (show Ro (w.alloc (.cells (cells8 (List.replicate cut 0)).toArray 5)) w cut (.slice (some ⟨w.heap.size, 0, none⟩) cut cut) ((linkS cut l 0).take cut) from
    ⟨⟨some ⟨w.heap.size, 0, none⟩, cut, rfl, .inr ⟨w.heap.size, 0, rfl, by simp, fun i v hv => by
      rw [Nat.zero_add]
      have e : (linkS cut l 0).take cut = List.replicate cut 0 := by show List.take cut (List.replicate 32 0) = _; rw [List.take_replicate, Nat.min_eq_left HCT.out]
      rw [e] at hv
      exact (Bk.new w 5 (cells8 (List.replicate cut 0)).toArray).cell i v (by rw [List.toList_toArray]; exact hv)⟩⟩, below1 _ _⟩)
  generalize w.alloc (.cells (cells8 (List.replicate cut 0)).toArray 5) = W0 at *
  go_loopw [5, 6] (fun v i wr => ∃ k : Nat, k ≤ l.length ∧ i = .int .i64 k ∧ Ro wr w cut v ((linkS cut l k).take cut)) (fun _ i _ => l.length - (intOf i).toNat)
  case atStart => exact ⟨0, by omega, rfl, HO.out⟩
  case round =>
    clear HO
    obtain ⟨k, hk, rfl, ⟨q1, c1, rfl, hr1⟩, hb⟩ := hrel
    have HB := Lib.hid hb
    have HR1 := Lib.hid hr1
    clear hb hr1
    have w3 : (0 : Int) ≤ (k : Int) := by omega
    by_cases hlt : k < l.length
    · have w4 : (k : Int) < (l.length : Int) := by omega
      have HLW := Lib.hid (HL.out.on HB.out)
      obtain ⟨b, off, rfl, hbl, hr⟩ := HLW.out.at k hlt
      have HR0 := Lib.hid hr
      have HK := Lib.hid (HL.out.ok l[k] (List.getElem_mem hlt))
      have HGD := Lib.hid (List.all_eq_true.1 HG.out _ (List.getElem_mem hlt))
      have HS := Lib.hid (show linkS cut l (k + 1) = sumS ((linkS cut l k).take cut ++ bytesS k l[k]) by simp [linkS, List.getD_eq_getElem?_getD, hlt])
      have HTL := Lib.hid (take_linkS cut l k HCT.out)
      clear hr
      generalize l[k] = e at *
      obtain ⟨S, hS⟩ : ∃ S, Hid (S = linkS cut l (k + 1)) := ⟨_, Lib.hid rfl⟩
      have HSL := Lib.hid (show S.length = 32 by rw [hS.out]; exact linkS_len _ _ _)
      obtain ⟨L, hL⟩ : ∃ L, Hid (L = (linkS cut l k).take cut) := ⟨_, Lib.hid rfl⟩
      have HS2 := Lib.hid (show Hid (S = sumS (L ++ bytesS k e)) from Lib.hid (by rw [hS.out, HS.out, hL.out]))
      have HLL := Lib.hid (show L.length = cut by rw [hL.out]; exact HTL.out)
      have hR1 := HR1.out
      rw [← hL.out] at hR1
      have HRL := Lib.hid hR1
      clear HR1
      have HLN := Lib.hid HLL.out.symm
      clear HS hR1 HTL
      generalize linkS cut l k = sum at *
      go_upto_region 6 with (first
        | (refine wpList_load_mid rfl 24 _ rfl b (off + k * 35) rfl _ _ HR0.out Tryd.underlying24 rfl (by rw [En.length]; kernel_rfl) ?_)
        | (go_at_call 12; refine (refbytes_good k e HK.out _ (by have := HN.out; omega) HGD.out).mono ?_; rintro r w5 ⟨v5, rfl, hA, hb5⟩; obtain ⟨q5, c5, rfl, _, hR5⟩ := hA.rd; have HB5 := Lib.hid (HB.out.trans (hb5.mono HB.out.size)); have HR5 := Lib.hid hR5; have HR15 := Lib.hid (HRL.out.on hb5); clear hA hb5 hR5))
      obtain ⟨M, hM⟩ : ∃ M, Hid (M = L ++ bytesS k e) := ⟨_, Lib.hid rfl⟩
      have HSM := Lib.hid (show Hid (S = sumS M) from Lib.hid (by rw [HS2.out.out, hM.out]))
      have HP := Lib.hid (good_parts HGD.out)
      have HML := Lib.hid (show (bytesS k e).length ≤ 5000 by have := HK.out.dig; have := HP.out.1; have := HP.out.2.2.2; simp [bytesS, numS_len]; omega)
      have HMM := Lib.hid (show M.length ≤ 6000 by rw [hM.out, List.length_append]; have := HML.out; have := HLL.out; have := HCT.out; omega)
      have HQ := Lib.hid (show (cells8 S).toArray.size = 32 by rw [List.size_toArray, cells8_len, HSL.out])
      clear HR0 HLW HRL HB HS2 HGD HP
      go_upto_region 7 with (first
        | (refine wpList_store_row rfl 22 _ _ rfl _ _ rfl rfl _ _ (Bk.new _ _ _) (by rw [HQ.out]; kernel_rfl) (by rw [HQ.out]; rfl) (cells8_one _) ?_)
        | (go_at_call 57; refine (rsum_any q7 c7 M _ HR7.out (by have := HMM.out; omega) S HSM.out).mono ?_; rintro r w8 ⟨rfl, hb8⟩; have HB8 := Lib.hid (HB7.out.trans (hb8.mono HB7.out.size)); clear hb8)
        | (refine wpList_app8 rfl _ _ rfl rfl w5.heap.size _ L rfl HA6.out q5 (bytesS k e) _ c5 rfl rfl (HR5.out.on HB6.out) (by have := HML.out; have := HLL.out; have := HCT.out; omega) HB6.out.size ?_; intro v7 w7 hA hb; rw [← hM.out] at hA; obtain ⟨q7, c7, rfl, _, hR7⟩ := hA.rd; have HB7 := Lib.hid (HB5.out.trans ((HB6.out.trans hb).mono HB5.out.size)); have HR7 := Lib.hid hR7; clear hA hb hR7)
        | (refine wpList_app8 rfl _ _ rfl rfl w5.heap.size _ [] rfl (acc_made (w := w5) (Nat.le_refl _)) q1 L _ c1 rfl HLN.out (HR15.out.on (below1 _ _)) (by have := HLL.out; have := HCT.out; rw [List.length_nil]; omega) (by simp) ?_; intro v6 w6 hA hb; rw [List.nil_append] at hA; have HA6 := Lib.hid hA; have HB6 := Lib.hid ((below1 w5 (.cells #[] 5)).trans hb); clear hA hb))
      rw [World.setRow_alloc_new]
      have HN0 := Lib.hid (show Rn (w8.alloc (.cells (cells8 S).toArray 22)) w w8.heap.size S (.slice none 0 0) (S.take 0) from ⟨Bk.new w8 _ _, by rw [List.take_zero]; exact acc_nil, HB8.out.trans ((below1 w8 _).mono HB8.out.size), HB8.out.size⟩)
      generalize w8.alloc (.cells (cells8 S).toArray 22) = WX at *
      generalize w8.heap.size = D at *
      (try simp only [Act.put])
      clear HB5 HR5 HR15 HA6 HB6 HB7 HR7 HB8 HMM HML HSM
      obtain ⟨wo, rfl⟩ : ∃ wo : World, wo = wr := ⟨_, rfl⟩
      go_wp2_with fail
      go_loopw [5, 10] (fun v i wr => ∃ j : Nat, j ≤ cut ∧ i = .int .i64 j ∧ Rn wr w D S v (S.take j)) (fun _ i _ => cut - (intOf i).toNat)
      case atStart => exact ⟨0, by omega, rfl, HN0.out⟩
      case round =>
        clear HN0
        obtain ⟨j, hj, rfl, hR⟩ := hrel
        have R := Lib.hid hR
        clear hR
        have w5 : (0 : Int) ≤ (j : Int) := by omega
        by_cases hlt2 : j < cut
        · have w6 : (j : Int) < (cut : Int) := by omega
          have hjS : j < S.length := by rw [HSL.out]; have := HCT.out; omega
          have w7 : (j : Int) < 32 := by have := HCT.out; omega
          have x0 := R.out.row.cell j (B8 S[j]) (by simp [cells8, hjS])
          have HT := Lib.hid (List.take_succ_eq_append_getElem hjS)
          generalize S[j] = y at *
          go_wp2_with (refine wpList_app8 rfl _ _ rfl rfl (D + 1) _ _ rfl (R.out.al _).acc _ [y] 1 1 rfl rfl (rd0_lit wr 5 [y]) (by rw [List.length_take, HSL.out, List.length_singleton]; omega) (R.out.al _).row.lt ?_; intro v9 w9 hA hb; rw [← HT.out] at hA; have R2 := Lib.hid ((R.out.al _).app hA hb); clear hA hb)
          go_roundw
          case rel => exact ⟨j + 1, by omega, by go_num, R2.out⟩
          case measure => simp [intOf]; omega
        · obtain rfl : j = cut := by omega
          have hA := R.out.acc
          obtain ⟨q9, c9, rfl, _, hR9⟩ := hA.rd
          have HR9 := Lib.hid hR9
          have HB9 := Lib.hid R.out.bel
          have HSK := Lib.hid (show (S.take j).length = j by rw [List.length_take, HSL.out]; have := HCT.out; omega)
          clear hA hR9 R
          go_wp2_with fail
          go_roundw
          case rel => exact ⟨k + 1, by omega, by go_num, ⟨q9, c9, by rw [HSK.out], by rw [← hS.out]; exact HR9.out⟩, HB9.out⟩
          case measure => simp [intOf]; omega
    · obtain rfl : k = l.length := by omega
      have HTL := Lib.hid (take_linkS cut l l.length HCT.out)
      go_wp2_with fail
      go_ret
      exact ⟨q1, c1, by simp [linkS_len, Nat.min_eq_left HCT.out], HR1.out, HB.out⟩
end Go.Proofs.YtammglimobninaaDoor
