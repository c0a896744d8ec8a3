/-
  Contract: the reference's Bytes.
-/
import Derived.Test.YtammglimobninaaDoorHcv
set_option linter.unusedVariables false
set_option linter.unusedSimpArgs false
namespace Go.Proofs.YtammglimobninaaDoor
open Go.RowKit Nm

theorem numS_one (n : Nat) : numS n 1 = [UInt8.ofNat n] := by simp [numS]
theorem Eb.dig {X w : World} {e : En} (h : Eb X w e) (k : Nat) (hk : k < e.dig.length) : X.cell? ⟨w.heap.size, 3 + k, none⟩ = some (B8 e.dig[k]) := h.bk.cell (3 + k) _ (by
  rw [List.toList_toArray, Nat.add_comm]
  show (cells8 e.dig)[k]? = _
  simp [cells8, List.getElem?_eq_getElem hk])

theorem Acc.low {X : World} {b b' : Nat} {v : Value} {xs : List UInt8} (h : Acc X b v xs) (hb : b' ≤ b) : Acc X b' v xs := by
  have hl : ∀ {v : Value} {n : Nat} {ys : List Value}, X.ownsRow b 5 1 v n ys → X.ownsRow b' 5 1 v n ys := fun h => by
    refine ⟨h.1, ?_⟩
    rcases h.2 with h2 | ⟨g', cap, cur, a1, a2, a3⟩
    · exact .inl h2
    · exact .inr ⟨g', cap, cur, a1, by omega, a3⟩
  refine ⟨h.1, ?_⟩
  rcases h.2 with ⟨h1, h2⟩ | h2
  · refine .inl ⟨h1, ?_⟩
    rcases h2 with ⟨q, e1, e2, e3, e4⟩ | h2
    · exact .inl ⟨q, e1, e2, e3, fun a ha j u hu => by simp at hu⟩
    · exact .inr (hl h2)
  · exact .inr (hl h2)
/-- what is kept while bytes are appended -/
structure Rb (X w : World) (e : En) (b : Nat) (v : Value) (xs : List UInt8) : Prop where
  acc : Acc X b v xs
  eb : Eb X w e
  le : b ≤ X.heap.size
theorem Rb.on {X X' w : World} {e : En} {b : Nat} {v : Value} {xs : List UInt8} (h : Rb X w e b v xs) (hb : Below X.heap.size X X') : Rb X' w e b v xs := ⟨h.acc.on h.le hb, h.eb.on (hb.mono h.eb.size), Nat.le_trans h.le hb.size⟩
theorem Rb.app {X X' w : World} {e : En} {b : Nat} {v v' : Value} {xs xs' : List UInt8} (h : Rb X w e b v xs) (h1 : w.heap.size + 1 ≤ b) (hA : Acc X' b v' xs') (hb : Below b X X') : Rb X' w e b v' xs' := ⟨hA, h.eb.on (hb.mono h1), Nat.le_trans h.le hb.size⟩

set_option maxRecDepth 100000 in
set_option maxHeartbeats 2000000 in
theorem refbytes_good (i : Nat) (e : En) (hk : e.Ok) (w : World) (hi : i < 9223372036854775808) (hg : goodB e = true) :
    Calls Tryd.prog 12 #[.int .i64 i, .agg e.cells.toArray] w fun r w' => ∃ v', r = .returned (.tuple #[v', .int .i64 0]) ∧ Acc w' (w.heap.size + 1) v' (bytesS i e) ∧ Below w.heap.size w w' := by
  have hp := good_parts hg
  obtain ⟨tk, htk⟩ : ∃ n : Nat, e.tick = (n : Int) := ⟨e.tick.toNat, by omega⟩
  have s0 : IntKind.u64.wrap (i : Int) = (i : Int) := IntWalk.u64_in _ (by omega)
  have s2 : IntKind.u64.wrap (tk : Int) = (tk : Int) := IntWalk.u64_in _ (by omega)
  have s3 : IntKind.u64.wrap (e.text.size : Int) = (e.text.size : Int) := IntWalk.u64_in _ (by omega)
  have HV := Lib.hid (show (e.user.size : Int) % 256 = ((UInt8.ofNat e.user.size).toNat : Int) by rw [UInt8.toNat_ofNat']; simp)
  have HP := Lib.hid hp
  have HS := Lib.hid (En.size hk)
  have HK := Lib.hid hk
  have HG := Lib.hid hg
  have HTK := Lib.hid htk
  have HE := Lib.hid (Eb.start w e)
  have HSZ := Lib.hid (show (w.alloc (.cells e.cells.toArray 24)).heap.size = w.heap.size + 1 by simp)
  have w0 : (0 : Int) ≤ (i : Int) := by omega
  clear hk hg hp htk
  go_enter Tryd.func12, Tryd.ntmps12
  go_upto_region 1 with (fail)
  generalize w.alloc (.cells e.cells.toArray 24) = WA at *
  go_upto_region 3 with (first
    | (refine wpList_load_rowg (by rfl) 24 _ rfl _ rfl _ _ _ _ HE.out.bk Tryd.underlying24 rfl (by rw [HS.out]; kernel_rfl) ?_)
    | (go_at_call 15; refine (refgood_any e HK.out _).mono ?_; rw [HG.out]; rintro r w1 ⟨rfl, hb⟩; have HE1 := Lib.hid (HE.out.on (hb.mono HE.out.size)); clear hb))
  go_upto_region 4 with (go_at_call 33; refine (refnumber_any 8 i _ (by decide)).mono ?_; rintro r w2 ⟨v2, rfl, hA, hb⟩; have HE2 := Lib.hid (HE1.out.on (hb.mono HE1.out.size)); obtain ⟨b, hb1, hb2, hA⟩ : ∃ b, w.heap.size + 1 ≤ b ∧ b ≤ w2.heap.size ∧ Acc w2 b v2 (numS i 8) := ⟨_, HE1.out.size, hb.size, hA⟩; have HA2 := Lib.hid hA; have HB1 := Lib.hid hb1; have HB2 := Lib.hid hb2; clear hA hb hb1 hb2)
  have c0 := HE2.out.c0
  go_upto_region 5 with (refine wpList_app8 rfl _ _ rfl rfl b _ _ rfl (HA2.out.on HB2.out (below1 _ _)) _ [UInt8.ofNat e.user.size] 1 1 rfl rfl (rd0_byte w2 5 _ _ HV.out) (by simp [numS_len]) (by have := HB2.out; simp; omega) ?_; intro v3 w3 hA hb; have HA3 := Lib.hid hA; have HE3 := Lib.hid ((HE2.out.on ((below1 w2 _).mono HE2.out.size)).on (hb.mono HB1.out)); have HB3 := Lib.hid (show b ≤ w3.heap.size from Nat.le_trans (by have := HB2.out; simp; omega) hb.size); clear hA hb)
  have R5 := Lib.hid (show Rb w3 w e b v3 _ from ⟨HA3.out, HE3.out, HB3.out⟩)
  clear HA2 HE1 HE2 HA3 HE3 HB3 HB2 c0 HE
  have c0 := R5.out.eb.c0
  go_upto_region 6 with (first
    | (refine wpList_app8 rfl _ _ rfl rfl b _ _ rfl R5c.out.acc q5 e.user.data.toList _ c5 rfl rfl HR5.out (by have := HP.out.1; have := HP.out.2.2.2; simp [numS_len, numS_one]; try omega) R5c.out.le ?_; intro v5' w5' hA hb; have R6 := Lib.hid (R5c.out.app HB1.out hA hb); clear hA hb)
    | (refine wpList_conv8 rfl _ rfl e.user rfl ?_; intro q5 c5 w5c hR hb; have R5c := Lib.hid (R5.out.on hb); have HR5 := Lib.hid hR; clear hR hb))
  clear c0
  have c1 := R6.out.eb.c1
  rw [HTK.out] at c1
  go_upto_region 7 with (first
    | (go_at_call 33; refine (refnumber_any 8 tk _ (by decide)).mono ?_; rintro r w6c ⟨v6c, rfl, hA, hb⟩; obtain ⟨q6, c6, rfl, hd, hR⟩ := hA.rd; have R6c := Lib.hid (R6.out.on hb); have HR6 := Lib.hid hR; clear hA hb hd hR)
    | (refine wpList_app8 rfl _ _ rfl rfl b _ _ rfl R6c.out.acc q6 (numS tk 8) _ c6 rfl rfl HR6.out (by have := HP.out.1; have := HP.out.2.2.2; simp [numS_len, numS_one]; try omega) R6c.out.le ?_; intro v6' w6' hA hb; have R7 := Lib.hid (R6c.out.app HB1.out hA hb); clear hA hb))
  clear c1
  have c2 := R7.out.eb.c2
  go_upto_region 8 with (first
    | (go_at_call 33; refine (refnumber_any 4 e.text.size _ (by decide)).mono ?_; rintro r w7c ⟨v7c, rfl, hA, hb⟩; obtain ⟨q7, c7, rfl, hd, hR⟩ := hA.rd; have R7c := Lib.hid (R7.out.on hb); have HR7 := Lib.hid hR; clear hA hb hd hR)
    | (refine wpList_app8 rfl _ _ rfl rfl b _ _ rfl R7c.out.acc q7 (numS e.text.size 4) _ c7 rfl rfl HR7.out (by have := HP.out.1; have := HP.out.2.2.2; simp [numS_len, numS_one]; try omega) R7c.out.le ?_; intro v7' w7' hA hb; have R8 := Lib.hid (R7c.out.app HB1.out hA hb); clear hA hb))
  clear c2
  have c2 := R8.out.eb.c2
  go_upto_region 9 with (first
    | (refine wpList_app8 rfl _ _ rfl rfl b _ _ rfl R8c.out.acc q8 e.text.data.toList _ c8 rfl rfl HR8.out (by have := HP.out.1; have := HP.out.2.2.2; simp [numS_len, numS_one]; try omega) R8c.out.le ?_; intro v8' w8' hA hb; have R9 := Lib.hid (R8c.out.app HB1.out hA hb); clear hA hb)
    | (refine wpList_conv8 rfl _ rfl e.text rfl ?_; intro q8 c8 w8c hR hb; have R8c := Lib.hid (R8.out.on hb); have HR8 := Lib.hid hR; clear hR hb))
  clear c2
  obtain ⟨L, HL, HLL, R⟩ : ∃ L, Hid (L ++ e.dig = bytesS i e) ∧ Hid (L.length ≤ 5000) ∧ Hid (Rb w8' w e b v8' L) := by
    refine ⟨_, Lib.hid ?_, Lib.hid ?_, R9⟩
    · unfold bytesS
      rw [numS_one, HTK.out, Int.toNat_natCast]
    · have := HP.out.1
      have := HP.out.2.2.2
      simp [numS_len]
      omega
  clear R5 R5c R6 R6c R7 R7c R8 R8c R9 HR5 HR6 HR7 HR8 HG HTK HV HS HSZ
  go_wp2_with fail
  go_loopw [6, 7] (fun v x wr => ∃ k : Nat, k ≤ 32 ∧ x = .int .i64 k ∧ Rb wr w e b v (L ++ e.dig.take k)) (fun _ x _ => 32 - (intOf x).toNat)
  case atStart => exact ⟨0, by omega, rfl, by simpa using R.out⟩
  case round =>
    clear R
    obtain ⟨k, hk, rfl, hR⟩ := hrel
    have R := Lib.hid hR
    clear hR
    have w3 : (0 : Int) ≤ (k : Int) := by omega
    by_cases hlt : k < 32
    · have w4 : (k : Int) < 32 := by omega
      have hkd : k < e.dig.length := by rw [HK.out.dig]; exact hlt
      have x0 := R.out.eb.dig k hkd
      have HT := Lib.hid (List.take_succ_eq_append_getElem hkd)
      generalize e.dig[k] = y at *
      go_wp2_with (refine wpList_app8 rfl _ _ rfl rfl b _ _ rfl (R.out.on (below1 _ _)).acc _ [y] 1 1 rfl rfl (rd0_lit wr 5 [y]) (by have := HLL.out; rw [List.length_append, List.length_take]; simp; omega) (R.out.on (below1 _ _)).le ?_; intro v3 w3 hA hb; rw [List.append_assoc, ← HT.out] at hA; have R2 := Lib.hid ((R.out.on (below1 _ _)).app HB1.out hA hb); clear hA hb)
      go_roundw
      case rel => exact ⟨k + 1, by omega, by go_num, R2.out⟩
      case measure => simp [intOf]; omega
    · obtain rfl : k = 32 := by omega
      have hR := R.out
      rw [List.take_of_length_le (by rw [HK.out.dig]; exact Nat.le_refl _), HL.out] at hR
      have R := Lib.hid hR
      clear hR
      obtain ⟨wq, rfl⟩ : ∃ wq : World, wq = wr := ⟨_, rfl⟩
      go_wp2_with fail
      refine bodyPost_ret (results_tmp2 rfl _ _ _) rfl ?_
      exact ⟨_, rfl, R.out.acc.low HB1.out, R.out.eb.bel⟩

set_option maxRecDepth 100000 in
set_option maxHeartbeats 1000000 in
theorem refbytes_bad (i : Int) (e : En) (hk : e.Ok) (w : World) (h : i < 0 ∨ goodB e = false) :
    Calls Tryd.prog 12 #[.int .i64 i, .agg e.cells.toArray] w fun r w' => r = .returned (.tuple #[.slice none 0 0, .int .i64 1]) ∧ Below w.heap.size w w' := by
  have HS := Lib.hid (En.size hk)
  have HK := Lib.hid hk
  have HE := Lib.hid (Eb.start w e)
  have h2 : i < 0 ∨ (0 ≤ i ∧ goodB e = false) := by
    rcases h with h | h
    · exact .inl h
    · by_cases h0 : i < 0
      · exact .inl h0
      · exact .inr ⟨by omega, h⟩
  clear hk h
  go_enter Tryd.func12, Tryd.ntmps12
  go_upto_region 1 with (fail)
  generalize w.alloc (.cells e.cells.toArray 24) = WA at *
  rcases h2 with h2 | ⟨h2, hg⟩
  · go_wp2_with fail
    exact bodyPost_ret (results_tmp2 rfl _ _ _) rfl ⟨rfl, HE.out.bel⟩
  · have HG := Lib.hid hg
    clear hg
    go_wp2_with (first
      | (refine wpList_load_rowg (by rfl) 24 _ rfl _ rfl _ _ _ _ HE.out.bk Tryd.underlying24 rfl (by rw [HS.out]; kernel_rfl) ?_)
      | (go_at_call 15; refine (refgood_any e HK.out _).mono ?_; rw [HG.out]; rintro r w1 ⟨rfl, hb⟩; have HE1 := Lib.hid (HE.out.on (hb.mono HE.out.size)); clear hb))
    exact bodyPost_ret (results_tmp2 rfl _ _ _) rfl ⟨rfl, HE1.out.bel⟩
end Go.Proofs.YtammglimobninaaDoor
