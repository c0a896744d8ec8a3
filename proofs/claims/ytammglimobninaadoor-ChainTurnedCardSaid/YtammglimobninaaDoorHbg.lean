/-
  The walk of ChainBegins.
-/
import Derived.Test.YtammglimobninaaDoorHhw
set_option linter.unusedVariables false
set_option linter.unusedSimpArgs false
namespace Go.Proofs.YtammglimobninaaDoor
open Go.RowKit Nm

theorem chead_cap (cut : Int) (q : Option Addr) (l : List En) (c : Nat) (w : World) (hE : Env w) (hL : Ens w q l) (hn : l.length < 1000000000000) :
    Calls Tryd.prog 16 #[.int .i64 cut, .slice q l.length c] w fun r w' => ∃ q' c', r = .returned (.tuple #[.slice q' (headS cut l).length c', .int .i64 (headE cut l)]) ∧ Rd0 w' q' (headS cut l) ∧ (headS cut l).length ≤ c' ∧ Below w.heap.size w w' := by
  unfold headS headE
  cases h : okS cut l with
  | true =>
    have h2 := h
    simp only [okS, Bool.and_eq_true, decide_eq_true_eq] at h2
    obtain ⟨n, rfl⟩ : ∃ n : Nat, cut = (n : Int) := ⟨cut.toNat, by omega⟩
    refine (chead_good n q l c w hE hL hn (by omega) (by omega) h2.2).mono ?_
    rintro r w' ⟨v', base, rfl, _, hA, hb⟩
    obtain ⟨q', c', rfl, hd, hR⟩ := hA.rd
    exact ⟨q', c', rfl, hR, hd, hb⟩
  | false =>
    refine (chead_bad cut q l c w hL (by omega) h).mono ?_
    rintro r w' ⟨rfl, hb⟩
    exact ⟨none, 0, rfl, .inl rfl, Nat.zero_le _, hb⟩
theorem bytes_cap (n : Nat) (hi : n < 9223372036854775808) (e : En) (hk : e.Ok) (hg : goodB e = true) (w : World) :
    Calls Tryd.prog 11 #[.int .i64 n, .agg e.cells.toArray] w fun r w' => ∃ q c, r = .returned (.tuple #[.slice q (bytesS n e).length c, .int .i64 0]) ∧ Rd0 w' q (bytesS n e) ∧ (bytesS n e).length ≤ c ∧ Below w.heap.size w w' := by
  refine (bytes_good n e hk w hi hg).mono ?_
  rintro r w' ⟨v', base, rfl, hb0, hA, hb⟩
  obtain ⟨q, c, rfl, hd, hR⟩ := hA.rd
  exact ⟨q, c, rfl, hR, hd, hb⟩
theorem bytes_badc (n : Nat) (e : En) (hk : e.Ok) (w : World) (hg : goodB e = false) :
    Calls Tryd.prog 11 #[.int .i64 n, .agg e.cells.toArray] w fun r w' => r = .returned (.tuple #[.slice none 0 0, .int .i64 1]) ∧ Below w.heap.size w w' := bytes_bad n e hk w (.inr hg)
theorem Ens.take {w : World} {q : Option Addr} {l : List En} (h : Ens w q l) (k : Nat) : Ens w q (l.take k) := by
  refine ⟨?_, fun e he => h.ok e (List.mem_of_mem_take he)⟩
  rcases h.at_ with h | ⟨b, off, h1, h2, h3⟩
  · subst h; exact .inl (by simp)
  · refine .inr ⟨b, off, h1, h2, fun i hi => ?_⟩
    rw [List.getElem_take]
    exact h3 i (by rw [List.length_take] at hi; omega)
theorem linkS_take (cut : Nat) (l : List En) (m : Nat) (hm : m ≤ l.length) : ∀ k, k ≤ m → linkS cut (l.take m) k = linkS cut l k
  | 0, _ => rfl
  | k + 1, h => by
    simp only [linkS]
    rw [linkS_take cut l m hm k (by omega)]
    congr 3
    simp only [List.getD_eq_getElem?_getD]
    rw [List.getElem?_take_of_lt (by omega)]
theorem okS_take {cut : Int} {l : List En} (h : okS cut l = true) (m : Nat) : okS cut (l.take m) = true := by
  unfold okS at h ⊢
  rw [Bool.and_eq_true] at h ⊢
  exact ⟨h.1, List.all_eq_true.2 fun e he => List.all_eq_true.1 h.2 e (List.mem_of_mem_take he)⟩
theorem headS_len {n : Nat} {l : List En} (h : okS (n : Int) l = true) : (headS (n : Int) l).length = n := by
  unfold headS
  rw [if_pos h]
  simp only [okS, Bool.and_eq_true, decide_eq_true_eq] at h
  show ((linkS n l l.length).take n).length = n
  rw [List.length_take, linkS_len]
  omega
/-- the head goes on from the one ahead -/
theorem headS_next {n : Nat} {l : List En} (h : okS (n : Int) l = true) (hl : 0 < l.length) : headS (n : Int) l = (sumS (headS (n : Int) (l.take (l.length - 1)) ++ bytesS (l.length - 1) l[l.length - 1])).take n := by
  have h2 := okS_take h (l.length - 1)
  unfold headS
  rw [if_pos h, if_pos h2]
  show (linkS n l l.length).take n = (sumS ((linkS n (l.take (l.length - 1)) (l.take (l.length - 1)).length).take n ++ _)).take n
  rw [List.length_take, Nat.min_eq_left (Nat.sub_le _ _), linkS_take n l _ (Nat.sub_le _ _) _ (Nat.le_refl _)]
  obtain ⟨k, hk⟩ : ∃ k, l.length = k + 1 := ⟨l.length - 1, by omega⟩
  have hkl : k < l.length := by omega
  have e : linkS n l l.length = sumS ((linkS n l k).take n ++ bytesS k (l.getD k enZ)) := by rw [hk]; rfl
  rw [e]
  have e2 : l.length - 1 = k := by omega
  have e3 : l.getD k enZ = l[k] := by simp [List.getD_eq_getElem?_getD, hkl]
  rw [e3]
  simp only [e2]
theorem parts_two' (q q2 : Option Addr) (n1 n2 c c2 : Nat) (A B S m : List UInt8) (h1 : n1 = A.length) (h2 : n2 = B.length) (hm : A ++ B = m) (X : World) (hA : Rd0 X q A) (hB : Rd0 X q2 B) (hcA : A.length ≤ c) (hcB : B.length ≤ c2) (hE : Env X) (hz : m.length < 1000000000000000) (hS : Hid (S = sumS m)) :
    Calls Tryd.prog 31 #[.slice (some ⟨X.heap.size, 0, none⟩) 2 2] (X.alloc (.cells #[.slice q n1 c, .slice q2 n2 c2] 25)) fun e w' => e = .returned (.agg (cells8 S).toArray) ∧ Below X.heap.size X w' := by
  subst h1 h2
  have hj : joinL [⟨q, c, A⟩, ⟨q2, c2, B⟩] = m := by rw [← hm]; simp [joinL]
  refine (parts_any (some ⟨X.heap.size, 0, none⟩) [⟨q, c, A⟩, ⟨q2, c2, B⟩] 2 _ ⟨.inr ⟨X.heap.size, 0, rfl, by simp, fun i hi => ?_⟩, fun x hx => ?_⟩ (hE.on (below1 _ _) hE.size) (by simp) (by rw [hj]; exact hz) S (by rw [hj]; exact hS)).mono fun e w' h => ⟨h.1, (below1 X _).trans (h.2.mono (below1 X _).size)⟩
  · have hi2 : i < 2 := hi
    rw [Nat.zero_add]
    rcases Nat.lt_or_ge i 1 with h | h
    · obtain rfl : i = 0 := by omega
      exact (Bk.new X _ _).cell 0 _ rfl
    · obtain rfl : i = 1 := by omega
      exact (Bk.new X _ _).cell 1 _ rfl
  · rcases List.mem_cons.1 hx with rfl | hx
    · exact ⟨hA.on (below1 _ _), hcA⟩
    · obtain rfl : x = ⟨q2, c2, B⟩ := by simpa using hx
      exact ⟨hB.on (below1 _ _), hcB⟩
/-- the beginning of a slice -/
theorem run_slice_toE {P : Program} (t e : TypeId) (hu : P.underlying t = some (.slice e)) (hs : (P.info? e).isSome = true) (p : Option Addr) (len cap : Nat) (k : IntKind) (j : Int) (h : Nat) (hj : j = (h : Int)) (hc : h ≤ cap) (w : World) :
    (Instr.sliceAt t (.slice p len cap) none (some (.int k j)) none).run P w = .ok (.slice p h cap) w := by
  subst hj
  have he : P.elem t = e := by simp [Program.elem, hu]
  rw [run_sliceAt_slice w t _ _ _ _ (by rw [he]; exact hu), run_slice_h w t p len cap (by rw [he]; exact hu) k h (by omega) (by omega), he]
  cases hq : P.info? e with
  | none => simp [hq] at hs
  | some i => cases p <;> simp [sizeOf, typeInfo, hq, sliced, Result.andThen, Addr.add]

set_option maxRecDepth 100000 in
set_option maxHeartbeats 4000000 in
theorem begins_walk (cut : Int) (q : Option Addr) (l : List En) (c : Nat) (hlc : l.length ≤ c) (w : World) (hE : Env3 w) (hL : Ens w q l) :
    Calls Tryd.prog 9 #[.int .i64 cut, .slice q l.length c] w fun r w' => r = .returned (.bool true) ∧ Below w.heap.size w w' := by
  have HE := Lib.hid hE
  have HA := Lib.hid (show Ag w w q l none [] from ⟨hL, .inl rfl, Below.refl _ _⟩)
  have HC := Lib.hid hlc
  clear hE hL hlc
  go_enter Tryd.func9, Tryd.ntmps9
  go_upto_region 3 with (go_at_call 13; refine (fixed_any _ HE.out).mono ?_; rintro r w1 ⟨rfl, hb⟩; have HA1 := Lib.hid (HA.out.on hb); clear hb)
  by_cases hbig : 20 < l.length
  · have h1 : (20 : Int) < (l.length : Int) := by omega
    go_wp2_with fail
    go_ret
    exact ⟨by rfl, HA1.out.bel⟩
  have h1 : (l.length : Int) ≤ 20 := by omega
  have h1b : ¬ (20 : Int) < (l.length : Int) := by omega
  have HN := Lib.hid (show l.length ≤ 20 by omega)
  clear hbig
  by_cases hz : l.length = 0
  · have h2 : (l.length : Int) = 0 := by omega
    go_wp2_with fail
    go_ret
    exact ⟨by rfl, HA1.out.bel⟩
  have hpos : 0 < l.length := by omega
  have h2 : ¬ (l.length : Int) = 0 := by omega
  have HP := Lib.hid hpos
  have HTK := Lib.hid (show (l.take (l.length - 1)).length = l.length - 1 by rw [List.length_take]; omega)
  obtain ⟨k, hk⟩ : ∃ k, k = l.length - 1 := ⟨_, rfl⟩
  have s1 : IntKind.i64.wrap ((l.length : Int) - 1) = (k : Int) := by rw [IntWalk.i64_in _ (by omega)]; omega
  have hkl : k < l.length := by omega
  obtain ⟨b, off, rfl, hbl, hr⟩ := HA.out.ens.at k hkl
  have HR0 := Lib.hid (show ∀ X, Below w.heap.size w X → X.rangeAt b (off + k * 35) (l[k]).cells from fun X hX j v hv => by rw [hX.cell (p := ⟨b, off + k * 35 + j, none⟩) hbl]; exact hr j v hv)
  have w3 : (0 : Int) ≤ (k : Int) := by omega
  have w4 : (k : Int) < (l.length : Int) := by omega
  have HK := Lib.hid (HA.out.ens.ok l[k] (List.getElem_mem hkl))
  clear hr
  have hsl := fun wx => run_slice_toE (P := Tryd.prog) 34 24 Tryd.underlying34 (by kernel_rfl) (some ⟨b, off, none⟩) l.length c .i64 (k : Int) k rfl (by have := HC.out; omega) wx
  have C1 := Lib.hid (fun q c X (h1 : Env X) (h2 : Ens X q l) => chead_cap cut q l c X h1 h2 (by have := HN.out; omega))
  have C2 := Lib.hid (fun q c X (h1 : Env X) (h2 : Ens X q l) => chead_cap cut q (l.take k) c X h1 (h2.take k) (by rw [List.length_take]; have := HN.out; omega))
  rw [show (l.take k).length = k by rw [hk]; exact HTK.out] at C2
  have HKK := Lib.hid hk
  have HKL := Lib.hid hkl
  have HPO := Lib.hid hpos
  clear hk hpos hz
  have BB := Lib.hid (fun X => bytes_both (k : Int) (by have := HN.out; omega) l[k] HK.out X)
  cases hok : okS cut l with
  | false =>
    have e1 : headS cut l = [] := by unfold headS; rw [hok]; rfl
    have e2 : headE cut l = 1 := by unfold headE; rw [hok]; rfl
    rw [e1, e2] at C1
    clear hok e1 e2
    generalize headS cut (l.take k) = G at *
    generalize headE cut (l.take k) = n2 at *
    generalize bytesR (k : Int) l[k] = L3 at *
    generalize bytesE (k : Int) l[k] = n3 at *
    go_upto_region 6 with (go_at_call 16; refine (C1.out (some ⟨b, off, none⟩) c _ (HE.out.on HA1.out.bel).env HA1.out.ens).mono ?_; rintro r w2 ⟨q1, c1, rfl, hR, _, hb⟩; have HA2 := Lib.hid (HA1.out.on hb); clear hb hR)
    go_upto_region 7 with (go_at_call 16; refine (C2.out (some ⟨b, off, none⟩) c _ (HE.out.on HA2.out.bel).env HA2.out.ens).mono ?_; rintro r w3 ⟨q2, c2, rfl, hR, _, hb⟩; have HA3 := Lib.hid (HA2.out.on hb); clear hb hR)
    have HR3 := Lib.hid (HR0.out _ HA3.out.bel)
    generalize l[k] = e at *
    go_upto_region 8 with (first
      | (refine wpList_load_mid rfl 24 _ rfl b (off + k * 35) rfl _ _ HR3.out Tryd.underlying24 rfl (by rw [En.length]; kernel_rfl) ?_)
      | (go_at_call 11; refine (BB.out _).mono ?_; rintro r w4 ⟨q3, c3, rfl, hR, hb⟩; have HA4 := Lib.hid (HA3.out.on hb); clear hb hR))
    go_wp2_with fail
    go_ret
    exact ⟨by rfl, HA4.out.bel⟩
  | true =>
    have h3 := hok
    simp only [okS, Bool.and_eq_true, decide_eq_true_eq] at h3
    obtain ⟨n, rfl⟩ : ∃ n : Nat, cut = (n : Int) := ⟨cut.toNat, by omega⟩
    have HCT := Lib.hid (show n ≤ 32 by omega)
    have e2 : headE (n : Int) l = 0 := by unfold headE; rw [hok]; rfl
    have hok2 := okS_take hok k
    have e3 : headE (n : Int) (l.take k) = 0 := by unfold headE; rw [hok2]; rfl
    have HBN := Lib.hid (headS_len hok)
    have HGN := Lib.hid (headS_len hok2)
    have HNX := Lib.hid (headS_next hok HPO.out)
    have HGD := Lib.hid (List.all_eq_true.1 h3.2 _ (List.getElem_mem hkl))
    have BC := Lib.hid (fun X => bytes_cap k (by have := HN.out; omega) l[k] HK.out HGD.out X)
    rw [e2] at C1
    rw [e3] at C2
    have HNX2 := Lib.hid (show headS (n : Int) l = (sumS (headS (n : Int) (l.take k) ++ bytesS k l[k])).take n by have := HNX.out; have hk := HKK.out; subst hk; exact this)
    have HBL := Lib.hid (show (bytesS k l[k]).length ≤ 5000 by have := good_parts HGD.out; have := HK.out.dig; simp [bytesS, numS_len]; omega)
    clear hok hok2 e2 e3 BB HNX h3
    generalize headS (n : Int) l = B at *
    generalize headS (n : Int) (l.take k) = G at *
    go_upto_region 6 with (go_at_call 16; refine (C1.out (some ⟨b, off, none⟩) c _ (HE.out.on HA1.out.bel).env HA1.out.ens).mono ?_; rintro r w2 ⟨q1, c1, rfl, hR, _, hb⟩; have HA2 := Lib.hid (HA1.out.on hb); have HQ1 := Lib.hid hR; clear hb hR)
    go_upto_region 7 with (go_at_call 16; refine (C2.out (some ⟨b, off, none⟩) c _ (HE.out.on HA2.out.bel).env HA2.out.ens).mono ?_; rintro r w3 ⟨q2, c2, rfl, hR, hc2, hb⟩; have HA3 := Lib.hid (HA2.out.on hb); have HQ3 := Lib.hid (show Rd0 w3 q1 B ∧ Rd0 w3 q2 G ∧ G.length ≤ c2 from ⟨HQ1.out.on hb, hR, hc2⟩); clear hb hR hc2 HQ1)
    have HR3 := Lib.hid (HR0.out _ HA3.out.bel)
    clear HR0
    generalize l[k] = e at *
    obtain ⟨L3, hL3⟩ : ∃ L3, Hid (L3 = bytesS k e) := ⟨_, Lib.hid rfl⟩
    rw [← hL3.out] at BC HNX2 HBL
    go_upto_region 8 with (first
      | (refine wpList_load_mid rfl 24 _ rfl b (off + k * 35) rfl _ _ HR3.out Tryd.underlying24 rfl (by rw [En.length]; kernel_rfl) ?_)
      | (go_at_call 11; refine (BC.out _).mono ?_; rintro r w4 ⟨q3, c3, rfl, hR, hc3, hb⟩; have HA4 := Lib.hid (HA3.out.on hb); have HQ4 := Lib.hid (show Rd0 w4 q1 B ∧ Rd0 w4 q2 G ∧ Rd0 w4 q3 L3 ∧ G.length ≤ c2 ∧ L3.length ≤ c3 from ⟨HQ3.out.1.on hb, HQ3.out.2.1.on hb, hR, HQ3.out.2.2, hc3⟩); clear hb hR hc3 HQ3))
    go_upto_region 10 with (fail)
    obtain ⟨S, hS⟩ : ∃ S, Hid (S = sumS (G ++ L3)) := ⟨_, Lib.hid rfl⟩
    have HSL := Lib.hid (show S.length = 32 by rw [hS.out]; exact sumS_len _)
    have HSB := Lib.hid (show B = S.take n by rw [HNX2.out, hS.out])
    have HQS := Lib.hid (show (cells8 S).toArray.size = 32 by rw [List.size_toArray, cells8_len, HSL.out])
    go_upto_region 11 with (first
      | (refine wpList_store_row rfl 22 _ _ rfl _ _ rfl rfl _ _ (Bk.new _ _ _) (by rw [HQS.out]; kernel_rfl) (by rw [HQS.out]; rfl) (cells8_one _) ?_)
      | (go_at_call 31; refine (parts_two' q2 q3 _ _ c2 c3 G L3 S (G ++ L3) rfl rfl rfl w4 HQ4.out.2.1 HQ4.out.2.2.1 HQ4.out.2.2.2.1 HQ4.out.2.2.2.2 (HE.out.on HA4.out.bel).env (by have := HBL.out; have := HGN.out; have := HCT.out; rw [List.length_append]; omega) hS).mono ?_; rintro r w5 ⟨rfl, hb⟩; have HA5 := Lib.hid (show Ag w5 w (some ⟨b, off, none⟩) l none [] ∧ Rd0 w5 q1 B from ⟨HA4.out.on hb, HQ4.out.1.on hb⟩); clear hb))
    rw [World.setRow_alloc_new]
    have HD0 := Lib.hid (show Rd0 (w5.alloc (.cells (cells8 S).toArray 22)) q1 B ∧ Rd0 (w5.alloc (.cells (cells8 S).toArray 22)) (some ⟨w5.heap.size, 0, none⟩) B ∧ Below w.heap.size w (w5.alloc (.cells (cells8 S).toArray 22)) from
      ⟨HA5.out.2.on (below1 _ _), by
        rw [HSB.out]
        exact .inr ⟨w5.heap.size, 0, rfl, by simp, fun i v hv => by
          rw [Nat.zero_add]
          refine (Bk.new w5 22 (cells8 S).toArray).cell i v ?_
          rw [List.toList_toArray]
          have hi := (List.getElem?_eq_some_iff.1 hv).1
          rw [cells8_len, List.length_take] at hi
          rw [← hv]
          simp only [cells8, List.getElem?_map]
          rw [List.getElem?_take_of_lt (by omega)]⟩, HA5.out.1.bel.trans ((below1 w5 _).mono HA5.out.1.bel.size)⟩)
    generalize w5.alloc (.cells (cells8 S).toArray 22) = WX at *
    generalize w5.heap.size = D at *
    (try simp only [Act.put])
    have HD := Lib.hid (show Rd0 WX.drew q1 B ∧ Rd0 WX.drew (some ⟨D, 0, none⟩) B ∧ Below w.heap.size w WX.drew from ⟨HD0.out.1.on (Below.refl _ _).drew, HD0.out.2.1.on (Below.refl _ _).drew, HD0.out.2.2.drew⟩)
    have hsa := fun wx => run_slice_arr_to (P := Tryd.prog) 22 5 32 Tryd.underlying22 (by kernel_rfl) D 0 .i64 (n : Int) n rfl (by decide) HCT.out wx
    have hgn : (G.length : Int) = (n : Int) := by rw [HGN.out]
    clear HD0 HA5 HQ4 HA4 hsl s1
    refine wp_region_held_drew (S := fun X => Rd0 X q1 B ∧ Rd0 X (some ⟨D, 0, none⟩) B) (by kernel_rfl) (⟨HD.out.1, HD.out.2.1⟩) (fun hHeld => ?_)
    refine wpAnyH_take (i := 0) (v := ?_) rfl (by kernel_rfl) (by kernel_rfl) (by kernel_rfl) (fun _ _ _ h => h) (Or.inl ⟨by rfl, ?hy⟩) (by assumption) ?_
    case hy =>
      intro w hSw
      go_simp
      all_goals with_reducible rfl
    (try simp only [Act.put, List.setIfInBounds_toArray, List.set_cons_zero, List.set_cons_succ])
    refine wpAnyH_take (i := 1) (v := ?_) rfl (by kernel_rfl) (by kernel_rfl) (by kernel_rfl) (fun _ _ _ h => h) (Or.inl ⟨by rfl, ?hy⟩) (by assumption) ?_
    case hy =>
      intro w hSw
      go_simp
      all_goals with_reducible rfl
    (try simp only [Act.put, List.setIfInBounds_toArray, List.set_cons_zero, List.set_cons_succ])
    refine wpAnyH_take (i := 2) (v := ?_) rfl (by kernel_rfl) (by kernel_rfl) (by kernel_rfl) (fun _ _ _ h => h) (Or.inl ⟨by rfl, ?hy⟩) (by assumption) ?_
    case hy =>
      intro w hSw
      go_simp
      all_goals with_reducible rfl
    (try simp only [Act.put, List.setIfInBounds_toArray, List.set_cons_zero, List.set_cons_succ])
    refine wpAnyH_take (i := 3) (v := ?_) rfl (by kernel_rfl) (by kernel_rfl) (by kernel_rfl) (fun _ _ _ h => h) (Or.inl ⟨by rfl, ?hy⟩) (by assumption) ?_
    case hy =>
      intro w hSw
      go_simp
      all_goals with_reducible rfl
    (try simp only [Act.put, List.setIfInBounds_toArray, List.set_cons_zero, List.set_cons_succ])
    refine wpAnyH_take (i := 5) (v := ?_) rfl (by kernel_rfl) (by kernel_rfl) (by kernel_rfl) (fun _ _ _ h => h) (Or.inl ⟨by rfl, ?hy⟩) (by assumption) ?_
    case hy =>
      intro w hSw
      go_simp
      all_goals with_reducible rfl
    (try simp only [Act.put, List.setIfInBounds_toArray, List.set_cons_zero, List.set_cons_succ])
    refine wpAnyH_ready (rs := [4]) (by kernel_rfl) (by simp) ?_
    refine AllReadyH.cons rfl (fun K hK => ?_) AllReadyH.nil
    go_simp
    skip
    refine hK.out _ _ (⟨HD.out.1, HD.out.2.1⟩) (fun hHeld => ?_)
    clear hK K
    (try simp only [Act.put, List.setIfInBounds_toArray, List.set_cons_zero, List.set_cons_succ])
    refine wpAnyH_ready (rs := [6]) (by kernel_rfl) (by simp) ?_
    refine AllReadyH.cons rfl (fun K hK => ?_) AllReadyH.nil
    go_simp
    skip
    refine hK.out _ _ (⟨HD.out.1, HD.out.2.1⟩) (fun hHeld => ?_)
    clear hK K
    (try simp only [Act.put, List.setIfInBounds_toArray, List.set_cons_zero, List.set_cons_succ])
    refine wpAnyH_ready (rs := [7]) (by kernel_rfl) (by simp) ?_
    refine AllReadyH.cons rfl (fun K hK => ?_) AllReadyH.nil
    go_simp
    skip
    refine hK.out _ _ (⟨HD.out.1, HD.out.2.1⟩) (fun hHeld => ?_)
    clear hK K
    (try simp only [Act.put, List.setIfInBounds_toArray, List.set_cons_zero, List.set_cons_succ])
    refine wpAnyH_take (i := 8) (v := ?_) rfl (by kernel_rfl) (by kernel_rfl) (by kernel_rfl) (fun _ _ _ h => h) (Or.inl ⟨by rfl, ?hy⟩) (by assumption) ?_
    case hy =>
      intro w hSw
      go_simp
      all_goals with_reducible rfl
    (try simp only [Act.put, List.setIfInBounds_toArray, List.set_cons_zero, List.set_cons_succ])
    refine wpAnyH_take (i := 9) (v := ?_) rfl (by kernel_rfl) (by kernel_rfl) (by kernel_rfl) (fun _ _ _ h => h) (Or.inl ⟨by rfl, ?hy⟩) (by assumption) ?_
    case hy =>
      intro w hSw
      go_simp
      all_goals with_reducible rfl
    (try simp only [Act.put, List.setIfInBounds_toArray, List.set_cons_zero, List.set_cons_succ])
    refine wpAnyH_take (i := 11) (v := ?_) rfl (by kernel_rfl) (by kernel_rfl) (by kernel_rfl) (fun _ _ _ h => h) (Or.inl ⟨by rfl, ?hy⟩) (by assumption) ?_
    case hy =>
      intro w hSw
      go_simp
      all_goals with_reducible rfl
    (try simp only [Act.put, List.setIfInBounds_toArray, List.set_cons_zero, List.set_cons_succ])
    refine wpAnyH_take (i := 10) (v := .string ⟨B.toArray⟩) rfl (by kernel_rfl) (by kernel_rfl) (by kernel_rfl) (fun _ _ _ h => h) (Or.inl ⟨by rfl, ?hy⟩) (by assumption) ?_
    case hy =>
      intro w hSw
      have hcv := run_back8 w q1 B c1 hSw.1
      go_simp
    (try simp only [Act.put, List.setIfInBounds_toArray, List.set_cons_zero, List.set_cons_succ])
    refine wpAnyH_take (i := 12) (v := .slice (some ⟨D, 0, none⟩) n 32) rfl (by kernel_rfl) (by kernel_rfl) (by kernel_rfl) (fun _ _ _ h => h) (Or.inl ⟨by rfl, ?hy⟩) (by assumption) ?_
    case hy =>
      intro w hSw
      go_simp
    (try simp only [Act.put, List.setIfInBounds_toArray, List.set_cons_zero, List.set_cons_succ])
    refine wpAnyH_take (i := 13) (v := .string ⟨B.toArray⟩) rfl (by kernel_rfl) (by kernel_rfl) (by kernel_rfl) (fun _ _ _ h => h) (Or.inl ⟨by rfl, ?hy⟩) (by assumption) ?_
    case hy =>
      intro w hSw
      have hcv := run_back8 w (some ⟨D, 0, none⟩) B 32 hSw.2
      rw [HBN.out] at hcv
      go_simp
    (try simp only [Act.put, List.setIfInBounds_toArray, List.set_cons_zero, List.set_cons_succ])
    refine wpAnyH_ready (rs := [14]) (by kernel_rfl) (by simp) ?_
    refine AllReadyH.cons rfl (fun K hK => ?_) AllReadyH.nil
    go_simp
    skip
    refine hK.out _ _ (⟨HD.out.1, HD.out.2.1⟩) (fun hHeld => ?_)
    clear hK K
    (try simp only [Act.put, List.setIfInBounds_toArray, List.set_cons_zero, List.set_cons_succ])
    refine wpAnyH_ready (rs := [15]) (by kernel_rfl) (by simp) ?_
    refine AllReadyH.cons rfl (fun K hK => ?_) AllReadyH.nil
    go_simp
    skip
    refine hK.out _ _ (⟨HD.out.1, HD.out.2.1⟩) (fun hHeld => ?_)
    clear hK K
    (try simp only [Act.put, List.setIfInBounds_toArray, List.set_cons_zero, List.set_cons_succ])
    refine wpAnyH_ready (rs := [16]) (by kernel_rfl) (by simp) ?_
    refine AllReadyH.cons rfl (fun K hK => ?_) AllReadyH.nil
    go_simp
    skip
    refine hK.out _ _ (⟨HD.out.1, HD.out.2.1⟩) (fun hHeld => ?_)
    clear hK K
    (try simp only [Act.put, List.setIfInBounds_toArray, List.set_cons_zero, List.set_cons_succ])
    refine wpAnyH_done (by kernel_rfl) ?_ _
    go_wp2_with fail
    go_ret
    exact ⟨by rfl, HD.out.2.2⟩
end Go.Proofs.YtammglimobninaaDoor
