/-
  The walk of ShaParts.
-/
import Derived.Test.YtjifjpfdfhaflaaDoorRun
import Derived.Test.YtjifjpfdfhaflaaDoorJoi
import Derived.Test.YtjifjpfdfhaflaaDoorRsm
set_option linter.unusedVariables false
set_option linter.unusedSimpArgs false
namespace Go.Proofs.YtjifjpfdfhaflaaDoor
open Go.RowKit

theorem Acc.rdn {X : World} {base N : Nat} {v : Value} {xs : List UInt8} (h : Acc X base v xs) (hN : N < base) : ∃ p d, v = .slice p xs.length d ∧ xs.length ≤ d ∧ Rdn X N p xs := by
  obtain ⟨⟨p, d, hv, hd⟩, hg⟩ := h
  refine ⟨p, d, hv, hd, ?_⟩
  rcases hg with ⟨h, _⟩ | ho
  · exact .inl h
  by_cases h0 : xs = []
  · exact .inl h0
  have hpos : 0 < xs.length := List.length_pos_iff.2 h0
  obtain ⟨g, cap, hv', hge, hgl⟩ := ho.form hpos
  rw [hv] at hv'
  cases hv'
  subst hv
  exact .inr ⟨g, 0, rfl, by omega, hgl, fun i u hu => by have := ho.cells (g := g) rfl i u hu; rwa [Addr.add_mid] at this⟩
theorem Lsa.on {w w' : World} {p : Option Addr} {ls : List SlA} (h : Lsa w p ls) (hb : Below w.heap.size w w') : Lsa w' p ls := by
  refine ⟨?_, fun x hx => ⟨(h.el x hx).1.on hb, (h.el x hx).2⟩⟩
  rcases h.at_ with h | ⟨b, off, h1, h2, h3⟩
  · exact .inl h
  · exact .inr ⟨b, off, h1, Nat.lt_of_lt_of_le h2 hb.size, fun i hi => by rw [hb.cell (p := ⟨b, off + i, none⟩) h2]; exact h3 i hi⟩
theorem Lsa.take {w : World} {p : Option Addr} {ls : List SlA} (h : Lsa w p ls) (k : Nat) : Lsa w p (ls.take k) := by
  refine ⟨?_, fun x hx => h.el x (List.mem_of_mem_take hx)⟩
  rcases h.at_ with h | ⟨b, off, h1, h2, h3⟩
  · subst h; exact .inl (by simp)
  · exact .inr ⟨b, off, h1, h2, fun i hi => by rw [List.getElem_take]; exact h3 i (by rw [List.length_take] at hi; omega)⟩
theorem joinL_bound : ∀ (ls : List SlA), (∀ x ∈ ls, x.m.length ≤ 2000) → (joinL ls).length ≤ 2000 * ls.length
  | [], _ => by simp [joinL]
  | x :: r, h => by
    have h1 := h x (by simp)
    have h2 := joinL_bound r fun y hy => h y (by simp [hy])
    simp only [joinL, List.flatMap_cons, List.length_append, List.length_cons] at h2 ⊢
    omega

theorem run_slice_to {P : Program} (t e : TypeId) (hu : P.underlying t = some (.slice e)) (hs : (P.info? e).map (·.size) = some 1) (p : Option Addr) (len cap : Nat) (k : IntKind) (j : Int) (h : Nat) (hj : j = (h : Int)) (hc : h ≤ cap) (w : World) :
    (Instr.sliceAt t (.slice p len cap) none (some (.int k j)) none).run P w = .ok (.slice p h cap) w := by
  subst hj
  have he : P.elem t = e := by simp [Program.elem, hu]
  rw [run_sliceAt_slice w t _ _ _ _ (by rw [he]; exact hu), run_slice_h w t p len cap (by rw [he]; exact hu) k h (by omega) (by omega), he]
  cases hq : P.info? e with
  | none => simp [hq] at hs
  | some i =>
    have hz : i.size = 1 := by simpa [hq] using hs
    cases p <;> simp [sizeOf, typeInfo, hq, hz, sliced, Result.andThen, Addr.add]
theorem joined_at (p : Option Addr) (ls : List SlA) (n c : Nat) (w : World) (h : n = ls.length) (hL : Lsa w p ls) (hn : ls.length ≤ 40) (hz : (joinL ls).length ≤ 10000000000) :
    Calls Tryd.prog 15 #[.slice p n c] w fun e w' => ∃ q d, e = .returned (.slice q (joinL ls).length d) ∧ (joinL ls).length ≤ d ∧ Rd0 w' q (joinL ls) ∧ Below w.heap.size w w' := by
  subst h
  exact joined_any p ls c w hL (by omega) hz

set_option maxRecDepth 100000 in
set_option maxHeartbeats 2000000 in
theorem parts_walk (p : Option Addr) (ls : List SlA) (c : Nat) (w : World) (hE : Env w) (hL : Lsa w p ls) (hc : ls.length ≤ c) :
    Calls Tryd.prog 4 #[.slice p ls.length c] w fun e w' => e = .returned (.bool true) ∧ Below w.heap.size w w' := by
  have HE := Lib.hid hE
  have HL := Lib.hid hL
  have HC := Lib.hid hc
  clear hE hL hc
  go_enter Tryd.func4, Tryd.ntmps4
  go_upto_region 3 with (go_at_call 7; refine (fixed_any _ HE.out).mono ?_; rintro e w1 ⟨rfl, hb1⟩; have HB1 := Lib.hid hb1; clear hb1)
  by_cases hbig : 40 < ls.length
  · have h1 : (40 : Int) < (ls.length : Int) := by omega
    go_wp2_with fail
    go_ret
    exact ⟨by rfl, HB1.out⟩
  have h1 : (ls.length : Int) ≤ 40 := by omega
  go_upto_region 6 with (go_at_call 12; refine (new_any _ (HE.out.on HB1.out HE.out.size)).mono ?_; rintro e w2 ⟨rfl, hh, hb2⟩; have HF := Lib.hid (show Hq w2 w w1.heap.size [] from ⟨hh, HB1.out.trans (hb2.mono HB1.out.size), HB1.out.size⟩); clear hh hb2 HB1)
  generalize w1.heap.size = N at *
  clear h1
  go_wp2_with fail
  go_loopw [4] (fun i wr => ∃ j : Nat, j ≤ ls.length ∧ i = .int .i64 j ∧ Hid (∀ r (h : r < ls.length), r < j → ls[r].m.length ≤ 2000) ∧ Hq wr w N []) (fun i _ => ls.length - (intOf i).toNat)
  case atStart => exact ⟨0, by omega, rfl, Lib.hid (fun r h h0 => absurd h0 (Nat.not_lt_zero _)), HF.out⟩
  case round =>
    clear HF
    obtain ⟨j, hj, rfl, HS2, hF⟩ := hrel
    have HF := Lib.hid hF
    clear hF
    have w3 : (0 : Int) ≤ (j : Int) := by omega
    by_cases hlt : j < ls.length
    · have w4 : (j : Int) < (ls.length : Int) := by omega
      obtain ⟨b, off, rfl, hbl, hc⟩ : ∃ b off, p = some ⟨b, off, none⟩ ∧ b < w.heap.size ∧ ∀ i (h : i < ls.length), w.cell? ⟨b, off + i, none⟩ = some (.slice ls[i].q ls[i].m.length ls[i].c) := by
        rcases HL.out.at_ with h | h
        · subst h; simp at hlt
        · exact h
      have x0 : wr.cell? ⟨b, off + j, none⟩ = some (.slice ls[j].q ls[j].m.length ls[j].c) := by rw [HF.out.bel.cell (p := ⟨b, off + j, none⟩) hbl]; exact hc j hlt
      clear hc
      by_cases hbg : 2000 < ls[j].m.length
      · have h1 : (2000 : Int) < (ls[j].m.length : Int) := by omega
        go_wp2_with fail
        go_ret
        exact ⟨by rfl, HF.out.bel⟩
      · have h1 : (ls[j].m.length : Int) ≤ 2000 := by omega
        go_wp2_with fail
        go_roundw
        case rel => exact ⟨j + 1, by omega, by go_num, Lib.hid (fun r h h0 => by
          rcases Nat.lt_or_ge r j with h2 | h2
          · exact HS2.out r h h2
          · obtain rfl : r = j := by omega
            omega), HF.out⟩
        case measure => simp [intOf]; omega
    · obtain rfl : j = ls.length := by omega
      have HJ := Lib.hid (joinL_bound ls fun x hx => by
        obtain ⟨r, hr, rfl⟩ := List.mem_iff_getElem.1 hx
        exact HS2.out r hr hr)
      obtain ⟨wo, rfl⟩ : ∃ wo : World, wo = wr := ⟨_, rfl⟩
      have HN := Lib.hid (show ls.length ≤ 40 by omega)
      clear HS2 hlt hj
      go_wp2_with fail
      go_loopw [5] (fun i wr => ∃ j : Nat, j ≤ ls.length ∧ i = .int .i64 j ∧ Hq wr w N (joinL (ls.take j))) (fun i _ => ls.length - (intOf i).toNat)
      case atStart => exact ⟨0, by omega, rfl, by simpa [joinL] using HF.out⟩
      case round =>
        clear HF
        obtain ⟨j, hj, rfl, hF⟩ := hrel
        have HF := Lib.hid hF
        clear hF
        have w3 : (0 : Int) ≤ (j : Int) := by omega
        by_cases hlt : j < ls.length
        · have w4 : (j : Int) < (ls.length : Int) := by omega
          obtain ⟨b, off, rfl, hbl, hc⟩ : ∃ b off, p = some ⟨b, off, none⟩ ∧ b < w.heap.size ∧ ∀ i (h : i < ls.length), w.cell? ⟨b, off + i, none⟩ = some (.slice ls[i].q ls[i].m.length ls[i].c) := by
            rcases HL.out.at_ with h | h
            · subst h; simp at hlt
            · exact h
          have x0 : (wr.alloc (.cells #[] 5)).cell? ⟨b, off + j, none⟩ = some (.slice ls[j].q ls[j].m.length ls[j].c) := by rw [(HF.out.al _).bel.cell (p := ⟨b, off + j, none⟩) hbl]; exact hc j hlt
          have HEL := Lib.hid (HL.out.el ls[j] (List.getElem_mem hlt))
          have HJT := Lib.hid (joinL_take ls j hlt)
          have HJS := Lib.hid (Nat.le_trans (joinL_step ls j hlt) HJ.out)
          have HLT := Lib.hid (HF.out.hs.lt)
          clear hc
          generalize ls[j] = x at *
          go_upto_region 15 with (first
            | (refine wpList_app8 rfl _ _ rfl rfl (N + 1) _ [] rfl (acc_made (w := wr) HLT.out) x.q x.m _ _ rfl rfl (HEL.out.1.on (HF.out.al _).bel) (by have := HJS.out; have := HN.out; simp; omega) (by have := HLT.out; simp; omega) ?_; intro v5 w5 hA hb; rw [List.nil_append] at hA; obtain ⟨p5, d5, rfl, hd5, hR5⟩ := hA.rdn (Nat.lt_succ_self N); have HR5 := Lib.hid hR5; have HD5 := Lib.hid hd5; have HF5 := Lib.hid ((HF.out.al (.cells #[] 5)).above hb); clear hA hb hR5 hd5)
            | (go_at_call 13; refine (write_any N (joinL (ls.take j)) x.m p5 d5 _ HF5.out.hs (HF5.out.env HE.out) (HF5.out.two HE.out) HR5.out HD5.out (by have := HJS.out; have := HN.out; omega)).mono ?_; rintro e w6 ⟨rfl, hh, hO⟩; have HF6 := Lib.hid (show Hq w6 w N (joinL (ls.take (j + 1))) from by rw [HJT.out]; exact HF5.out.wr hh hO); clear hh hO HR5 HD5 HF5))
          clear x0 HF
          obtain ⟨L, eL⟩ : ∃ L, Hid (L = joinL (ls.take (j + 1))) := ⟨_, Lib.hid rfl⟩
          have hI := HF6.out
          rw [← eL.out] at hI
          obtain ⟨S, hS⟩ : ∃ S, Hid (S = sumS L) := ⟨_, Lib.hid rfl⟩
          have HSL := Lib.hid (show S.length = 32 by rw [hS.out]; exact sumS_len _)
          have heq := fun wx => run_eqIn8 S HSL.out wx
          have HTL := Lib.hid (show j + 1 = (ls.take (j + 1)).length by rw [List.length_take]; omega)
          have HLS := Lib.hid (HL.out.take (j + 1))
          have HLL := Lib.hid (show L.length ≤ 80000 by rw [eL.out, HJT.out, List.length_append]; have := HJS.out; have := HN.out; omega)
          have HDB := Lib.hid (hI.on (Below.refl _ _).drew)
          have hsl := fun wx => run_slice_to (P := Tryd.prog) 28 22 Tryd.underlying28 (by kernel_rfl) (some ⟨b, off, none⟩) ls.length c .i64 ((j : Int) + 1) (j + 1) (by simp) (by have := HC.out; omega) wx
          have s1 : IntKind.i64.wrap ((j : Int) + 1) = (j : Int) + 1 := IntWalk.i64_in _ (by omega)
          clear hI HEL HJT HJS HLT
          go_region_held3 (fun _ => True) (exact True.intro)
            (first
              | (go_at_call 14; refine (hsum_eq N L S hS _ HDB.out.hs (HDB.out.env HE.out) (by have := HLL.out; omega)).mono ?_; rintro e wa ⟨rfl, hb9⟩; have HIA := Lib.hid (HDB.out.on hb9); clear hb9)
              | (go_at_call 15; refine (joined_at _ (ls.take (j + 1)) _ _ _ HTL.out (HLS.out.on HIA.out.bel) (by have := HTL.out; have := HN.out; omega) (by rw [← eL.out]; have := HLL.out; omega)).mono ?_; rw [← eL.out]; rintro e wb ⟨qb, db, rfl, hdb, hRb, hb9⟩; have HIB := Lib.hid (HIA.out.on hb9); have HRB := Lib.hid hRb; clear hb9 hRb hdb)
              | (go_at_call 8; refine (rsum_any qb db L _ HRB.out (by have := HLL.out; omega) S hS).mono ?_; rintro e wc ⟨rfl, hb9⟩; have HIC := Lib.hid (HIB.out.on hb9); clear hb9))
          clear hsl s1 HDB HIA HIB HRB
          go_wp2_with fail
          go_roundw
          case rel => exact ⟨j + 1, by omega, by go_num, by rw [← eL.out]; exact HIC.out⟩
          case measure => simp [intOf]; omega
        · obtain rfl : j = ls.length := by omega
          obtain ⟨wq, rfl⟩ : ∃ wq : World, wq = wr := ⟨_, rfl⟩
          have hF := HF.out
          rw [List.take_length] at hF
          obtain ⟨L, eL⟩ : ∃ L, Hid (L = joinL ls) := ⟨_, Lib.hid rfl⟩
          rw [← eL.out] at hF
          obtain ⟨S, hS⟩ : ∃ S, Hid (S = sumS L) := ⟨_, Lib.hid rfl⟩
          have HSL := Lib.hid (show S.length = 32 by rw [hS.out]; exact sumS_len _)
          have heq := fun wx => run_eqIn8 S HSL.out wx
          have HLL := Lib.hid (show L.length ≤ 80000 by rw [eL.out]; have := HJ.out; have := HN.out; omega)
          have HPS := Lib.hid (show Hid (S = sumS (joinL ls)) from Lib.hid (by rw [hS.out, eL.out]))
          clear HF hlt hj HJ
          have HF := Lib.hid hF
          clear hF
          go_wp2_with (first
            | (go_at_call 16; refine (parts_any p ls c _ (HL.out.on HF.out.bel) (HF.out.env HE.out) (by have := HN.out; omega) (by rw [← eL.out]; have := HLL.out; omega) S HPS.out).mono ?_; rintro e wa ⟨rfl, hb9⟩; have HF := Lib.hid (HF.out.on hb9); clear hb9)
            | (go_at_call 15; refine (joined_any p ls c _ (HL.out.on HF.out.bel) (by have := HN.out; omega) (by rw [← eL.out]; have := HLL.out; omega)).mono ?_; rw [← eL.out]; rintro e wb ⟨qb, db, rfl, hdb, hRb, hb9⟩; have HF := Lib.hid (HF.out.on hb9); have HRB := Lib.hid hRb; clear hb9 hRb hdb)
            | (go_at_call 8; refine (rsum_any qb db L _ HRB.out (by have := HLL.out; omega) S hS).mono ?_; rintro e wc ⟨rfl, hb9⟩; have HF := Lib.hid (HF.out.on hb9); clear hb9)
            | (go_at_call 14; refine (hsum_eq N L S hS _ HF.out.hs (HF.out.env HE.out) (by have := HLL.out; omega)).mono ?_; rintro e wd ⟨rfl, hb9⟩; have HF := Lib.hid (HF.out.on hb9); clear hb9))
          go_ret
          exact ⟨by rfl, HF.out.bel⟩
end Go.Proofs.YtjifjpfdfhaflaaDoor
