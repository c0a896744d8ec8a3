/-
  Wam, Wax, Wck, Wcm, joined.
-/
import Derived.Test.YtooiaadnhglifaaDoorJwa
namespace Go.Proofs.YtooiaadnhglifaaDoor
section
set_option linter.unusedVariables false
set_option linter.unusedSimpArgs false
open Go.Maps Go.RowKit

abbrev logB : ByteArray := ⟨#[108, 111, 103]⟩
abbrev snapB : ByteArray := ⟨#[115, 110, 97, 112]⟩
abbrev nextB : ByteArray := ⟨#[110, 101, 120, 116]⟩
theorem recS_lenW (n : Nat) (m : List UInt8) : (recS n m).length = m.length + 17 := by
  simp [recS, numS_len, wendS_len]; omega
set_option maxRecDepth 100000 in
set_option maxHeartbeats 4000000 in
theorem wappend_main (base d lb : Nat) (s : DS) (O : Nat → Prop) (v : Value) (l : List SlA) (q : Option Addr) (n c : Nat) (m : List UInt8) (hn : n = m.length) (hc : m.length ≤ c) (hz : n ≤ 8192) (w : World) (h : Wk w base d lb s O v l false) (hE : Env w) (hl : l.length ≤ 1000000) (hK : Kr w (OwnW O lb v) q m) :
    Calls Tryd.prog 17 #[.pointer (some ⟨lb, 0, none⟩), .slice q n c] w fun r w' => r = .returned (.int .i64 (wAppS ⟨s, l.map (·.m), false⟩ m).2) ∧ AfterW w' w base d lb O v (wAppS ⟨s, l.map (·.m), false⟩ m).1 := by
  have HW := Lib.hid h
  obtain ⟨p, dd, rfl, hd⟩ := h.pl.form
  have c1 := h.bk.bk.cell 1 (.slice p l.length dd) rfl
  have c2 := h.bk.bk.cell 2 (.bool false) rfl
  have k6 : IntKind.i64.wrap ((l.length : Int) + 1) = ((l.length + 1 : Nat) : Int) := by rw [IntWalk.i64_in _ (by omega)]; simp
  have k7 : wrap64 ((l.length : Int) + 1) = ((l.length + 1 : Nat) : Int) := by rw [IntWalk.wrap64_in _ (by omega)]; simp
  have HS := Lib.hid (show wAppS ⟨s, l.map (·.m), false⟩ m = (let a := appS s logN (recS (l.length + 1) m); if a.2 ≠ 0 then (LS.err ⟨s, l.map (·.m), false⟩ a.1 a.2) else let b := syncS a.1 logN; if b.2 ≠ 0 then (LS.err ⟨s, l.map (·.m), false⟩ b.1 b.2) else (⟨b.1, l.map (·.m) ++ [m], false⟩, 0)) by
    unfold wAppS
    rw [if_neg (by simp), if_neg (by omega)]
    simp only [List.length_map])
  have HR := Lib.hid (record_good (l.length + 1) (by omega) (by omega) q n c m hn w hK.rd hc hE hz)
  have HQ := Lib.hid hK
  have HM := Lib.hid (And.intro hn (And.intro hc (And.intro hz hl)))
  clear h hd hE hn hc hz hl hK
  go_enter Tryd.func17, Tryd.ntmps17
  go_upto_region 6 with (go_at_call 10; refine HR.out.mono ?_; rintro r w1 ⟨v1, rfl, ha, hb⟩; obtain ⟨q1, cc1, rfl, hc1, hr1⟩ := ha.rd; have HA1 := Lib.hid (show (Rd0 w1 q1 (recS (l.length + 1) m) ∧ (recS (l.length + 1) m).length ≤ cc1) ∧ (recS (l.length + 1) m = [] ∨ ∀ a, q1 = some a → w.heap.size ≤ a.block) from ⟨⟨hr1, hc1⟩, acc_off ha⟩); have HB1 := Lib.hid hb; have HW1 := Lib.hid (HW.out.on hb); clear ha hb hc1 hr1 c1 c2)
  have HD1 := Lib.hid (show Below w.heap.size w w1.drew from HB1.out.drew)
  have c0 : w1.drew.cell? ⟨lb, 0, none⟩ = some (.pointer (some ⟨d, 0, none⟩)) := (HW1.out.on (Below.refl _ _).drew).bk.bk.cell 0 _ rfl
  have HLX := Lib.hid (show lb < w1.heap.size from HW1.out.bk.bk.lt)
  have HL1 := Lib.hid (show (recS (l.length + 1) m).length ≤ 1000000000000 by rw [recS_lenW]; have := HM.out; omega)
  go_cut [7] (fun s7 wx => ∃ e, s7 = .int .i64 e ∧ Hid (AppD base d lb s O (.slice p l.length dd) l w logB (recS (l.length + 1) m) e wx))
  case first =>
    go_region_held3 (fun X => X.cell? ⟨lb, 0, none⟩ = some (.pointer (some ⟨d, 0, none⟩))) (first | exact c0 | exact HC2.out | exact HC3.out | exact HC5.out | go_keep)
      (first
        | (go_at_call 32; refine (append_do base d lb s O _ l w HW.out logB (by decide) q1 (recS (l.length + 1) m) _ cc1 rfl HA1.out.1.2 HL1.out (w3.alloc (.cells #[.func (.func 57) #[] #[ptrV b0, ptrV b1, ptrV b2], .func (.func 53) #[] #[ptrV d0, ptrV d1]] _)) (HBW3.out.1.trans ((below1 _ _).mono HBW3.out.1.size)) b0 b1 b2 d0 d1 T0 T1 T2 S0 S1 w3.heap.size _ _ HLO.out ((HK2.out.1.1.on HB3.out).on (below1 _ _)) ((HK2.out.1.2.1.on HB3.out).on (below1 _ _)) ((HK2.out.1.2.2.on HB3.out).on (below1 _ _)) (HK3.out.1.1.on (below1 _ _)) (HK3.out.1.2.on (below1 _ _)) (Bk.new _ _ _) (HA1.out.1.1.on (HBW3.out.2.trans ((below1 _ _).mono HBW3.out.2.size))) HA1.out.2).mono ?_; rintro r w5 ⟨e, rfl, hd⟩; have HD := Lib.hid hd; have HC5 := Lib.hid (show w5.cell? ⟨lb, 0, none⟩ = some (.pointer (some ⟨d, 0, none⟩)) by rcases hd with ⟨_, _, _, O', hw, _⟩ | ⟨_, _, O', hw, _⟩ | ⟨_, _, _, O', hw, _⟩ <;> exact hw.bk.bk.cell 0 _ rfl); clear hd)
        | (go_at_call 34; refine (on_mk _ _ _ logB _).mono ?_; rintro r w3 ⟨d0, d1, S0, S1, rfl, hd0, hd1, kd0, kd1, hb⟩; have HK3 := Lib.hid (And.intro (And.intro kd0 kd1) (And.intro hd0 hd1)); have HB3 := Lib.hid hb; have HBW3 := Lib.hid (show Below w.heap.size w w3 ∧ Below w1.heap.size w1 w3 from ⟨HBW2.out.1.trans (hb.mono HBW2.out.1.size), HBW2.out.2.trans (hb.mono HBW2.out.2.size)⟩); have HLO := Lib.hid (show w.heap.size ≤ b0 ∧ w.heap.size ≤ b1 ∧ w.heap.size ≤ b2 ∧ w.heap.size ≤ d0 ∧ w.heap.size ≤ d1 ∧ w.heap.size ≤ w3.heap.size from ⟨Nat.le_trans HD1.out.size HK2.out.2.1, Nat.le_trans HD1.out.size HK2.out.2.2.1, Nat.le_trans HD1.out.size HK2.out.2.2.2, Nat.le_trans HBW2.out.1.size hd0, Nat.le_trans HBW2.out.1.size hd1, HBW3.out.1.size⟩); have HC3 := Lib.hid (show w3.cell? ⟨lb, 0, none⟩ = some (.pointer (some ⟨d, 0, none⟩)) from (hb.cell (p := ⟨lb, 0, none⟩) (Nat.lt_of_lt_of_le HLX.out (by have := HB2.out.size; simpa using this))).trans HC2.out); clear hd0 hd1 kd0 kd1 hb)
        | (go_at_call 38; refine (withB_mk _ _ _ logB _ _ _ _).mono ?_; rintro r w2 ⟨b0, b1, b2, T0, T1, T2, rfl, hb0, hb1, hb2, kb0, kb1, kb2, hb⟩; have HK2 := Lib.hid (And.intro (And.intro kb0 (And.intro kb1 kb2)) (And.intro hb0 (And.intro hb1 hb2))); have HB2 := Lib.hid hb; have HBW2 := Lib.hid (show Below w.heap.size w w2 ∧ Below w1.heap.size w1 w2 from ⟨HD1.out.trans (hb.mono HD1.out.size), ((Below.refl _ _).drew).trans (hb.mono (by simp))⟩); have HC2 := Lib.hid (show w2.cell? ⟨lb, 0, none⟩ = some (.pointer (some ⟨d, 0, none⟩)) from (hb.cell (p := ⟨lb, 0, none⟩) (by simpa using HLX.out)).trans c0); clear hb0 hb1 hb2 kb0 kb1 kb2 hb))
    all_goals
      go_wp2_with fail
      go_meet
      exact ⟨_, rfl, HD⟩
  obtain ⟨e, rfl, HD⟩ := hcut
  clear HA1 c0 HD1 HB1 HW1 HR k6 k7
  rcases HD.out with ⟨rfl, he1, he2, O', hw, hf⟩ | ⟨he, he1, O', hw, hf⟩ | ⟨he, he1, he2, O', hw, hf⟩
  · have HS2 := Lib.hid (show wAppS ⟨s, l.map (·.m), false⟩ m = (⟨(syncS (appS s logN (recS (l.length + 1) m)).1 logN).1, l.map (·.m) ++ [m], false⟩, 0) by
      rw [HS.out, if_neg (by rw [he1]; simp), if_neg (by rw [he2]; simp)])
    generalize (syncS (appS s logN (recS (l.length + 1) m)).1 logN).1 = s2 at *
    have hw2 : Wk wc base d lb s2 O' (.slice p l.length dd) l false := by
      have e := HS2
      exact hw
    have HW5 := Lib.hid hw2
    have HF5 := Lib.hid hf
    have HQ5 := Lib.hid (HQ.out.fr hf)
    have c1 := hw2.bk.bk.cell 1 _ rfl
    have s1 := hw2.bk.bk.soft 1
    clear HD HS he1 he2 hw hw2 hf HQ HLX
    go_upto_region 9 with fail
    have HLX := Lib.hid (show lb < wc.heap.size from HW5.out.bk.bk.lt)
    have HNX := Lib.hid (show some lb ≠ (Value.slice p l.length dd).ownBlock from fun e => (HW5.out.nv lb e.symm).2 rfl)
    go_cut [] (fun wx => Hid (AfterW wx w base d lb O (.slice p l.length dd) ⟨s2, l.map (·.m) ++ [m], false⟩))
    case first =>
      go_region_law (first
        | (refine step_plG rfl _ _ rfl base (.slice p l.length dd) l rfl (HW5.out.on (HB8.out _)).pl ⟨q7, c7, m⟩ w7.heap.size _ _ rfl rfl ((Bk.new w7 _ _).cell 0 _ rfl) (HR7.out.1.on (below1 _ _)) HR7.out.2 (fun g hg => HA7.out.imp id (fun h b hb e => by have h1 := h b hb; have h2 := (HW5.out.pl.own.lt g hg).2; rw [e] at h1; simp at h1; omega)) HM.out.2.2.2 (Nat.le_trans (Nat.le_of_lt (Nat.lt_of_le_of_lt HW5.out.hlb HLX.out)) (HB8.out _).size) ?_; intro p9 c9 w9 hp hg hv; have HP9 := Lib.hid hp; have HG9 := Lib.hid hg; have HV9 := Lib.hid hv; have q1 := (hg.cell_far ⟨lb, 1, none⟩ (Nat.lt_of_lt_of_le HLX.out (HB8.out _).size) HNX.out).trans (y1 _); have q2 := hg.frozen_far ⟨lb, 1, none⟩ (Nat.lt_of_lt_of_le HLX.out (HB8.out _).size) HNX.out; rw [(HB8.out _).frozen (p := ⟨lb, 1, none⟩) HLX.out, s1] at q2; clear hp hg hv)
        | (go_simp; go_at_call 30; refine (cloneX q n c m HM.out.1 _ (HQ5.out.rd.on (Below.refl _ _).drew) (by have := HM.out; omega)).mono ?_; rintro r w7 ⟨v7, rfl, ha, hb⟩; obtain ⟨q7, c7, rfl, hc7, hr7⟩ := ha.rd; have HB7 := Lib.hid (show Below wc.heap.size wc w7 from (Below.refl _ _).drew.trans (hb.mono (by simp))); have HA7 := Lib.hid (acc_off ha); have HR7 := Lib.hid (And.intro hr7 hc7); have y0 : w7.cell? ⟨lb, 1, none⟩ = some (.slice p l.length dd) := (HB7.out.cell (p := ⟨lb, 1, none⟩) HLX.out).trans c1; have y1 : ∀ o, (w7.alloc o).cell? ⟨lb, 1, none⟩ = some (.slice p l.length dd) := fun o => ((below1 w7 o).cell (p := ⟨lb, 1, none⟩) (Nat.lt_of_lt_of_le HLX.out HB7.out.size)).trans y0; have HB8 := Lib.hid (fun o => HB7.out.trans ((below1 w7 o).mono HB7.out.size)); clear ha hb hc7 hr7))
      all_goals
        have hF := (HW5.out.on (HB8.out (.cells #[.slice q7 m.length c7] 22))).payed HG9.out HP9.out HV9.out (fun x hx => (List.mem_append.1 hx).imp id (fun h => by
          obtain rfl := List.mem_singleton.1 h
          refine HA7.out.imp id (fun h a ha => ?_)
          have h1 : wc.heap.size ≤ a.block := h a ha
          exact ⟨fun ho => by have h2 := (HW5.out.dk.lt _ ho).1; omega, fun e => by have h2 := HLX.out; omega⟩))
        have HF := Lib.hid (show AfterW _ w base d lb O (.slice p l.length dd) ⟨s2, l.map (·.m) ++ [m], false⟩ from ⟨O', _, _, hF.1, by simp, HF5.out.trans ((Fr.of _ (HB8.out _)).trans hF.2)⟩)
        clear hF
        go_wp2_with fail
        go_meet
        exact HF
    go_wp2_with fail
    go_ret
    rw [HS2.out]
    exact ⟨by rfl, hcut.out⟩
  · have HS2 := Lib.hid (show wAppS ⟨s, l.map (·.m), false⟩ m = (⟨(appS s logN (recS (l.length + 1) m)).1, l.map (·.m), e == 20⟩, e) by
      rw [HS.out, if_pos (by rw [he1]; exact he), LS.err, he1, Bool.false_or])
    have HA := Lib.hid (show AfterW wc w base d lb O (.slice p l.length dd) ⟨(appS s logN (recS (l.length + 1) m)).1, l.map (·.m), e == 20⟩ from ⟨O', _, l, hw, rfl, hf⟩)
    have z0 : (e != 0) = true := by simpa [bne_iff_ne] using he
    clear HD HS he he1 hw hf
    go_wp2_with fail
    go_ret
    rw [HS2.out]
    exact ⟨by rfl, HA.out⟩
  · have HS2 := Lib.hid (show wAppS ⟨s, l.map (·.m), false⟩ m = (⟨(syncS (appS s logN (recS (l.length + 1) m)).1 logN).1, l.map (·.m), e == 20⟩, e) by
      rw [HS.out, if_neg (by rw [he1]; simp), if_pos (by rw [he2]; exact he), LS.err, he2, Bool.false_or])
    have HA := Lib.hid (show AfterW wc w base d lb O (.slice p l.length dd) ⟨(syncS (appS s logN (recS (l.length + 1) m)).1 logN).1, l.map (·.m), e == 20⟩ from ⟨O', _, l, hw, rfl, hf⟩)
    have z0 : (e != 0) = true := by simpa [bne_iff_ne] using he
    clear HD HS he he1 he2 hw hf
    go_wp2_with fail
    go_ret
    rw [HS2.out]
    exact ⟨by rfl, HA.out⟩
end
section
set_option linter.unusedVariables false
set_option linter.unusedSimpArgs false
open Go.RowKit

set_option maxRecDepth 100000 in
set_option maxHeartbeats 2000000 in
theorem appendedX (base : Nat) (v : Value) (xs : List UInt8) (hxs : xs.length ≤ 10000000) (n : Nat) (hn : n < 9223372036854775808) (q : Option Addr) (k c : Nat) (m : List UInt8) (hk : k = m.length) (w : World) (hA : Acc w base v xs) (hR : Rd0 w q m) (hq : m = [] ∨ ∀ b, q = some b → b.block < base) (hc : m.length ≤ c) (hE : Env w) (hb0 : 0 + 1 + 1 ≤ base) (hbase : base ≤ w.heap.size) (hz : m.length ≤ 1000000000) :
    Calls Tryd.prog 24 #[v, .int .i64 n, .slice q k c] w fun e w' => ∃ v', e = .returned v' ∧ Acc w' base v' (xs ++ recS n m) ∧ Below base w w' := by
  obtain ⟨N1, hN1⟩ : ∃ N1, N1 = 8 + k := ⟨_, rfl⟩
  have s1 : IntKind.i64.wrap (8 + (k : Int)) = (N1 : Int) := by rw [IntWalk.i64_in _ (by omega)]; omega
  have s2 : IntKind.u64.wrap (N1 : Int) = (N1 : Int) := IntWalk.u64_in _ (by omega)
  have s3 : IntKind.u64.wrap (n : Int) = (n : Int) := IntWalk.u64_in _ (by omega)
  obtain ⟨L4, hL4⟩ : ∃ L4, L4 = xs.length + 4 := ⟨_, rfl⟩
  have HL4 := Lib.hid hL4
  have HXS := Lib.hid hxs
  have HA := Lib.hid hA
  have HR := Lib.hid hR
  have HQ := Lib.hid hq
  have HC := Lib.hid hc
  have HE := Lib.hid hE
  have HB := Lib.hid hb0
  have HBA := Lib.hid hbase
  have HZ := Lib.hid hz
  have HK := Lib.hid hk
  have HN1 := Lib.hid hN1
  have HN := Lib.hid hn
  clear hA hR hq hc hE hb0 hbase hz hk hN1 hn hL4 hxs
  go_enter Tryd.func24, Tryd.ntmps24
  go_upto_region 2 with (first
    | (go_at_call 47; refine (number_any base _ xs 4 N1 _ HA.out HBA.out (by omega) (by have := HXS.out; omega)).mono ?_; rintro r w1 ⟨v1, rfl, hA1, hb1⟩; have HA1 := Lib.hid hA1; have HB1 := Lib.hid hb1; clear hA1 hb1))
  obtain ⟨p1, d1, rfl, hd1⟩ := HA1.out.form L4 (by rw [List.length_append, numS_len]; exact HL4.out)
  have HS1 := Lib.hid (Nat.le_trans HBA.out HB1.out.size)
  go_upto_region 4 with (first
    | (go_at_call 47; refine (number_any base _ (xs ++ numS N1 4) 8 n _ HA1.out HS1.out (by omega) (by rw [List.length_append, numS_len]; have := HXS.out; omega)).mono ?_; rintro r w2 ⟨v2, rfl, hA2, hb2⟩; have HA2 := Lib.hid hA2; have HB2 := Lib.hid (HB1.out.trans hb2); clear hA2 hb2))
  have HS2 := Lib.hid (Nat.le_trans HBA.out HB2.out.size)
  have HR2 := Lib.hid (HR.out.under HQ.out HB2.out HB2.out.size)
  clear HA HA1 HB1 HS1
  go_upto_region 5 with (refine wpList_app8 rfl _ _ rfl rfl base _ _ rfl HA2.out q m k c rfl HK.out HR2.out (by simp only [List.length_append, numS_len]; have := HZ.out; have := HXS.out; omega) HS2.out ?_; intro v3 w3 hA3 hb3; have HA3 := Lib.hid hA3; have HB3 := Lib.hid (HB2.out.trans hb3); clear hA3 hb3)
  obtain ⟨M3, hM3⟩ : ∃ M3, M3 = (xs ++ numS N1 4 ++ numS n 8 ++ m).length := ⟨_, rfl⟩
  have HM := Lib.hid (show M3 = xs.length + 12 + k by rw [hM3]; simp only [List.length_append, numS_len]; have := HK.out; omega)
  obtain ⟨p3, d3, rfl, hd3, hr3⟩ := HA3.out.rd
  rw [← hM3] at hd3
  have hA3 := HA3.out
  rw [← hM3] at hA3
  have HAA := Lib.hid hA3
  clear hA3
  simp only [← hM3]
  have HD3 := Lib.hid hd3
  have HS3 := Lib.hid (Nat.le_trans HBA.out HB3.out.size)
  have hsl := fun wx => run_slice_fromQ (P := Tryd.prog) 22 5 Tryd.underlying22 (by kernel_rfl) p3 M3 d3 .i64 (L4 : Int) L4 rfl (by have := HM.out; have := HL4.out; omega) wx
  have HDR := Lib.hid (show (xs ++ numS N1 4 ++ numS n 8 ++ m).drop L4 = numS n 8 ++ m by rw [List.append_assoc, List.drop_left' (by rw [List.length_append, numS_len]; exact HL4.out.symm)])
  have hrd := hr3.drop L4 d3 (by rw [← hM3]; exact hd3)
  rw [HDR.out] at hrd
  have HRD := Lib.hid hrd
  have HEN := Lib.hid (wending_any (fromQ p3 d3 L4) (M3 - L4) (d3 - L4) (numS n 8 ++ m) (by rw [List.length_append, numS_len]; have := HM.out; have := HL4.out; have := HK.out; omega) w3 HRD.out (by rw [List.length_append, numS_len]; have := HM.out; have := HL4.out; have := HK.out; have := HD3.out; omega) (HE.out.on HB3.out HB.out) (by rw [List.length_append, numS_len]; have := HZ.out; omega))
  have HREC := Lib.hid (show xs ++ recS n m = (xs ++ numS N1 4 ++ numS n 8 ++ m) ++ wendS (numS n 8 ++ m) by rw [recS, ← HK.out, ← HN1.out]; simp only [List.append_assoc])
  clear hr3 hrd HA2 HB2 HR2 HS2 hM3 hd3
  go_wp2_with (first
    | (go_at_call 48; refine HEN.out.mono ?_; rintro r w4 ⟨p4, d4, rfl, hd4, hr4, hb4⟩; have HR4 := Lib.hid hr4; have HB4 := Lib.hid hb4; clear hr4 hb4)
    | (refine wpList_app8 rfl _ _ rfl rfl base _ _ rfl (HAA.out.on HS3.out HB4.out) p4 (wendS (numS n 8 ++ m)) 5 d4 rfl (by rw [wendS_len]) HR4.out (by simp only [List.length_append, numS_len, wendS_len]; have := HZ.out; have := HXS.out; omega) (Nat.le_trans HS3.out HB4.out.size) ?_; intro v5 w5 hA5 hb5; have HA5 := Lib.hid hA5; have HB5 := Lib.hid (HB3.out.trans ((HB4.out.mono HS3.out).trans hb5)); clear hA5 hb5))
  go_ret
  exact ⟨_, rfl, by rw [HREC.out]; exact HA5.out, HB5.out⟩
end
section
set_option linter.unusedVariables false
set_option linter.unusedSimpArgs false
open Go.Maps Go.RowKit

section
variable {w : World} {base d lb : Nat} {O0 : Nat → Prop} {v : Value} {l : List SlA} {ks : List (Nat × TypeId × Array Value)} {rs : List (Option Addr × List UInt8)} {dn : Bool} {X : World} {s : DS}
/-- an act that is done if there is its file -/
theorem Cx.ifThere (h : Cx w base d lb O0 v l ks rs dn X s) (b0 T0 f : Nat) (bs fs : Array Value) (hcal : Cal Tryd.prog f) (h0 : (b0, T0, #[.func (.func f) bs fs]) ∈ ks) (e : Int) (s' : DS)
    (hc : Calls Tryd.prog f (bs ++ fs) X fun r X' => ∃ e', r = .returned (.int .i64 e') ∧ (e' = e ∧ Cx w base d lb O0 v l ks rs dn X' s')) :
    Calls Tryd.prog 52 #[ptrV b0] X fun r X' => ∃ e', r = .returned (.int .i64 e') ∧ (e' = thereE e ∧ Cx w base d lb O0 v l ks rs dn X' s') :=
  (ifThere1_any b0 f bs fs X hcal (h.cell b0 T0 _ h0 0 _ rfl) (fun _ X' e' => e' = e ∧ Cx w base d lb O0 v l ks rs dn X' s') hc).mono fun r X' ⟨e', h1, h2, h3⟩ => ⟨thereE e', h1, by rw [h2], h3⟩
end
/-- what Checkpoint's acts leave: behind the first that failed, or all -/
def ChkD (base d lb : Nat) (s : DS) (O : Nat → Prop) (v : Value) (l : List SlA) (w : World) (m : List UInt8) (e : Int) (w' : World) : Prop :=
  ∃ s', (e, s') = (let a := appS s nextN m; if a.2 ≠ 0 then (a.2, a.1) else let b := syncS a.1 nextN; if b.2 ≠ 0 then (b.2, b.1) else let c := renS b.1 nextN snapN; if c.2 ≠ 0 then (c.2, c.1) else let x := cutS c.1 logN 0; (thereE x.2, x.1)) ∧
    ∃ O', Wk w' base d lb s' O' v l (e == 20) ∧ Fr w w' (OwnW O lb v) (OwnW O' lb v)
theorem chk_do (base d lb : Nat) (s : DS) (O : Nat → Prop) (v : Value) (l : List SlA) (w : World) (hw : Wk w base d lb s O v l false) (q : Option Addr) (m : List UInt8) (n c : Nat) (hn : n = m.length) (hc : m.length ≤ c) (hz : n ≤ 1000000000000)
    (X : World) (hX : Below w.heap.size w X) (a0 a1 a2 b0 b1 c0 c1 c2 d0 d1 d2 f0 A0 A1 A2 B0 B1 C0 C1 C2 D0 D1 D2 F0 ab ca T : Nat)
    (lo : ∀ b ∈ [a0, a1, a2, b0, b1, c0, c1, c2, d0, d1, d2, f0, ab], w.heap.size ≤ b)
    (kk : ∀ x ∈ ([(a0, A0, #[fnV 39 d]), (a1, A1, #[.string nextB]), (a2, A2, #[.slice q n c]), (b0, B0, #[fnV 40 d]), (b1, B1, #[.string nextB]), (c0, C0, #[fnV 42 d]), (c1, C1, #[.string nextB]), (c2, C2, #[.string snapB]), (d0, D0, #[fnV 44 d]), (d1, D1, #[.string logB]), (d2, D2, #[.int .i64 0]), (f0, F0, #[.func (.func 63) #[] #[ptrV d0, ptrV d1, ptrV d2]]),
      (ab, T, #[.func (.func 57) #[] #[ptrV a0, ptrV a1, ptrV a2], .func (.func 53) #[] #[ptrV b0, ptrV b1], .func (.func 61) #[] #[ptrV c0, ptrV c1, ptrV c2], .func (.func 52) #[] #[ptrV f0]])] : List (Nat × TypeId × Array Value)), Bk X x.1 x.2.1 x.2.2)
    (hr : Rd0 X q m) (hq : m = [] ∨ ∀ a, q = some a → w.heap.size ≤ a.block) :
    Calls Tryd.prog 32 #[.pointer (some ⟨lb, 0, none⟩), .slice (some ⟨ab, 0, none⟩) 4 ca] X fun r w' => ∃ e, r = .returned (.int .i64 e) ∧ ChkD base d lb s O v l w m e w' := by
  have hno : ∀ b, w.heap.size ≤ b → ¬ O b := fun b hb e => by have := (hw.dk.lt b e).1; omega
  obtain ⟨ks, hks⟩ : ∃ ks : List (Nat × TypeId × Array Value), ks = [(a0, A0, #[fnV 39 d]), (a1, A1, #[.string nextB]), (a2, A2, #[.slice q n c]), (b0, B0, #[fnV 40 d]), (b1, B1, #[.string nextB]), (c0, C0, #[fnV 42 d]), (c1, C1, #[.string nextB]), (c2, C2, #[.string snapB]), (d0, D0, #[fnV 44 d]), (d1, D1, #[.string logB]), (d2, D2, #[.int .i64 0]), (f0, F0, #[.func (.func 63) #[] #[ptrV d0, ptrV d1, ptrV d2]]),
      (ab, T, #[.func (.func 57) #[] #[ptrV a0, ptrV a1, ptrV a2], .func (.func 53) #[] #[ptrV b0, ptrV b1], .func (.func 61) #[] #[ptrV c0, ptrV c1, ptrV c2], .func (.func 52) #[] #[ptrV f0]])] := ⟨_, rfl⟩
  rw [← hks] at kk
  have hlo : ∀ x ∈ ks, w.heap.size ≤ x.1 := by
    intro x hx
    refine lo x.1 ?_
    have := List.mem_map_of_mem (f := fun x => x.1) hx
    rw [hks] at this
    simpa using this
  have hC : Cx w base d lb O v l ks [(q, m)] false X s := by
    refine ⟨⟨O, hw.on hX, Fr.of _ hX, fun x hx => ⟨kk x hx, hno _ (hlo x hx)⟩, fun y hy => ?_⟩⟩
    obtain rfl : y = (q, m) := by simpa using hy
    exact ⟨hr, hq.imp id (fun h a ha => hno _ (h a ha))⟩
  have m0 : (a0, A0, #[fnV 39 d]) ∈ ks := by rw [hks]; simp
  have m1 : (a1, A1, #[.string nextB]) ∈ ks := by rw [hks]; simp
  have m2 : (a2, A2, #[.slice q n c]) ∈ ks := by rw [hks]; simp
  have m3 : (b0, B0, #[fnV 40 d]) ∈ ks := by rw [hks]; simp
  have m4 : (b1, B1, #[.string nextB]) ∈ ks := by rw [hks]; simp
  have m5 : (c0, C0, #[fnV 42 d]) ∈ ks := by rw [hks]; simp
  have m6 : (c1, C1, #[.string nextB]) ∈ ks := by rw [hks]; simp
  have m7 : (c2, C2, #[.string snapB]) ∈ ks := by rw [hks]; simp
  have m8 : (d0, D0, #[fnV 44 d]) ∈ ks := by rw [hks]; simp
  have m9 : (d1, D1, #[.string logB]) ∈ ks := by rw [hks]; simp
  have m10 : (d2, D2, #[.int .i64 0]) ∈ ks := by rw [hks]; simp
  have m11 : (f0, F0, #[.func (.func 63) #[] #[ptrV d0, ptrV d1, ptrV d2]]) ∈ ks := by rw [hks]; simp
  have m12 : (ab, T, #[.func (.func 57) #[] #[ptrV a0, ptrV a1, ptrV a2], .func (.func 53) #[] #[ptrV b0, ptrV b1], .func (.func 61) #[] #[ptrV c0, ptrV c1, ptrV c2], .func (.func 52) #[] #[ptrV f0]]) ∈ ks := by rw [hks]; simp
  clear hks kk hlo lo
  refine (do_chain w base d lb O v l ks [(q, m)] false (fun i => match i with | 0 => s | 1 => (appS s nextN m).1 | 2 => (syncS (appS s nextN m).1 nextN).1 | 3 => (renS (syncS (appS s nextN m).1 nextN).1 nextN snapN).1 | _ => (cutS (renS (syncS (appS s nextN m).1 nextN).1 nextN snapN).1 logN 0).1)
    (fun i => match i with | 0 => (appS s nextN m).2 | 1 => (syncS (appS s nextN m).1 nextN).2 | 2 => (renS (syncS (appS s nextN m).1 nextN).1 nextN snapN).2 | _ => thereE (cutS (renS (syncS (appS s nextN m).1 nextN).1 nextN snapN).1 logN 0).2) 4 ca ab (by omega) T _
    (fun i => match i with | 0 => 57 | 1 => 53 | 2 => 61 | _ => 52) (fun _ => #[]) (fun i => match i with | 0 => #[ptrV a0, ptrV a1, ptrV a2] | 1 => #[ptrV b0, ptrV b1] | 2 => #[ptrV c0, ptrV c1, ptrV c2] | _ => #[ptrV f0]) m12 ?_ ?_ ?_ X hC).mono ?_
  · intro i hi
    match i, hi with
    | 0, _ => rfl
    | 1, _ => rfl
    | 2, _ => rfl
    | 3, _ => rfl
  · intro i hi
    match i, hi with
    | 0, _ => exact cal_withB
    | 1, _ => exact cal_on
    | 2, _ => exact cal_withS
    | 3, _ => exact cal_ifThere
  · intro i Y hi hY
    match i, hi with
    | 0, _ => exact hY.append a0 a1 a2 A0 A1 A2 nextB (by decide) q m n c hn hc hz m0 m1 m2 (by simp)
    | 1, _ => exact hY.sync b0 b1 B0 B1 nextB (by decide) m3 m4
    | 2, _ => exact hY.rename c0 c1 c2 C0 C1 C2 nextB snapB (by decide) (by decide) m5 m6 m7
    | 3, _ => exact hY.ifThere f0 F0 63 #[] #[ptrV d0, ptrV d1, ptrV d2] cal_withI m11 _ _ (hY.cut d0 d1 d2 D0 D1 D2 logB (by decide) 0 m8 m9 m10)
  · rintro r w' ⟨e, rfl, ⟨rfl, h1, h2⟩ | ⟨h1, i, hi, h2, h3, O', h4, h5⟩⟩
    · obtain ⟨O', h4, h5, _⟩ := h2.ex
      have e0 := h1 0 (by omega)
      have e1 := h1 1 (by omega)
      have e2 := h1 2 (by omega)
      have e3 := h1 3 (by omega)
      simp only at e0 e1 e2 e3
      refine ⟨0, rfl, _, ?_, O', h4, h5⟩
      simp only [e0, e1, e2, e3, ne_eq, not_true_eq_false, if_false]
    · rw [Bool.false_or] at h4
      match i, hi with
      | 0, _ =>
        refine ⟨e, rfl, _, ?_, O', h4, h5⟩
        simp only at h3
        rw [show appS s nextN m = ((appS s nextN m).1, e) from by rw [← h3]]
        simp only [ne_eq, h1, not_false_eq_true, if_true]
      | 1, _ =>
        have e0 := h2 0 (by omega)
        refine ⟨e, rfl, _, ?_, O', h4, h5⟩
        simp only at h3 e0
        simp only [e0, h3, ne_eq, h1, not_true_eq_false, not_false_eq_true, if_true, if_false]
      | 2, _ =>
        have e0 := h2 0 (by omega)
        have e1 := h2 1 (by omega)
        refine ⟨e, rfl, _, ?_, O', h4, h5⟩
        simp only at h3 e0 e1
        simp only [e0, e1, h3, ne_eq, h1, not_true_eq_false, not_false_eq_true, if_true, if_false]
      | 3, _ =>
        have e0 := h2 0 (by omega)
        have e1 := h2 1 (by omega)
        have e2 := h2 2 (by omega)
        refine ⟨e, rfl, _, ?_, O', h4, h5⟩
        simp only at h3 e0 e1 e2
        simp only [e0, e1, e2, h3, ne_eq, h1, not_true_eq_false, not_false_eq_true, if_true, if_false]
end
section
set_option linter.unusedVariables false
set_option linter.unusedSimpArgs false
open Go.Maps Go.RowKit

theorem ESx : Enc encS 1 := ⟨fun _ => rfl, by decide, fun x u hu => by
  simp only [encS, List.mem_singleton] at hu
  subst hu; rfl⟩
theorem recsS_snoc : ∀ (l : List (List UInt8)) (i : Nat) (m : List UInt8), recsS i (l ++ [m]) = recsS i l ++ recS (i + l.length + 1) m
  | [], i, m => by simp [recsS]
  | x :: r, i, m => by
    simp only [List.cons_append, recsS, recsS_snoc r (i + 1) m, List.append_assoc, List.length_cons]
    rw [show i + 1 + r.length + 1 = i + (r.length + 1) + 1 by omega]
theorem recsS_take (l : List (List UInt8)) (k : Nat) (h : k < l.length) : recsS 0 (l.take (k + 1)) = recsS 0 (l.take k) ++ recS (k + 1) l[k] := by
  rw [List.take_succ_eq_append_getElem h, recsS_snoc, List.length_take, Nat.min_eq_left (Nat.le_of_lt h), Nat.zero_add]
theorem recsS_le : ∀ (l : List (List UInt8)) (i k : Nat), (recsS i (l.take k)).length ≤ (recsS i l).length
  | [], i, k => by simp
  | x :: r, i, 0 => by simp [recsS]
  | x :: r, i, k + 1 => by
    simp only [List.take_succ_cons, recsS, List.length_append]
    have := recsS_le r (i + 1) k
    omega
set_option maxRecDepth 100000 in
set_option maxHeartbeats 8000000 in
theorem wchk_any (base d lb : Nat) (s : DS) (O : Nat → Prop) (v : Value) (l : List SlA) (dn : Bool) (w : World) (h : Wk w base d lb s O v l dn) (hE : Env w) (hE0 : 0 + 1 + 1 ≤ w.heap.size) (hl : l.length ≤ 1000000) (hz : (recsS 0 (l.map (·.m))).length ≤ 10000000) :
    Calls Tryd.prog 18 #[.pointer (some ⟨lb, 0, none⟩)] w fun r w' => r = .returned (.int .i64 (wChkS ⟨s, l.map (·.m), dn⟩).2) ∧ AfterW w' w base d lb O v (wChkS ⟨s, l.map (·.m), dn⟩).1 := by
  have HW := Lib.hid h
  obtain ⟨p, dd, rfl, hd⟩ := h.pl.form
  have c1 := h.bk.bk.cell 1 (.slice p l.length dd) rfl
  have c2 := h.bk.bk.cell 2 (.bool dn) rfl
  cases dn with
  | true =>
    have HS := Lib.hid (show wChkS ⟨s, l.map (·.m), true⟩ = (⟨s, l.map (·.m), true⟩, 20) by unfold wChkS; rw [if_pos rfl])
    clear h hd hE hE0 hl hz
    go_enter Tryd.func18, Tryd.ntmps18
    go_wp2_with fail
    go_ret
    rw [HS.out]
    exact ⟨by rfl, HW.out.after (Below.refl _ _)⟩
  | false =>
    have HZ := Lib.hid hz
    have HL := Lib.hid hl
    have HE := Lib.hid hE
    have HE0 := Lib.hid hE0
    clear h hd hE hE0 hl hz
    go_enter Tryd.func18, Tryd.ntmps18
    go_wp2_with fail
    go_loopw [3, 19] (fun a i wr => ∃ k : Nat, k ≤ l.length ∧ i = .int .i64 (k : Int) ∧ Hid (Acc wr w.heap.size a (recsS 0 ((l.map (·.m)).take k)) ∧ Below w.heap.size w wr)) (fun _ i _ => l.length - (intOf i).toNat)
    case atStart => exact ⟨0, Nat.zero_le _, rfl, Lib.hid ⟨acc_nil, Below.refl _ _⟩⟩
    case round =>
      obtain ⟨k, hk, rfl, HI⟩ := hrel
      have k0 : (0 : Int) ≤ (k : Int) := by omega
      by_cases hlt : k < l.length
      · have k1 : (k : Int) < (l.length : Int) := by omega
        have k6 : IntKind.i64.wrap ((k : Int) + 1) = ((k + 1 : Nat) : Int) := by rw [IntWalk.i64_in _ (by have := HL.out; omega)]; simp
        have k7 : wrap64 ((k : Int) + 1) = ((k + 1 : Nat) : Int) := by rw [IntWalk.wrap64_in _ (by have := HL.out; omega)]; simp
        have hWr := HW.out.on HI.out.2
        obtain ⟨g, cap, he, hge, hgl⟩ := hWr.pl.own.form (by omega)
        cases he
        have hcell : wr.cell? ⟨g, k, none⟩ = some (.slice l[k].q l[k].m.length l[k].c) := by
          have := hWr.pl.own.cells (g := g) rfl k (.slice l[k].q l[k].m.length l[k].c) (by have h := flatE_get ESx l k hlt 0 (by decide); simpa [encS] using h)
          rwa [Addr.add_mid, Nat.zero_add] at this
        obtain ⟨hx1, hx2⟩ := hWr.pl.ok l[k] (List.getElem_mem hlt)
        have hlow := ((HW.out.pl.ok l[k] (List.getElem_mem hlt)).1.lt)
        have HT := Lib.hid (show recsS 0 ((l.map (·.m)).take (k + 1)) = recsS 0 ((l.map (·.m)).take k) ++ recS (k + 1) l[k].m by rw [recsS_take _ _ (by simpa using hlt)]; simp)
        have HLE := Lib.hid (show (recsS 0 ((l.map (·.m)).take (k + 1))).length ≤ 10000000 from Nat.le_trans (recsS_le _ _ _) HZ.out)
        have HX := Lib.hid (And.intro (And.intro hx1 hx2) hlow)
        generalize l[k] = x at *
        clear hWr hx1 hx2 hlow
        have HC := Lib.hid (appendedX w.heap.size u3 (recsS 0 ((l.map (·.m)).take k)) (by have h1 := HT.out; have h2 := HLE.out; rw [h1, List.length_append] at h2; omega) (k + 1) (by have := HL.out; omega) x.q x.m.length x.c x.m rfl wr HI.out.1 HX.out.1.1 HX.out.2 HX.out.1.2 (HE.out.on HI.out.2 HE0.out) HE0.out HI.out.2.size (by have h1 := HT.out; have h2 := HLE.out; rw [h1, List.length_append, recS_lenW] at h2; omega))
        clear c1 c2 HX
        go_wp2_with (go_at_call 24; refine HC.out.mono ?_; rintro r w2 ⟨v2, rfl, ha, hb⟩; have HI2 := Lib.hid (And.intro ha (HI.out.2.trans hb)); clear ha hb)
        go_roundw
        case rel => exact ⟨k + 1, by omega, by go_num, Lib.hid ⟨by rw [HT.out]; exact HI2.out.1, HI2.out.2⟩⟩
        case measure => simp [intOf]; try omega
      · obtain rfl : k = l.length := by omega
        obtain ⟨wl, rfl⟩ : ∃ wl : World, wl = wr := ⟨_, rfl⟩
        have HTK := Lib.hid (show (l.map (·.m)).take l.length = l.map (·.m) from List.take_of_length_le (by simp))
        obtain ⟨ha0, HBL0⟩ := HI.out
        rw [HTK.out] at ha0
        have hoff := ha0
        obtain ⟨qa, ca, rfl, hca, hra⟩ := ha0.rd
        have HBL := Lib.hid HBL0
        have HA := Lib.hid (show Rd0 wl qa (recsS 0 (l.map (·.m))) ∧ (recsS 0 (l.map (·.m))).length ≤ ca ∧ (recsS 0 (l.map (·.m)) = [] ∨ ∀ a, qa = some a → w.heap.size ≤ a.block) from ⟨hra, hca, acc_off hoff⟩)
        have HZ2 := Lib.hid (show (recsS 0 (l.map (·.m))).length ≤ 1000000000000 by have := HZ.out; omega)
        have HLX := Lib.hid (show lb < wl.heap.size from Nat.lt_of_lt_of_le HW.out.bk.bk.lt HBL0.size)
        clear HI ha0 HBL0 hca hra hoff c1 c2
        by_cases hbig : 1048576 < (recsS 0 (l.map (·.m))).length
        · have HS := Lib.hid (show wChkS ⟨s, l.map (·.m), false⟩ = (⟨s, l.map (·.m), false⟩, 3) by unfold wChkS; rw [if_neg (by simp), if_pos hbig])
          have hb1 : (1048576 : Int) < ((recsS 0 (l.map (·.m))).length : Int) := by omega
          clear hbig
          go_wp2_with fail
          go_ret
          rw [HS.out]
          exact ⟨by rfl, HW.out.after HBL.out⟩
        · have hb1 : ((recsS 0 (l.map (·.m))).length : Int) ≤ 1048576 := by omega
          have HS := Lib.hid (show wChkS ⟨s, l.map (·.m), false⟩ = (let r := (let a := appS s nextN (recsS 0 (l.map (·.m))); if a.2 ≠ 0 then (a.2, a.1) else let b := syncS a.1 nextN; if b.2 ≠ 0 then (b.2, b.1) else let c := renS b.1 nextN snapN; if c.2 ≠ 0 then (c.2, c.1) else let x := cutS c.1 logN 0; (thereE x.2, x.1)); (⟨r.2, l.map (·.m), r.1 == 20⟩, r.1)) by
            unfold wChkS
            rw [if_neg (by simp), if_neg hbig]
            simp only [LS.err, Bool.false_or]
            split
            · rfl
            · split
              · rfl
              · split
                · rfl
                · split
                  · rfl
                  · rename_i h4
                    simp only [ne_eq, Decidable.not_not] at h4
                    rw [h4]; rfl)
          clear hbig
          have c0 := (HW.out.on HBL.out).bk.bk.cell 0 (.pointer (some ⟨d, 0, none⟩)) rfl
          go_upto_region 11 with fail
          have HB1 := Lib.hid (show Below w.heap.size w wl.drew ∧ Below wl.heap.size wl wl.drew from ⟨HBL.out.drew, (Below.refl _ _).drew⟩)
          have c0' : wl.drew.cell? ⟨lb, 0, none⟩ = some (.pointer (some ⟨d, 0, none⟩)) := (HB1.out.2.cell (p := ⟨lb, 0, none⟩) HLX.out).trans c0
          refine wp_region_held_drew (S := fun X => X.cell? ⟨lb, 0, none⟩ = some (.pointer (some ⟨d, 0, none⟩))) (by kernel_rfl) c0' (fun hHeld => ?_)
          refine wpAnyH_take (i := 0) (v := ?_) rfl (by kernel_rfl) (by kernel_rfl) (by kernel_rfl) (fun _ _ _ h => h) (Or.inl ⟨by rfl, ?hy⟩) (by assumption) ?_
          case hy =>
            intro w hSw
            go_simp
            all_goals with_reducible rfl
          (try simp only [Act.put, List.getElem_toArray, List.getElem_cons_succ, List.getElem_cons_zero, List.setIfInBounds_toArray, List.set_cons_zero, List.set_cons_succ])
          refine wpAnyH_take (i := 1) (v := ?_) rfl (by kernel_rfl) (by kernel_rfl) (by kernel_rfl) (fun _ _ _ h => h) (Or.inl ⟨by rfl, ?hy⟩) (by assumption) ?_
          case hy =>
            intro w hSw
            go_simp
            all_goals with_reducible rfl
          (try simp only [Act.put, List.getElem_toArray, List.getElem_cons_succ, List.getElem_cons_zero, List.setIfInBounds_toArray, List.set_cons_zero, List.set_cons_succ])
          refine wpAnyH_take (i := 2) (v := ?_) rfl (by kernel_rfl) (by kernel_rfl) (by kernel_rfl) (fun _ _ _ h => h) (Or.inl ⟨by rfl, ?hy⟩) (by assumption) ?_
          case hy =>
            intro w hSw
            go_simp
            all_goals with_reducible rfl
          (try simp only [Act.put, List.getElem_toArray, List.getElem_cons_succ, List.getElem_cons_zero, List.setIfInBounds_toArray, List.set_cons_zero, List.set_cons_succ])
          refine wpAnyH_take (i := 3) (v := ?_) rfl (by kernel_rfl) (by kernel_rfl) (by kernel_rfl) (fun _ _ _ h => h) (Or.inl ⟨by rfl, ?hy⟩) (by assumption) ?_
          case hy =>
            intro w hSw
            go_simp
            all_goals with_reducible rfl
          (try simp only [Act.put, List.getElem_toArray, List.getElem_cons_succ, List.getElem_cons_zero, List.setIfInBounds_toArray, List.set_cons_zero, List.set_cons_succ])
          refine wpAnyH_take (i := 4) (v := ?_) rfl (by kernel_rfl) (by kernel_rfl) (by kernel_rfl) (fun _ _ _ h => h) (Or.inl ⟨by rfl, ?hy⟩) (by assumption) ?_
          case hy =>
            intro w hSw
            go_simp
            all_goals with_reducible rfl
          (try simp only [Act.put, List.getElem_toArray, List.getElem_cons_succ, List.getElem_cons_zero, List.setIfInBounds_toArray, List.set_cons_zero, List.set_cons_succ])
          refine wpAnyH_take (i := 5) (v := ?_) rfl (by kernel_rfl) (by kernel_rfl) (by kernel_rfl) (fun _ _ _ h => h) (Or.inl ⟨by rfl, ?hy⟩) (by assumption) ?_
          case hy =>
            intro w hSw
            go_simp
            all_goals with_reducible rfl
          (try simp only [Act.put, List.getElem_toArray, List.getElem_cons_succ, List.getElem_cons_zero, List.setIfInBounds_toArray, List.set_cons_zero, List.set_cons_succ])
          refine wpAnyH_take (i := 6) (v := ?_) rfl (by kernel_rfl) (by kernel_rfl) (by kernel_rfl) (fun _ _ _ h => h) (Or.inl ⟨by rfl, ?hy⟩) (by assumption) ?_
          case hy =>
            intro w hSw
            go_simp
            all_goals with_reducible rfl
          (try simp only [Act.put, List.getElem_toArray, List.getElem_cons_succ, List.getElem_cons_zero, List.setIfInBounds_toArray, List.set_cons_zero, List.set_cons_succ])
          refine wpAnyH_take (i := 8) (v := ?_) rfl (by kernel_rfl) (by kernel_rfl) (by kernel_rfl) (fun _ _ _ h => h) (Or.inl ⟨by rfl, ?hy⟩) (by assumption) ?_
          case hy =>
            intro w hSw
            go_simp
            all_goals with_reducible rfl
          (try simp only [Act.put, List.getElem_toArray, List.getElem_cons_succ, List.getElem_cons_zero, List.setIfInBounds_toArray, List.set_cons_zero, List.set_cons_succ])
          refine wpAnyH_take (i := 9) (v := ?_) rfl (by kernel_rfl) (by kernel_rfl) (by kernel_rfl) (fun _ _ _ h => h) (Or.inl ⟨by rfl, ?hy⟩) (by assumption) ?_
          case hy =>
            intro w hSw
            go_simp
            all_goals with_reducible rfl
          (try simp only [Act.put, List.getElem_toArray, List.getElem_cons_succ, List.getElem_cons_zero, List.setIfInBounds_toArray, List.set_cons_zero, List.set_cons_succ])
          refine wpAnyH_take (i := 10) (v := ?_) rfl (by kernel_rfl) (by kernel_rfl) (by kernel_rfl) (fun _ _ _ h => h) (Or.inl ⟨by rfl, ?hy⟩) (by assumption) ?_
          case hy =>
            intro w hSw
            go_simp
            all_goals with_reducible rfl
          (try simp only [Act.put, List.getElem_toArray, List.getElem_cons_succ, List.getElem_cons_zero, List.setIfInBounds_toArray, List.set_cons_zero, List.set_cons_succ])
          refine wpAnyH_take (i := 11) (v := ?_) rfl (by kernel_rfl) (by kernel_rfl) (by kernel_rfl) (fun _ _ _ h => h) (Or.inl ⟨by rfl, ?hy⟩) (by assumption) ?_
          case hy =>
            intro w hSw
            go_simp
            all_goals with_reducible rfl
          (try simp only [Act.put, List.getElem_toArray, List.getElem_cons_succ, List.getElem_cons_zero, List.setIfInBounds_toArray, List.set_cons_zero, List.set_cons_succ])
          refine wpAnyH_take (i := 12) (v := ?_) rfl (by kernel_rfl) (by kernel_rfl) (by kernel_rfl) (fun _ _ _ h => h) (Or.inl ⟨by rfl, ?hy⟩) (by assumption) ?_
          case hy =>
            intro w hSw
            go_simp
            all_goals with_reducible rfl
          (try simp only [Act.put, List.getElem_toArray, List.getElem_cons_succ, List.getElem_cons_zero, List.setIfInBounds_toArray, List.set_cons_zero, List.set_cons_succ])
          refine wpAnyH_take (i := 14) (v := ?_) rfl (by kernel_rfl) (by kernel_rfl) (by kernel_rfl) (fun _ _ _ h => h) (Or.inl ⟨by rfl, ?hy⟩) (by assumption) ?_
          case hy =>
            intro w hSw
            go_simp
            all_goals with_reducible rfl
          (try simp only [Act.put, List.getElem_toArray, List.getElem_cons_succ, List.getElem_cons_zero, List.setIfInBounds_toArray, List.set_cons_zero, List.set_cons_succ])
          refine wpAnyH_take (i := 15) (v := ?_) rfl (by kernel_rfl) (by kernel_rfl) (by kernel_rfl) (fun _ _ _ h => h) (Or.inl ⟨by rfl, ?hy⟩) (by assumption) ?_
          case hy =>
            intro w hSw
            go_simp
            all_goals with_reducible rfl
          (try simp only [Act.put, List.getElem_toArray, List.getElem_cons_succ, List.getElem_cons_zero, List.setIfInBounds_toArray, List.set_cons_zero, List.set_cons_succ])
          refine wpAnyH_take (i := 16) (v := ?_) rfl (by kernel_rfl) (by kernel_rfl) (by kernel_rfl) (fun _ _ _ h => h) (Or.inl ⟨by rfl, ?hy⟩) (by assumption) ?_
          case hy =>
            intro w hSw
            go_simp
            all_goals with_reducible rfl
          (try simp only [Act.put, List.getElem_toArray, List.getElem_cons_succ, List.getElem_cons_zero, List.setIfInBounds_toArray, List.set_cons_zero, List.set_cons_succ])
          refine wpAnyH_take (i := 17) (v := ?_) rfl (by kernel_rfl) (by kernel_rfl) (by kernel_rfl) (fun _ _ _ h => h) (Or.inl ⟨by rfl, ?hy⟩) (by assumption) ?_
          case hy =>
            intro w hSw
            go_simp
            all_goals with_reducible rfl
          (try simp only [Act.put, List.getElem_toArray, List.getElem_cons_succ, List.getElem_cons_zero, List.setIfInBounds_toArray, List.set_cons_zero, List.set_cons_succ])
          refine wpAnyH_take (i := 18) (v := ?_) rfl (by kernel_rfl) (by kernel_rfl) (by kernel_rfl) (fun _ _ _ h => h) (Or.inl ⟨by rfl, ?hy⟩) (by assumption) ?_
          case hy =>
            intro w hSw
            go_simp
            all_goals with_reducible rfl
          (try simp only [Act.put, List.getElem_toArray, List.getElem_cons_succ, List.getElem_cons_zero, List.setIfInBounds_toArray, List.set_cons_zero, List.set_cons_succ])
          refine wpAnyH_take (i := 20) (v := ?_) rfl (by kernel_rfl) (by kernel_rfl) (by kernel_rfl) (fun _ _ _ h => h) (Or.inl ⟨by rfl, ?hy⟩) (by assumption) ?_
          case hy =>
            intro w hSw
            go_simp
            all_goals with_reducible rfl
          (try simp only [Act.put, List.getElem_toArray, List.getElem_cons_succ, List.getElem_cons_zero, List.setIfInBounds_toArray, List.set_cons_zero, List.set_cons_succ])
          refine wpAnyH_take (i := 21) (v := ?_) rfl (by kernel_rfl) (by kernel_rfl) (by kernel_rfl) (fun _ _ _ h => h) (Or.inl ⟨by rfl, ?hy⟩) (by assumption) ?_
          case hy =>
            intro w hSw
            go_simp
            all_goals with_reducible rfl
          (try simp only [Act.put, List.getElem_toArray, List.getElem_cons_succ, List.getElem_cons_zero, List.setIfInBounds_toArray, List.set_cons_zero, List.set_cons_succ])
          refine wpAnyH_take (i := 22) (v := ?_) rfl (by kernel_rfl) (by kernel_rfl) (by kernel_rfl) (fun _ _ _ h => h) (Or.inl ⟨by rfl, ?hy⟩) (by assumption) ?_
          case hy =>
            intro w hSw
            go_simp
            all_goals with_reducible rfl
          (try simp only [Act.put, List.getElem_toArray, List.getElem_cons_succ, List.getElem_cons_zero, List.setIfInBounds_toArray, List.set_cons_zero, List.set_cons_succ])
          refine wpAnyH_take (i := 23) (v := ?_) rfl (by kernel_rfl) (by kernel_rfl) (by kernel_rfl) (fun _ _ _ h => h) (Or.inl ⟨by rfl, ?hy⟩) (by assumption) ?_
          case hy =>
            intro w hSw
            go_simp
            all_goals with_reducible rfl
          (try simp only [Act.put, List.getElem_toArray, List.getElem_cons_succ, List.getElem_cons_zero, List.setIfInBounds_toArray, List.set_cons_zero, List.set_cons_succ])
          refine wpAnyH_take (i := 24) (v := ?_) rfl (by kernel_rfl) (by kernel_rfl) (by kernel_rfl) (fun _ _ _ h => h) (Or.inl ⟨by rfl, ?hy⟩) (by assumption) ?_
          case hy =>
            intro w hSw
            go_simp
            all_goals with_reducible rfl
          (try simp only [Act.put, List.getElem_toArray, List.getElem_cons_succ, List.getElem_cons_zero, List.setIfInBounds_toArray, List.set_cons_zero, List.set_cons_succ])
          refine wpAnyH_ready (rs := [7]) (by kernel_rfl) (by simp) ?_
          refine (AllReadyH.cons rfl (fun K hK => ?_) AllReadyH.nil)
          go_simp
          go_at_call 38
          refine (withB_mk _ _ _ nextB _ _ _ _).mono ?_
          rintro r w2 ⟨a0, a1, a2, A0, A1, A2, rfl, ha0, ha1, ha2, ka0, ka1, ka2, hb⟩
          have HB2 := Lib.hid (show Below w.heap.size w w2 ∧ Below wl.heap.size wl w2 from ⟨HB1.out.1.trans (hb.mono HB1.out.1.size), HB1.out.2.trans (hb.mono HB1.out.2.size)⟩)
          have HC2 := Lib.hid (show w2.cell? ⟨lb, 0, none⟩ = some (.pointer (some ⟨d, 0, none⟩)) from (HB2.out.2.cell (p := ⟨lb, 0, none⟩) HLX.out).trans c0)
          have HK2 := Lib.hid (And.intro (And.intro ka0 (And.intro ka1 ka2)) (show w.heap.size ≤ a0 ∧ w.heap.size ≤ a1 ∧ w.heap.size ≤ a2 from ⟨Nat.le_trans HB1.out.1.size ha0, Nat.le_trans HB1.out.1.size ha1, Nat.le_trans HB1.out.1.size ha2⟩))
          clear hb ha0 ha1 ha2 ka0 ka1 ka2
          refine hK.out _ _ (HC2.out) (fun hHeld => ?_)
          clear hK K
          (try simp only [Act.put, List.getElem_toArray, List.getElem_cons_succ, List.getElem_cons_zero, List.setIfInBounds_toArray, List.set_cons_zero, List.set_cons_succ])
          refine wpAnyH_ready (rs := [13]) (by kernel_rfl) (by simp) ?_
          refine (AllReadyH.cons rfl (fun K hK => ?_) AllReadyH.nil)
          go_simp
          go_at_call 34
          refine (on_mk _ _ _ nextB _).mono ?_
          rintro r w3 ⟨b0, b1, B0, B1, rfl, hb0, hb1, kb0, kb1, hb⟩
          have HB3 := Lib.hid (show Below w.heap.size w w3 ∧ Below wl.heap.size wl w3 from ⟨HB2.out.1.trans (hb.mono HB2.out.1.size), HB2.out.2.trans (hb.mono HB2.out.2.size)⟩)
          have HC3 := Lib.hid (show w3.cell? ⟨lb, 0, none⟩ = some (.pointer (some ⟨d, 0, none⟩)) from (HB3.out.2.cell (p := ⟨lb, 0, none⟩) HLX.out).trans c0)
          have HK3 := Lib.hid (And.intro (And.intro kb0 kb1) (show w.heap.size ≤ b0 ∧ w.heap.size ≤ b1 from ⟨Nat.le_trans HB2.out.1.size hb0, Nat.le_trans HB2.out.1.size hb1⟩))
          have HN3 := Lib.hid hb
          clear hb hb0 hb1 kb0 kb1
          refine hK.out _ _ (HC3.out) (fun hHeld => ?_)
          clear hK K
          (try simp only [Act.put, List.getElem_toArray, List.getElem_cons_succ, List.getElem_cons_zero, List.setIfInBounds_toArray, List.set_cons_zero, List.set_cons_succ])
          refine wpAnyH_ready (rs := [19]) (by kernel_rfl) (by simp) ?_
          refine (AllReadyH.cons rfl (fun K hK => ?_) AllReadyH.nil)
          go_simp
          go_at_call 41
          refine (withS_mk _ _ _ nextB snapB _).mono ?_
          rintro r w4 ⟨e0, e1, e2, C0, C1, C2, rfl, hc0, hc1, hc2, kc0, kc1, kc2, hb⟩
          have HB4 := Lib.hid (show Below w.heap.size w w4 ∧ Below wl.heap.size wl w4 from ⟨HB3.out.1.trans (hb.mono HB3.out.1.size), HB3.out.2.trans (hb.mono HB3.out.2.size)⟩)
          have HC4 := Lib.hid (show w4.cell? ⟨lb, 0, none⟩ = some (.pointer (some ⟨d, 0, none⟩)) from (HB4.out.2.cell (p := ⟨lb, 0, none⟩) HLX.out).trans c0)
          have HK4 := Lib.hid (And.intro (And.intro kc0 (And.intro kc1 kc2)) (show w.heap.size ≤ e0 ∧ w.heap.size ≤ e1 ∧ w.heap.size ≤ e2 from ⟨Nat.le_trans HB3.out.1.size hc0, Nat.le_trans HB3.out.1.size hc1, Nat.le_trans HB3.out.1.size hc2⟩))
          have HN4 := Lib.hid hb
          clear hb hc0 hc1 hc2 kc0 kc1 kc2
          refine hK.out _ _ (HC4.out) (fun hHeld => ?_)
          clear hK K
          (try simp only [Act.put, List.getElem_toArray, List.getElem_cons_succ, List.getElem_cons_zero, List.setIfInBounds_toArray, List.set_cons_zero, List.set_cons_succ])
          refine wpAnyH_ready (rs := [25]) (by kernel_rfl) (by simp) ?_
          refine (AllReadyH.cons rfl (fun K hK => ?_) AllReadyH.nil)
          go_simp
          go_at_call 43
          refine (withI_mk _ _ _ logB 0 _).mono ?_
          rintro r w5 ⟨d0, d1, d2, D0, D1, D2, rfl, hd0, hd1, hd2, kd0, kd1, kd2, hb⟩
          have HB5 := Lib.hid (show Below w.heap.size w w5 ∧ Below wl.heap.size wl w5 from ⟨HB4.out.1.trans (hb.mono HB4.out.1.size), HB4.out.2.trans (hb.mono HB4.out.2.size)⟩)
          have HC5 := Lib.hid (show w5.cell? ⟨lb, 0, none⟩ = some (.pointer (some ⟨d, 0, none⟩)) from (HB5.out.2.cell (p := ⟨lb, 0, none⟩) HLX.out).trans c0)
          have HK5 := Lib.hid (And.intro (And.intro kd0 (And.intro kd1 kd2)) (show w.heap.size ≤ d0 ∧ w.heap.size ≤ d1 ∧ w.heap.size ≤ d2 from ⟨Nat.le_trans HB4.out.1.size hd0, Nat.le_trans HB4.out.1.size hd1, Nat.le_trans HB4.out.1.size hd2⟩))
          have HN5 := Lib.hid hb
          clear hb hd0 hd1 hd2 kd0 kd1 kd2
          refine hK.out _ _ (HC5.out) (fun hHeld => ?_)
          clear hK K
          (try simp only [Act.put, List.getElem_toArray, List.getElem_cons_succ, List.getElem_cons_zero, List.setIfInBounds_toArray, List.set_cons_zero, List.set_cons_succ])
          refine wpAnyH_ready (rs := [26]) (by kernel_rfl) (by simp) ?_
          refine (AllReadyH.cons rfl (fun K hK => ?_) AllReadyH.nil)
          go_simp
          go_at_call 33
          refine (ifThere_mk _ _ _ _).mono ?_
          rintro r w6 ⟨f0, F0, rfl, hf0, kf0, hb⟩
          have HB6 := Lib.hid (show Below w.heap.size w w6 ∧ Below wl.heap.size wl w6 from ⟨HB5.out.1.trans (hb.mono HB5.out.1.size), HB5.out.2.trans (hb.mono HB5.out.2.size)⟩)
          have HC6 := Lib.hid (show w6.cell? ⟨lb, 0, none⟩ = some (.pointer (some ⟨d, 0, none⟩)) from (HB6.out.2.cell (p := ⟨lb, 0, none⟩) HLX.out).trans c0)
          have HK6 := Lib.hid (And.intro kf0 (show w.heap.size ≤ f0 from Nat.le_trans HB5.out.1.size hf0))
          have HN6 := Lib.hid hb
          clear hb hf0 kf0
          refine hK.out _ _ (HC6.out) (fun hHeld => ?_)
          clear hK K
          (try simp only [Act.put, List.getElem_toArray, List.getElem_cons_succ, List.getElem_cons_zero, List.setIfInBounds_toArray, List.set_cons_zero, List.set_cons_succ])
          refine wpAnyH_ready (rs := [27]) (by kernel_rfl) (by simp) ?_
          refine (AllReadyH.cons rfl (fun K hK => ?_) AllReadyH.nil)
          go_simp
          have HB7 := Lib.hid (show Below w.heap.size w (w6.alloc (.cells #[.func (.func 57) #[] #[ptrV a0, ptrV a1, ptrV a2], .func (.func 53) #[] #[ptrV b0, ptrV b1], .func (.func 61) #[] #[ptrV e0, ptrV e1, ptrV e2], .func (.func 52) #[] #[ptrV f0]] 48)) ∧ Below wl.heap.size wl (w6.alloc (.cells #[.func (.func 57) #[] #[ptrV a0, ptrV a1, ptrV a2], .func (.func 53) #[] #[ptrV b0, ptrV b1], .func (.func 61) #[] #[ptrV e0, ptrV e1, ptrV e2], .func (.func 52) #[] #[ptrV f0]] 48)) from ⟨HB6.out.1.trans ((below1 _ _).mono HB6.out.1.size), HB6.out.2.trans ((below1 _ _).mono HB6.out.2.size)⟩)
          refine hK.out _ _ ((HB7.out.2.cell (p := ⟨lb, 0, none⟩) HLX.out).trans c0) (fun hHeld => ?_)
          clear hK K
          (try simp only [Act.put, List.getElem_toArray, List.getElem_cons_succ, List.getElem_cons_zero, List.setIfInBounds_toArray, List.set_cons_zero, List.set_cons_succ])
          refine wpAnyH_ready (rs := [28]) (by kernel_rfl) (by simp) ?_
          refine (AllReadyH.cons rfl (fun K hK => ?_) AllReadyH.nil)
          go_simp
          go_at_call 32
          have HN7 := Lib.hid (fun (b : Nat) (T : TypeId) (cs : Array Value) (h : Bk w6 b T cs) => h.on (below1 w6 (.cells #[.func (.func 57) #[] #[ptrV a0, ptrV a1, ptrV a2], .func (.func 53) #[] #[ptrV b0, ptrV b1], .func (.func 61) #[] #[ptrV e0, ptrV e1, ptrV e2], .func (.func 52) #[] #[ptrV f0]] 48)))
          refine (chk_do base d lb s O _ l w HW.out qa (recsS 0 (l.map (·.m))) _ ca rfl HA.out.2.1 HZ2.out (w6.alloc (.cells #[.func (.func 57) #[] #[ptrV a0, ptrV a1, ptrV a2], .func (.func 53) #[] #[ptrV b0, ptrV b1], .func (.func 61) #[] #[ptrV e0, ptrV e1, ptrV e2], .func (.func 52) #[] #[ptrV f0]] 48)) HB7.out.1 a0 a1 a2 b0 b1 e0 e1 e2 d0 d1 d2 f0 A0 A1 A2 B0 B1 C0 C1 C2 D0 D1 D2 F0 w6.heap.size _ 48 ?_ ?_ (HA.out.1.on HB7.out.2) HA.out.2.2).mono ?_
          · intro b hb
            simp only [List.mem_cons, List.not_mem_nil, or_false] at hb
            rcases hb with rfl | rfl | rfl | rfl | rfl | rfl | rfl | rfl | rfl | rfl | rfl | rfl | rfl
            · exact HK2.out.2.1
            · exact HK2.out.2.2.1
            · exact HK2.out.2.2.2
            · exact HK3.out.2.1
            · exact HK3.out.2.2
            · exact HK4.out.2.1
            · exact HK4.out.2.2.1
            · exact HK4.out.2.2.2
            · exact HK5.out.2.1
            · exact HK5.out.2.2.1
            · exact HK5.out.2.2.2
            · exact HK6.out.2
            · exact HB6.out.1.size
          · intro x hx
            simp only [List.mem_cons, List.not_mem_nil, or_false] at hx
            rcases hx with rfl | rfl | rfl | rfl | rfl | rfl | rfl | rfl | rfl | rfl | rfl | rfl | rfl
            · exact HN7.out _ _ _ ((((HK2.out.1.1.on HN3.out).on HN4.out).on HN5.out).on HN6.out)
            · exact HN7.out _ _ _ ((((HK2.out.1.2.1.on HN3.out).on HN4.out).on HN5.out).on HN6.out)
            · exact HN7.out _ _ _ ((((HK2.out.1.2.2.on HN3.out).on HN4.out).on HN5.out).on HN6.out)
            · exact HN7.out _ _ _ (((HK3.out.1.1.on HN4.out).on HN5.out).on HN6.out)
            · exact HN7.out _ _ _ (((HK3.out.1.2.on HN4.out).on HN5.out).on HN6.out)
            · exact HN7.out _ _ _ ((HK4.out.1.1.on HN5.out).on HN6.out)
            · exact HN7.out _ _ _ ((HK4.out.1.2.1.on HN5.out).on HN6.out)
            · exact HN7.out _ _ _ ((HK4.out.1.2.2.on HN5.out).on HN6.out)
            · exact HN7.out _ _ _ (HK5.out.1.1.on HN6.out)
            · exact HN7.out _ _ _ (HK5.out.1.2.1.on HN6.out)
            · exact HN7.out _ _ _ (HK5.out.1.2.2.on HN6.out)
            · exact HN7.out _ _ _ HK6.out.1
            · exact Bk.new _ _ _
          rintro r w8 ⟨e, rfl, s', he, O', hw, hf⟩
          have HD := Lib.hid (And.intro he (And.intro hw hf))
          clear he hf
          refine hK.out _ _ (hw.bk.bk.cell 0 _ rfl) (fun hHeld => ?_)
          clear hK K
          (try simp only [Act.put, List.getElem_toArray, List.getElem_cons_succ, List.getElem_cons_zero, List.setIfInBounds_toArray, List.set_cons_zero, List.set_cons_succ])
          clear hw
          refine wpAnyH_take (i := 29) (v := ?_) rfl (by kernel_rfl) (by kernel_rfl) (by kernel_rfl) (fun _ _ _ h => h) (Or.inl ⟨by rfl, ?hy⟩) (by assumption) ?_
          case hy =>
            intro w hSw
            go_simp
            all_goals with_reducible rfl
          (try simp only [Act.put, List.getElem_toArray, List.getElem_cons_succ, List.getElem_cons_zero, List.setIfInBounds_toArray, List.set_cons_zero, List.set_cons_succ])
          refine wpAnyH_done (by kernel_rfl) ?_ _
          go_wp2_with fail
          go_ret
          rw [HS.out]
          simp only
          rw [← HD.out.1]
          exact ⟨by rfl, O', _, l, HD.out.2.1, rfl, HD.out.2.2⟩
end
end Go.Proofs.YtooiaadnhglifaaDoor
