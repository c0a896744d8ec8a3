/-
  The walk of mandatelaw10.BindSelects: it answers true.
-/
import Derived.Test.YtmfaallipfhajaaBmw
namespace Go.Proofs.Ytmfaallipfhajaa
open Go.RowKit

/-- what a list of tuples is in memory -/
structure Tls (w : World) (q : Option Addr) (l : List Tp) : Prop where
  rd : Rd encT 2 w w.heap.size q l
  tin : Tin w l
  ok : ∀ t ∈ l, t.pred.size ≤ maxLen ∧ SzOk t.args ∧ t.args.length ≤ maxLen
theorem Tls.grow {w w' : World} {q : Option Addr} {l : List Tp} (h : Tls w q l) (hb : Below w.heap.size w w') : Tls w' q l := ⟨h.rd.grow hb, h.tin.grow hb, h.ok⟩

set_option maxHeartbeats 4000000 in
set_option maxRecDepth 100000 in
theorem sameall_true (q1 q2 : Option Addr) (l1 l2 : List Tp) (c1 c2 : Nat) (w : World) (h1 : Tls w q1 l1) (h2 : Tls w q2 l2) (he : l1.map con = l2.map con) (hm : l1.length ≤ maxLen) :
    Calls Try.prog 18 #[.slice q1 l1.length c1, .slice q2 l2.length c2] w fun e w' => e = .returned (.bool true) ∧ Below w.heap.size w w' := by
  have hl : l1.length = l2.length := by simpa using congrArg List.length he
  have hl1 : l1.length ≤ l2.length := by omega
  have hl2 : l2.length ≤ l1.length := by omega
  have hne : ((l1.length : Int) != (l2.length : Int)) = false := by simp [hl]
  have HC := Lib.hid (show ∀ k (h : k < l1.length) (g : k < l2.length), l1[k].pred = l2[k].pred ∧ l1[k].args = l2[k].args from fun k h g => by
    have := List.getElem_of_eq he (i := k) (by simpa using h)
    simp only [List.getElem_map, con, Prod.mk.injEq] at this
    exact this)
  have H1 := Lib.hid h1
  have H2 := Lib.hid h2
  unfold maxLen at hm
  clear h1 h2 hl he
  go_enter Try.func18, Try.ntmps18
  go_wp2_with fail
  go_loopw [5] (fun i wr => ∃ k : Nat, k ≤ l1.length ∧ i = .int .i64 k ∧ Below w.heap.size w wr) (fun i _ => l1.length - (intOf i).toNat)
  case atStart => exact ⟨0, Nat.zero_le _, rfl, Below.refl _ _⟩
  case round =>
    obtain ⟨k, hk, rfl, hb⟩ := hrel
    have HB := Lib.hid hb
    clear hb
    by_cases hlt : k < l1.length
    · have hlt2 : k < l2.length := by omega
      have hT1 := H1.out.grow HB.out
      have hT2 := H2.out.grow HB.out
      have hkn : (0 : Int) ≤ (k : Int) := by omega
      have hki : (k : Int) < (l1.length : Int) := by omega
      have hkj : (k : Int) < (l2.length : Int) := by omega
      have HT1 := Lib.hid hT1
      have HT2 := Lib.hid hT2
      obtain ⟨b1, o1, rfl, hb1, x0, x1⟩ := rdT_at hT1.rd k hlt
      obtain ⟨b2, o2, rfl, hb2, y0, y1⟩ := rdT_at hT2.rd k hlt2
      have HS := Lib.hid (show ∀ X, Below wr.heap.size wr X → Calls Try.prog 17 #[.agg #[.string l1[k].pred, .slice l1[k].ptr l1[k].args.length l1[k].cap], .agg #[.string l2[k].pred, .slice l2[k].ptr l2[k].args.length l2[k].cap]] X fun e w' => e = .returned (.bool true) ∧ Below X.heap.size X w' from fun X hx => by
        have m1 := List.getElem_mem hlt
        have m2 := List.getElem_mem hlt2
        refine (same_tuples l1[k] l2[k] X ⟨vals_rd ((HT1.out.tin _ m1).grow hx), (HT1.out.ok _ m1).2.2⟩ ⟨vals_rd ((HT2.out.tin _ m2).grow hx), (HT2.out.ok _ m2).2.2⟩ (HT1.out.ok _ m1).1 (HT2.out.ok _ m2).1 (HT1.out.ok _ m1).2.1 (HT2.out.ok _ m2).2.1).mono fun e w' ⟨h, hb⟩ => ⟨?_, hb⟩
        rw [h, (cmpT_zero _ _).2 (HC.out k hlt hlt2)]; rfl)
      have HR0 := Lib.hid (Below.refl wr.heap.size wr)
      have HR1 := Lib.hid (Below.drew (Below.refl wr.heap.size wr))
      clear hT1 hT2
      go_wp2_with fail
      go_region_with (go_at_call 17; refine (HS.out _ (by first | exact HR1.out | exact HR0.out)).mono ?_; rintro e w2 ⟨rfl, hb3⟩)
      all_goals
        go_wp2_with fail
        refine ⟨⟨k + 1, by omega, by go_num, HB.out.trans ((Below.trans (by first | exact HR1.out | exact HR0.out) (hb3.mono (Nat.le_refl _))).mono HB.out.size)⟩, by simp [intOf]; omega⟩
    · go_wp2_with fail
      go_ret
      exact ⟨rfl, HB.out⟩
/-- the tuples that were picked, so far -/
structure WInv (W1 : World) (k : Int) (p : ByteArray) (args : List Tm) (ts : List Tp) (j : Nat) (v : Value) (L : List Tp) (wr : World) : Prop where
  eq : L = (ts.take j).filter (pickB k p args)
  bel : Below W1.heap.size W1 wr
  grw : wr.ownsRow W1.heap.size 27 2 v L.length (flatE encT L)
  size : W1.heap.size ≤ wr.heap.size
theorem WInv.len {W1 : World} {k : Int} {p : ByteArray} {args : List Tm} {ts : List Tp} {j : Nat} {v : Value} {L : List Tp} {wr : World} (h : WInv W1 k p args ts j v L wr) : L.length ≤ ts.length := by
  rw [h.eq]; exact Nat.le_trans (List.length_filter_le _ _) (by rw [List.length_take]; omega)
theorem WInv.on {W1 : World} {k : Int} {p : ByteArray} {args : List Tm} {ts : List Tp} {j : Nat} {v : Value} {L : List Tp} {wr w' : World} (h : WInv W1 k p args ts j v L wr) (hb : Below wr.heap.size wr w') : WInv W1 k p args ts j v L w' :=
  ⟨h.eq, h.bel.trans (hb.mono h.size), owns_on h.grw hb (Nat.le_refl _), Nat.le_trans h.size hb.size⟩
theorem WInv.skip {W1 : World} {k : Int} {p : ByteArray} {args : List Tm} {ts : List Tp} {j : Nat} {v : Value} {L : List Tp} {wr : World} (h : WInv W1 k p args ts j v L wr) (hj : j < ts.length) (hp : pickB k p args ts[j] = false) : WInv W1 k p args ts (j + 1) v L wr :=
  ⟨by rw [h.eq, List.take_succ_eq_append_getElem hj, List.filter_append]; simp [hp], h.bel, h.grw, h.size⟩
theorem WInv.push {W1 : World} {k : Int} {p : ByteArray} {args : List Tm} {ts : List Tp} {j : Nat} {v : Value} {L : List Tp} {wr w' : World} (h : WInv W1 k p args ts j v L wr) (hj : j < ts.length) (hp : pickB k p args ts[j] = true) {v' : Value}
    (ho : w'.ownsRow W1.heap.size 27 2 v' (L.length + 1) (flatE encT L ++ encT ts[j])) (hb : Below W1.heap.size wr w') : WInv W1 k p args ts (j + 1) v' (L ++ [ts[j]]) w' :=
  ⟨by rw [h.eq, List.take_succ_eq_append_getElem hj, List.filter_append]; simp [hp], h.bel.trans hb, by
    have e : (L ++ [ts[j]]).length = L.length + 1 := by simp
    rw [e, flatE_snoc]; exact ho, Nat.le_trans h.size hb.size⟩
/-- a literal's box -/
structure LS (w : World) (k : Int) (p : ByteArray) (qa : Option Addr) (args : List Tm) (ca : Nat) (qt : Option Addr) (ts : List Tp) (X : World) : Prop where
  c0 : X.cell? ⟨w.heap.size, 0, none⟩ = some (.int .u8 k)
  c1 : X.cell? ⟨w.heap.size, 1, none⟩ = some (.string p)
  c2 : X.cell? ⟨w.heap.size, 2, none⟩ = some (.slice qa args.length ca)
  lt : w.heap.size < X.heap.size
  ra : Tms X X.heap.size qa args
  rt : Tls X qt ts
  bel : Below w.heap.size w X
theorem LS.on {w : World} {k : Int} {p : ByteArray} {qa : Option Addr} {args : List Tm} {ca : Nat} {qt : Option Addr} {ts : List Tp} {X X' : World} (h : LS w k p qa args ca qt ts X) (hb : Below X.heap.size X X') : LS w k p qa args ca qt ts X' :=
  ⟨(hb.cell (p := ⟨w.heap.size, 0, none⟩) h.lt).trans h.c0, (hb.cell (p := ⟨w.heap.size, 1, none⟩) h.lt).trans h.c1, (hb.cell (p := ⟨w.heap.size, 2, none⟩) h.lt).trans h.c2, Nat.lt_of_lt_of_le h.lt hb.size, h.ra.grow hb, h.rt.grow hb, h.bel.trans (hb.mono (Nat.le_of_lt h.lt))⟩

set_option maxHeartbeats 8000000 in
set_option maxRecDepth 100000 in
theorem selects_walk (k : Int) (p : ByteArray) (qa qt : Option Addr) (args : List Tm) (ts : List Tp) (ca ct : Nat) (w : World) (h1 : Tms w w.heap.size qa args) (h2 : Rd encT 2 w w.heap.size qt ts) (h3 : Tin w ts) (hok : ∀ t ∈ ts, t.pred.size ≤ maxLen ∧ SzOk t.args ∧ t.args.length ≤ maxLen) (ha : SzM args) (hla : args.length ≤ maxLen) (hlt : ts.length ≤ maxLen) :
    Calls Try.prog 5 #[.agg #[.int .u8 k, .string p, .slice qa args.length ca], .slice qt ts.length ct] w fun e w' => e = .returned (.bool true) ∧ Below w.heap.size w w' := by
  have hb0 := below1 w (.cells #[.int .u8 k, .string p, .slice qa args.length ca] 24)
  have HI := Lib.hid (show LS w k p qa args ca qt ts (w.alloc (.cells #[.int .u8 k, .string p, .slice qa args.length ca] 24)) from
    ⟨by simp [go_sem], by simp [go_sem], by simp [go_sem], by simp, h1.grow hb0, ⟨h2.grow hb0, h3.grow hb0, hok⟩, hb0⟩)
  have HF := Lib.hid (fixed_any (w.alloc (.cells #[.int .u8 k, .string p, .slice qa args.length ca] 24)))
  have HSA := Lib.hid ha
  have hla0 := hla
  have hlt0 := hlt
  unfold maxLen at hla0 hlt0
  clear h1 h2 h3 hb0 ha hok
  go_enter Try.func5, Try.ntmps5
  go_wp2_with fail
  refine HF.out.mono ?_
  rintro e w1 ⟨rfl, hb1⟩
  have HI1 := Lib.hid (HI.out.on hb1)
  clear hb1 HF HI
  have x2 := HI1.out.c2
  by_cases hT : 200 < ts.length
  · go_wp2_with fail
    go_ret
    exact ⟨rfl, HI1.out.bel⟩
  · by_cases hA : 100 < args.length
    · go_wp2_with fail
      go_ret
      exact ⟨rfl, HI1.out.bel⟩
    · go_wp2_with fail
      clear x2
      go_loopw [5, 6] (fun sv i wr => ∃ (j : Nat) (L : List Tp), j ≤ ts.length ∧ i = .int .i64 j ∧ WInv w1 k p args ts j sv L wr) (fun _ i _ => ts.length - (intOf i).toNat)
      case atStart => exact ⟨0, [], Nat.zero_le _, rfl, ⟨rfl, Below.refl _ _, World.ownsRow_nil _ _ _ _, Nat.le_refl _⟩⟩
      case round =>
        obtain ⟨j, L, hj, rfl, hi⟩ := hrel
        have HIN := Lib.hid hi
        have hll := hi.len
        have HS := Lib.hid (HI1.out.on hi.bel)
        have d0 := HS.out.c0
        have d1 := HS.out.c1
        have d2 := HS.out.c2
        clear hi
        by_cases hlt2 : j < ts.length
        · have hTR := HS.out.rt
          have HTR := Lib.hid hTR
          obtain ⟨tb, toff, rfl, htb, x0, x1⟩ := rdT_at hTR.rd j hlt2
          have hjn : (0 : Int) ≤ (j : Int) := by omega
          have hji : (j : Int) < (ts.length : Int) := by omega
          have HR0 := Lib.hid (Below.refl wr.heap.size wr)
          have HR1 := Lib.hid (Below.drew (Below.refl wr.heap.size wr))
          have hM : ∀ X, Below wr.heap.size wr X → Calls Try.prog 11 #[.agg #[.int .u8 k, .string p, .slice qa args.length ca], .agg #[.string ts[j].pred, .slice ts[j].ptr ts[j].args.length ts[j].cap], .slice none 0 0] X (MPair (matchF k p args ts[j].pred ts[j].args []) X) := fun X hx =>
            (refmatch_any k p ts[j].pred qa ts[j].ptr none args [] ts[j].args ca ts[j].cap 0 X (HS.out.ra.grow hx) ((HTR.out.tin _ (List.getElem_mem hlt2)).grow hx) .nil HSA.out (by omega) (by simp) (HTR.out.ok _ (List.getElem_mem hlt2)).2.2).mono fun e w' hp => mpair_of hp
          have HM := Lib.hid hM
          clear hTR hM
          cases hpk : pickB k p args ts[j] with
          | false =>
            have hsm : (matchF k p args ts[j].pred ts[j].args []).isSome = false := hpk
            have HPK := Lib.hid hpk
            clear hpk
            go_wp2_with fail
            go_region_with (go_at_call 11; refine (HM.out _ (by first | exact HR1.out | exact HR0.out)).mono ?_; rintro e w2 ⟨q2, c2, rfl, _, _, _, _, hb2⟩)
            all_goals
              go_wp2_with fail
              refine ⟨⟨j + 1, L, by omega, by go_num, (HIN.out.on (Below.trans (by first | exact HR1.out | exact HR0.out) (hb2.mono (Nat.le_refl _)))).skip hlt2 HPK.out⟩, by simp [intOf]; omega⟩
          | true =>
            have hsm : (matchF k p args ts[j].pred ts[j].args []).isSome = true := hpk
            have HPK := Lib.hid hpk
            obtain ⟨i0, hi, hz0, hz1, hzb⟩ := info_parts infoTuple
            have HL1 := Lib.hid (show L.length + 1 ≤ maxLen by unfold maxLen; omega)
            have HL2 := Lib.hid (show (L.length + 1) * 40 ≤ 140737488355328 by omega)
            clear hpk
            go_wp2_with fail
            go_region_with (go_at_call 11; refine (HM.out _ (by first | exact HR1.out | exact HR0.out)).mono ?_; rintro e w2 ⟨q2, c2, rfl, _, _, _, _, hb2⟩)
            all_goals
              have hb3 : Below wr.heap.size wr w2 := (Below.trans (by first | exact HR1.out | exact HR0.out) (hb2.mono (Nat.le_refl _)))
              have HI2 := Lib.hid (HIN.out.on hb3)
              have y0 := (hb3.cell (p := ⟨tb, toff + j * 2, none⟩) htb).trans x0
              have y1 := (hb3.cell (p := ⟨tb, toff + j * 2 + 1, none⟩) htb).trans x1
              clear hb2 hb3
              go_wp2_with (at_builtin; refine wpList_append_grw rfl _ _ 41 rfl w1.heap.size 27 i0 _ 2 40 underTp hi hz0 hz1 hzb rfl (by omega) _ L.length (flatE encT L) (by rfl) (.inr (HI2.out.on (below1 w2 _)).grw) ⟨w2.heap.size, 0, none⟩ 1 1 (encT ts[j]) (by rfl) (by rfl) (news_alloc _ _ _) (ET.one _) (by omega) HL1.out HL2.out (HI2.out.on (below1 w2 _)).size ?_; intro g cap w5 ho hb5 hge hlt5)
              refine ⟨⟨j + 1, L ++ [ts[j]], by omega, by go_num, (HI2.out.on (below1 w2 _)).push hlt2 HPK.out ho hb5⟩, by simp [intOf]; omega⟩
        · have HE := Lib.hid (show L = ts.filter (pickB k p args) by have h := HIN.out.eq; rwa [List.take_of_length_le (by omega)] at h)
          obtain ⟨q, c, rfl, hrd, _⟩ := grw_form ET (.inr HIN.out.grw) HIN.out.size
          have HTL := Lib.hid (show Tls wr q L from ⟨hrd, fun t ht => HS.out.rt.tin t (by rw [HE.out] at ht; exact (List.mem_filter.1 ht).1), fun t ht => HS.out.rt.ok t (by rw [HE.out] at ht; exact (List.mem_filter.1 ht).1)⟩)
          have hnl : ¬ j < ts.length := hlt2
          clear hrd
          go_wp2_with fail
          refine (copyflat_any k p qa args ca wr HS.out.ra (by omega)).mono ?_
          rintro e w2 ⟨_, rfl, ⟨qA, cA, rfl, hrA, _⟩, hb2⟩
          have HS2 := Lib.hid (HS.out.on hb2)
          have HTL2 := Lib.hid (HTL.out.grow hb2)
          have HRA := Lib.hid hrA
          clear hb2 hrA d0 d1 d2
          go_wp2_with fail
          refine (select_any k p qA qt args ts cA ct w2 HRA.out HS2.out.rt.rd HS2.out.rt.tin (by omega) (by omega) (fun t ht => (HS2.out.rt.ok t ht).2.2)).mono ?_
          rintro e w3 ⟨q3, c3, L3, rfl, hcon, hl3, hr3, ht3, hb3⟩
          have HS3 := Lib.hid (HS2.out.on hb3)
          have HTL3 := Lib.hid (HTL2.out.grow hb3)
          have HT3 := Lib.hid (show Tls w3 q3 L3 from ⟨hr3, ht3, fun t ht => by
            have h1 : con t ∈ L3.map con := List.mem_map_of_mem ht
            rw [hcon] at h1
            obtain ⟨t0, h2, h3⟩ := List.mem_map.1 h1
            have h4 := HS2.out.rt.ok t0 (List.mem_filter.1 h2).1
            simp only [con, Prod.mk.injEq] at h3
            rw [h3.1, h3.2] at h4
            exact h4⟩)
          have HCN := Lib.hid (show L3.map con = L.map con by rw [hcon, HE.out])
          have HLM := Lib.hid (show L3.length ≤ maxLen from Nat.le_trans hl3 hlt)
          clear hb3 hr3 ht3 hcon
          go_wp2_with fail
          refine (sameall_true q3 q L3 L c3 c w3 HT3.out HTL3.out HCN.out HLM.out).mono ?_
          rintro e w4 ⟨rfl, hb4⟩
          have HB4 := Lib.hid (HS3.out.on hb4).bel
          clear hb4
          go_wp2_with fail
          go_ret
          exact ⟨rfl, HB4.out⟩
end Go.Proofs.Ytmfaallipfhajaa
