/-
  Contract: poset.Pairs: the pairs that nothing is between.
-/
import Derived.Test.YtkgcloggnnjioaaDoorNext
import Derived.Test.YtkgcloggnnjioaaDoorRight
import Derived.RangeFuncBox
import Derived.Laws.OwnMore
namespace Go.Proofs.YtkgcloggnnjioaaDoor
open Go.RowKit Go.Shelf

attribute [local go_sem] Oper.semAt_some

/-- the mark that a loop over a function leaves among the deferred calls -/
def mark (D : Nat) : Deferred := { target := .collected D, args := #[] }
def Marks (B : Nat) (ds : List Nat) (w : World) : Prop := ds.Nodup ∧ ∀ D ∈ ds, B ≤ D ∧ w.heap[D]? = some (.deferred (some []))
theorem Marks.lt {B : Nat} {ds : List Nat} {w : World} (h : Marks B ds w) {D : Nat} (hD : D ∈ ds) : D < w.heap.size := (Array.getElem?_eq_some_iff.1 (h.2 D hD).2).1
theorem Marks.kept {B : Nat} {ds : List Nat} {w w' : World} (h : Marks B ds w) (hk : KeepsOthers w w') : Marks B ds w' := ⟨h.1, fun D hD => ⟨(h.2 D hD).1, hk.same D _ (h.2 D hD).2 rfl⟩⟩
theorem Marks.below {B : Nat} {ds : List Nat} {w w' : World} (h : Marks B ds w) (hk : Below w.heap.size w w') : Marks B ds w' := ⟨h.1, fun D hD => ⟨(h.2 D hD).1, (hk.block D (h.lt hD)).trans (h.2 D hD).2⟩⟩
theorem Marks.cons {B : Nat} {ds : List Nat} {w : World} (h : Marks B ds w) {D : Nat} (hB : B ≤ D) (hD : w.heap[D]? = some (.deferred (some []))) (hn : D ∉ ds) : Marks B (D :: ds) w :=
  ⟨List.nodup_cons.2 ⟨hn, h.1⟩, fun E hE => (List.mem_cons.1 hE).elim (fun e => by subst e; exact ⟨hB, hD⟩) (h.2 E)⟩

theorem leaves_marks {F : Fence} {n : Nat} {P : Program} {fn : Func} {tmps : Array Value} {v : Value} (hres : ∀ w, (results fn tmps).run P w = .ok v w) {R : Ending → World → Prop} (I : World → Prop) (B : Nat)
    (hI : ∀ w D, B ≤ D → I w → w.heap[D]? = some (.deferred (some [])) → I (w.putObj D (.deferred none))) (hR : ∀ w, I w → R (.returned v) w) :
    ∀ (ds : List Nat) (w : World), Marks B ds w → I w → LeavesInM F n P fn tmps R (ds.map mark) .returning w
  | [], w, _, hi => ⟨v, hres w, hR w hi⟩
  | D :: ds, w, hm, hi => by
    have hD := (hm.2 D (by simp))
    refine ⟨by simp, .inl ⟨D, _, rfl, run_takeDeferred hD.2, leaves_marks hres I B hI hR ds _ ⟨(List.nodup_cons.1 hm.1).2, fun E hE => ⟨(hm.2 E (by simp [hE])).1, ?_⟩⟩ (hI w D hD.1 hi hD.2)⟩⟩
    have hne : E ≠ D := fun e => (List.nodup_cons.1 hm.1).1 (e ▸ hE)
    rw [World.putObj_heap_other hne]
    exact (hm.2 E (by simp [hE])).2

/-- pairs as cells -/
def cellsP (ps : List (Nat × Nat)) : List Value := ps.flatMap fun p => [.int .i64 (p.1 : Nat), .int .i64 (p.2 : Nat)]
theorem cellsP_len (ps : List (Nat × Nat)) : (cellsP ps).length = ps.length * 2 := by
  unfold cellsP
  induction ps with
  | nil => rfl
  | cons p ps ih => rw [List.flatMap_cons, List.length_append, ih]; simp; omega
theorem cellsP_snoc (ps : List (Nat × Nat)) (a b : Nat) : cellsP (ps ++ [(a, b)]) = cellsP ps ++ [.int .i64 (a : Nat), .int .i64 (b : Nat)] := by unfold cellsP; simp

theorem Tryd.info44p : (Tryd.prog.info? 44).map (fun i => (i.zero, i.size, i.bytes)) = some (some (.agg #[.int .i64 0, .int .i64 0]), 2, 16) := by kernel_rfl
theorem Tryd.und22p : Tryd.prog.underlying 22 = some (.slice 44) := by kernel_rfl

theorem pairs_len (ms : List Nat) (k : Nat) (hk : k ≤ 64) : (pairsK ms k).length ≤ 4096 := by have := pairsK_len ms k; omega

/-- what a round of Pairs' loop keeps -/
def PInv (ms : List Nat) (w : World) (B k : Nat) (ds : List Nat) (wr : World) : Prop :=
  (∃ v, Boxed wr B 22 v ∧ wr.ownsRow w.heap.size 44 2 v (pairsK ms k).length (cellsP (pairsK ms k)) ∧ True) ∧ Marks w.heap.size ds wr ∧ Below w.heap.size w wr

set_option maxRecDepth 100000 in
set_option maxHeartbeats 4000000 in
theorem pairs_yes (ms : List Nat) (p : Option Addr) (c : Nat) (w : World) (hs : Small ms) (ho : OrdM ms) (hp : Us w w.heap.size p ms) (hT : Tab w) (hg : 0 < w.heap.size) :
    Calls Tryd.prog 26 #[.slice p ms.length c] w fun e W' => (∃ v, e = .returned v ∧ W'.ownsRow w.heap.size 44 2 v (pairsM ms).length (cellsP (pairsM ms))) ∧ Below w.heap.size w W' := by
  refine (callsIn_wide (n := 12)).1 ?_
  have hn := ho.2.1
  obtain ⟨b, off, rfl, hbl, hcs⟩ : ∃ b off, p = some ⟨b, off, none⟩ ∧ b < w.heap.size ∧ ∀ i (h : i < ms.length), w.cell? ⟨b, off + i, none⟩ = some (mask ms[i]) := by
    rcases hp with h | h
    · subst h; have := ho.1; simp at this
    · exact h
  have HR := Lib.hid (right_any ms (some ⟨b, off, none⟩) c w (by unfold maxLen; omega) hs (.inr ⟨b, off, rfl, hbl, hcs⟩) hT hg)
  rw [ordB_true ho] at HR
  have HCS := Lib.hid hcs
  have HS := Lib.hid hs
  have HT := Lib.hid hT
  have HO := Lib.hid ho
  clear hcs hs hT ho hp
  refine callsIn_of_wp_marks Tryd.func26 rfl trivial ?_ rfl
  simp only [Tryd.ntmps26, List.size_toArray, List.length_cons, List.length_nil, Nat.reduceAdd, Nat.reduceSub, Array.replicate_succ, Array.replicate_zero, List.push_toArray, List.append_toArray, List.nil_append, List.cons_append]
  gi_wp2
  refine ⟨trivial, (callsIn_wide.2 HR.out).mono ?_⟩
  rintro e W1 ⟨rfl, hb⟩
  have HB := Lib.hid hb
  clear hb
  gi_wp2
  refine wpIn_loop (fun a wr => ∃ (k : Nat) (ds : List Nat) (u4 u5 u12 u13 u14 u15 u16 u17 u18 u19 u20 u21 u22 u23 u24 u25 : Value), k ≤ ms.length ∧ PInv ms w W1.heap.size k ds wr ∧
    a = { tmps := #[.slice (some ⟨b, off, none⟩) ms.length c, undef, .slice none 0 0, .pointer (some ⟨W1.heap.size, 0, none⟩), u4, u5, .slice (some ⟨b, off, none⟩) ms.length c, .bool true, .bool false,
      .slice (some ⟨b, off, none⟩) ms.length c, .int .i64 ms.length, .int .i64 k, u12, u13, u14, u15, u16, u17, u18, u19, u20, u21, u22, u23, u24, u25, undef], defers := ds.map mark })
    (fun a _ => ms.length - (intOf (a.tmps.getD 11 undef)).toNat) ?_ ?_
  · refine ⟨0, [], _, _, _, _, _, _, _, _, _, _, _, _, _, _, _, _, Nat.zero_le _, ⟨⟨_, Boxed.new W1 22 _, World.ownsRow_nil _ _ _ _, trivial⟩, ⟨List.nodup_nil, fun D h => (by cases h)⟩, HB.out.alloc HB.out.size _⟩, rfl⟩
  · rintro a wr ⟨k, ds, u4, u5, u12, u13, u14, u15, u16, u17, u18, u19, u20, u21, u22, u23, u24, u25, hk, hinv, rfl⟩
    have HI := Lib.hid hinv
    clear hinv
    by_cases hlt : k < ms.length
    · have hin : ∀ i, (ms.getD k 0).testBit i = true → i < ms.length := (HO.out.2.2 k hlt).2.1
      have HB1 := Lib.hid (HI.out.2.2.alloc HI.out.2.2.size (.cells #[.int .i64 k] 3))
      have hbl2 : b < (wr.alloc (.cells #[.int .i64 k] 3)).heap.size := by have := HB1.out.size; omega
      have HN := Lib.hid (next_any ms b off c k (wr.alloc (.cells #[.int .i64 k] 3)) hlt hn HS.out hin hbl2 (fun i hi => (HB1.out.cell (p := ⟨b, off + i, none⟩) hbl).trans (HCS.out i hi)) (HT.out.below HB1.out hg))
      have HK0 := Lib.hid (Boxed.new wr 3 (.int .i64 k))
      have hk0c := HK0.out.cell
      have HIN := Lib.hid hin
      clear hin hbl2
      gi_wp2
      refine ⟨trivial, (callsIn_wide.2 HN.out).mono ?_⟩
      rintro e W2 ⟨rfl, hb2⟩
      have HB2 := Lib.hid hb2
      clear hb2
      gi_wp2
      refine ⟨trivial, (callsIn_wide.2 (bits_any _ _)).mono ?_⟩
      rintro e w' ⟨rfl, rfl⟩
      have e5 := (cellNew W2 (.int .u64 (nextM ms k : Nat)) 36).1
      have hk0 := Boxed.alloc (show Boxed W2 wr.heap.size 3 (.int .i64 k) from (HB2.out.block wr.heap.size (by simp)).trans HK0.out) (.cells #[.int .u64 (nextM ms k : Nat)] 36)
      have hbA : Below wr.heap.size wr (W2.alloc (.cells #[.int .u64 (nextM ms k : Nat)] 36)) := (((Below.refl _ wr).alloc (Nat.le_refl _) _).trans (HB2.out.mono (by simp))).alloc (by have := HB2.out.size; simp at this; omega) _
      have hsL : W2.heap.size < (W2.alloc (.cells #[.int .u64 (nextM ms k : Nat)] 36)).heap.size := by simp
      have hsW : wr.heap.size < W2.heap.size := by have := HB2.out.size; simp at this; omega
      have hsB : W1.heap.size < wr.heap.size := by obtain ⟨v, hv, _⟩ := HI.out.1; exact hv.lt
      have hsw : w.heap.size ≤ W1.heap.size := HB.out.size
      generalize W2.alloc (.cells #[.int .u64 (nextM ms k : Nat)] 36) = WL at *
      generalize W2.heap.size = q at *
      have hM := nextM_lt HS.out k
      have HMEM := Lib.hid (show rowP ms k = (bitsOf (nextM ms k)).map (fun b => (k, b)) from rfl)
      generalize nextM ms k = M at *
      have hBL := HI.out.2.2.trans (hbA.mono HI.out.2.2.size)
      have hMK := HI.out.2.1.below hbA
      obtain ⟨v0, hv0, ho0, _⟩ := HI.out.1
      have hv1 : Boxed WL W1.heap.size 22 v0 := (hbA.block _ hsB).trans hv0
      have ho1 : WL.ownsRow w.heap.size 44 2 v0 (pairsK ms k).length (cellsP (pairsK ms k)) := by
        refine ⟨ho0.1, ho0.2.imp id ?_⟩
        rintro ⟨g, cap, cur, e1, e2, e3, e4⟩
        exact ⟨g, cap, cur, e1, e2, (hbA.block g (Array.getElem?_eq_some_iff.1 e3).1).trans e3, e4⟩
      have HX := Lib.hid (show (∃ v, Boxed WL W1.heap.size 22 v ∧ WL.ownsRow w.heap.size 44 2 v (pairsK ms k ++ ([] : List (BitT M)).map (fun x => (k, x.1))).length (cellsP (pairsK ms k ++ ([] : List (BitT M)).map (fun x => (k, x.1)))) ∧ True) from ⟨v0, hv1, by simpa using ho1, trivial⟩)
      have HBL := Lib.hid hBL
      have HMK := Lib.hid hMK
      clear hbA hBL hMK hv0 ho0 hv1 ho1 HK0 HN HB2 HB1
      gi_wp2
      refine wpIn_rangeFunc_ownF rfl (by omega) (gf := 39) (lb := #[.pointer (some ⟨q, 0, none⟩)]) rfl trivial (enters_of Tryd.func39 (by kernel_rfl) rfl)
        (bits_stops 11 (by omega) q w.heap.size M hM (by omega) WL (by omega) (by omega) e5 (HT.out.below HBL.out (by omega))) belowK_t (belowK_b (by omega)) (Below.refl _ _) (fun _ => rfl)
        (fun pre W => ((∃ v, Boxed W W1.heap.size 22 v ∧ W.ownsRow w.heap.size 44 2 v (pairsK ms k ++ pre.map (fun x => (k, x.1))).length (cellsP (pairsK ms k ++ pre.map (fun x => (k, x.1)))) ∧ True) ∧ Boxed W wr.heap.size 3 (.int .i64 k) ∧ Marks w.heap.size ds W) ∧ Below w.heap.size w W)
        (fun c' pre W => False ∧ Below w.heap.size w W)
        (OwnFrom.and (fun s A B row hs hg hr => ⟨holdsRow_own w.heap.size W1.heap.size 22 44 2 (fun pre : List (BitT M) => (pairsK ms k ++ pre.map (fun x => (k, x.1))).length) (fun pre => cellsP (pairsK ms k ++ pre.map (fun x => (k, x.1)))) (fun _ _ => True) s A B row hs.1 hg (fun r e => (hr r e).2), hs.2.1.kept hg (fun e' => by obtain ⟨_, o, ho, hc⟩ := hr _ e'.symm; rw [show A.heap[wr.heap.size]? = _ from hs.2.1] at ho; cases ho; cases hc),
          ⟨hs.2.2.1, fun D hD => ⟨(hs.2.2.2 D hD).1, (hg.block D (hs.2.2.lt hD) (fun e => by have h1 := (hr D e.symm).1; have h2 := HMK.out.lt hD; omega)).trans (hs.2.2.2 D hD).2⟩⟩⟩) (ownFrom_below (Nat.le_refl _) (by omega)))
        (fun c' => OwnFrom.and (Own.from (fun s A B row hs hg hr => hs) _) (ownFrom_below (Nat.le_refl _) (by omega)))
        ⟨⟨HX.out, hk0, HMK.out⟩, HBL.out⟩ ?a1 ?assign ?body ?done ?stop
      case assign =>
        intro l x W K hK
        gi_wp2
        exact hK
      case body =>
        rintro l pre ⟨x, hx⟩ W ⟨⟨⟨v, hv, hown, _⟩, hkb, hmk⟩, hB⟩ hpl
        have hvc := hv.cell
        have hkc := hkb.cell
        have HKB := Lib.hid hkb
        clear hkb
        have hlen : (pairsK ms k ++ pre.map (fun x => (k, x.1))).length ≤ 8192 := by
          have := pairs_len ms k (by omega)
          rw [List.length_append, List.length_map]; omega
        have hcs2 := cellsP_snoc (pairsK ms k ++ pre.map (fun x => (k, x.1))) k x
        have hls : (pairsK ms k ++ (pre ++ [(⟨x, hx⟩ : BitT M)]).map (fun x => (k, x.1))) = (pairsK ms k ++ pre.map (fun x => (k, x.1))) ++ [(k, x)] := by simp
        generalize hPS : pairsK ms k ++ pre.map (fun x => (k, x.1)) = PS at *
        have HLS := Lib.hid hls
        have HCS2 := Lib.hid hcs2
        have HV := Lib.hid hv
        have HOWN := Lib.hid hown
        have HMKW := Lib.hid hmk
        have HBW := Lib.hid hB
        obtain ⟨i0, hi, hz0, hz1, hz2⟩ := info_parts Tryd.info44p
        clear hls hcs2 hv hown hmk hB hPS
        gi_wp2_with (gi_at_builtin; refine wpListIn_append_own _ rfl (.tmp 19) (.tmp 23) 22 rfl w.heap.size 44 i0 (.agg #[.int .i64 0, .int .i64 0]) 2 16 Tryd.und22p hi hz0 hz1 hz2 rfl (by decide) _ _ _ rfl (HOWN.out.alloc _) ⟨W.heap.size, 0, none⟩ 1 1 [.int .i64 k, .int .i64 x] rfl rfl ?c1 ?c2 ?c3 ?c4 ?c5 ?_)
        case c1 =>
          intro j u hj
          match j, hj with
          | 0, hj => simp at hj; subst hj; simp [go_sem, Addr.add]
          | 1, hj => simp at hj; subst hj; simp [go_sem, Addr.add]
        case c2 => intro u hu; simp at hu; rcases hu with rfl | rfl <;> rfl
        case c3 => unfold maxLen; omega
        case c4 => omega
        case c5 => have := HBW.out.size; simp; omega
        intro v' w1 hown' hgrow _
        obtain ⟨hb1, hb2, ho2, hk2, hbe2⟩ := HV.out.appended (by decide) HOWN.out HBW.out.size hsw hown' hgrow
        have hkb1 : Boxed (w1.setCell ⟨W1.heap.size, 0, none⟩ v') wr.heap.size 3 (.int .i64 k) :=
          ((HKB.out.alloc _).kept hgrow (HKB.out.not_row (by decide) HOWN.out)).kept (grownBy_setCell' w1 W1.heap.size v') (by simp; omega)
        have HFIN := Lib.hid (show ownPostK (Below w.heap.size) (fun pre W => ((∃ v, Boxed W W1.heap.size 22 v ∧ W.ownsRow w.heap.size 44 2 v (pairsK ms k ++ pre.map (fun x => (k, x.1))).length (cellsP (pairsK ms k ++ pre.map (fun x => (k, x.1)))) ∧ True) ∧ Boxed W wr.heap.size 3 (.int .i64 k) ∧ Marks w.heap.size ds W) ∧ Below w.heap.size w W)
          (fun c' pre W => False ∧ Below w.heap.size w W) (pre ++ [(⟨x, hx⟩ : BitT M)]) W Exit.normal { tmps := #[], defers := [] } (w1.setCell ⟨W1.heap.size, 0, none⟩ v') from
          ⟨hk2, hbe2, ⟨⟨v', hb2, by rw [HLS.out, HCS2.out, List.length_append]; exact ho2, trivial⟩, hkb1, HMKW.out.kept hk2⟩, HBW.out.trans hbe2⟩)
        have c1 := hb1.cell
        have f1 := hb1.frozen
        obtain ⟨g, cap, rfl⟩ := ownsRow_succ hown'
        clear hb1 hb2 ho2 hk2 hbe2 hkb1 hown' hgrow
        gi_wp2
        exact HFIN.out
      case done =>
        rintro D ys W hD hys ⟨⟨hv, hkb, hmk⟩, hB⟩ hK
        have hps : pairsK ms (k + 1) = pairsK ms k ++ ys.map (fun x => (k, x.1)) := by
          rw [pairsK, HMEM.out]
          exact congrArg (pairsK ms k ++ ·) ((congrArg (List.map (fun b => (k, b))) hys.symm).trans (by rw [List.map_map]; rfl))
        rw [← hps] at hv
        have HP1 := Lib.hid (show PInv ms w W1.heap.size (k + 1) (D :: ds) W from ⟨hv, hmk.cons (by have := HBL.out.size; omega) hK (fun h => by have := HMK.out.lt h; omega), hB⟩)
        clear hv hkb hmk hB hps hys
        gi_wp2
        exact ⟨⟨k + 1, D :: ds, _, _, _, _, _, _, _, _, _, _, _, _, _, _, _, _, by omega, HP1.out, rfl⟩, by simp [intOf]; omega⟩
      case stop =>
        rintro D c' pre W hD hpre ⟨hf, _⟩ hK
        exact hf.elim
    · obtain ⟨v, hv, hown, _⟩ := HI.out.1
      obtain rfl : k = ms.length := by omega
      have hvc := hv.cell
      have HOW := Lib.hid hown
      clear hown hv
      gi_wp2
      refine leaves_marks (v := v) (fun w' => by simp [results, Tryd.f26, go_sem]) (fun w' => w'.ownsRow w.heap.size 44 2 v (pairsM ms).length (cellsP (pairsM ms)) ∧ Below w.heap.size w w') w.heap.size (fun w' D hD hi hd => ⟨?_, ?_⟩) (fun w' hi => ⟨⟨v, rfl, hi.1⟩, hi.2⟩) ds wr HI.out.2.1 ⟨HOW.out, HI.out.2.2⟩
      · refine hi.1.kept (grownBy_putObj' w' D _) ?_
        rcases hi.1.2 with ⟨rfl, _⟩ | ⟨g, cap, cur, rfl, _, hgb, _⟩
        · exact .inl rfl
        · refine .inr fun e' => ?_
          obtain rfl : g = D := by simpa [Value.ownBlock] using e'
          rw [hgb] at hd; cases hd
      · exact hi.2.grown (grownBy_putObj' w' D _) (by have := hi.2.size; omega) (fun k e => by cases e; exact hD)

open Classical in
/-- what Pairs answers -/
noncomputable def pairsR (ms : List Nat) : List (Nat × Nat) := if OrdM ms then pairsM ms else []
set_option maxHeartbeats 1000000 in
theorem pairs_any (ms : List Nat) (p : Option Addr) (c : Nat) (w : World) (hz : ms.length ≤ maxLen) (hs : Small ms) (hp : Us w w.heap.size p ms) (hT : Tab w) (hg : 0 < w.heap.size) :
    Calls Tryd.prog 26 #[.slice p ms.length c] w fun e W' => (∃ v, e = .returned v ∧ W'.ownsRow w.heap.size 44 2 v (pairsR ms).length (cellsP (pairsR ms))) ∧ Below w.heap.size w W' := by
  by_cases ho : OrdM ms
  · have e : pairsR ms = pairsM ms := if_pos ho
    rw [e]
    exact pairs_yes ms p c w hs ho hp hT hg
  · have e : pairsR ms = [] := if_neg ho
    rw [e]
    have HR := Lib.hid (right_any ms p c w hz hs hp hT hg)
    rw [ordB_false ho] at HR
    clear hs hp hT ho e
    go_enter Tryd.func26, Tryd.ntmps26
    go_wp2_with (go_at_call 15; refine HR.out.mono ?_; rintro e w' ⟨rfl, hb⟩)
    go_ret
    exact ⟨⟨_, rfl, World.ownsRow_nil _ _ _ _⟩, hb⟩
end Go.Proofs.YtkgcloggnnjioaaDoor
