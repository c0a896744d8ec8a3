/-
  Contract: bind.Select.
-/
import Derived.Test.YtmfaallipfhajaaBsm
namespace Go.Proofs.Ytmfaallipfhajaa
open Go.RowKit

def encT (t : Tp) : List Value := [.string t.pred, .slice t.ptr t.args.length t.cap]
theorem ET : Enc encT 2 := ⟨fun _ => rfl, by decide, fun a u hu => by simp [encT] at hu; rcases hu with rfl | rfl <;> rfl⟩
theorem rdT_at {w : World} {B : Nat} {p : Option Addr} {l : List Tp} (h : Rd encT 2 w B p l) (i : Nat) (hi : i < l.length) : ∃ b o, p = some ⟨b, o, none⟩ ∧ b < B ∧ w.cell? ⟨b, o + i * 2, none⟩ = some (.string l[i].pred) ∧ w.cell? ⟨b, o + i * 2 + 1, none⟩ = some (.slice l[i].ptr l[i].args.length l[i].cap) := by
  obtain ⟨b, o, rfl, hb, hc⟩ := h.at i hi
  exact ⟨b, o, rfl, hb, hc 0 _ rfl, hc 1 _ rfl⟩
/-- the tuples' arguments are there -/
def Tin (w : World) (l : List Tp) : Prop := ∀ t ∈ l, Rd encV 2 w w.heap.size t.ptr t.args
theorem Tin.grow {w w' : World} {l : List Tp} (h : Tin w l) (hb : Below w.heap.size w w') : Tin w' l := fun t ht => (h t ht).grow hb
/-- which tuples a literal matches -/
def pickB (k : Int) (p : ByteArray) (args : List Tm) (t : Tp) : Bool := (matchF k p args t.pred t.args []).isSome
def con (t : Tp) : ByteArray × List Vl := (t.pred, t.args)
theorem underTp : Try.prog.underlying 41 = some (.slice 27) := Try.underlying41

structure SInv (W1 : World) (k : Int) (p : ByteArray) (args : List Tm) (ts : List Tp) (j : Nat) (v : Value) (L : List Tp) (wr : World) : Prop where
  eq : L.map con = ((ts.take j).filter (pickB k p args)).map con
  len : L.length ≤ j
  bel : Below W1.heap.size W1 wr
  grw : wr.ownsRow W1.heap.size 27 2 v L.length (flatE encT L)
  ins : Tin wr L
  sep : ∀ t ∈ L, ∀ b, t.ptr = some b → b.block < wr.heap.size ∧ v.ownBlock ≠ some b.block
  size : W1.heap.size ≤ wr.heap.size
theorem SInv.on {W1 : World} {k : Int} {p : ByteArray} {args : List Tm} {ts : List Tp} {j : Nat} {v : Value} {L : List Tp} {wr w' : World} (h : SInv W1 k p args ts j v L wr) (hb : Below wr.heap.size wr w') : SInv W1 k p args ts j v L w' :=
  ⟨h.eq, h.len, h.bel.trans (hb.mono h.size), owns_on h.grw hb (Nat.le_refl _), h.ins.grow hb, fun t ht b e => ⟨Nat.lt_of_lt_of_le (h.sep t ht b e).1 hb.size, (h.sep t ht b e).2⟩, Nat.le_trans h.size hb.size⟩
theorem SInv.skip {W1 : World} {k : Int} {p : ByteArray} {args : List Tm} {ts : List Tp} {j : Nat} {v : Value} {L : List Tp} {wr : World} (h : SInv W1 k p args ts j v L wr) (hj : j < ts.length) (hp : pickB k p args ts[j] = false) : SInv W1 k p args ts (j + 1) v L wr :=
  ⟨by rw [h.eq, List.take_succ_eq_append_getElem hj, List.filter_append]; simp [hp], by have := h.len; omega, h.bel, h.grw, h.ins, h.sep, h.size⟩
/-- a row that grows: what lies elsewhere stays -/
theorem rd_stay {α : Type} {enc : α → List Value} {k : Nat} {w w' : World} {q : Option Addr} {l : List α} (h : Rd enc k w w.heap.size q l) {row : Option Nat} (hg : w.grownBy w' row) (hne : ∀ b o, q = some ⟨b, o, none⟩ → some b ≠ row) : Rd enc k w' w'.heap.size q l := by
  rcases h with h | ⟨b, off, rfl, hl, hc⟩
  · exact .inl h
  · refine .inr ⟨b, off, rfl, Nat.lt_of_lt_of_le hl hg.size, fun i hi r u hu => ?_⟩
    exact hg.cell (hc i hi r u hu) (hne b off rfl)
theorem SInv.push {W1 : World} {k : Int} {p : ByteArray} {args : List Tm} {ts : List Tp} {j : Nat} {v : Value} {L : List Tp} {wr w' : World} (h : SInv W1 k p args ts j v L wr) (hj : j < ts.length) (hp : pickB k p args ts[j] = true) {q : Option Addr} {c : Nat} (hr : Rd encV 2 wr wr.heap.size q ts[j].args) (hq : ∀ b, q = some b → b.block < wr.heap.size ∧ v.ownBlock ≠ some b.block)
    {g cap : Nat} (ho : w'.ownsRow W1.heap.size 27 2 (.slice (some ⟨g, 0, none⟩) (L.length + 1) cap) (L.length + 1) (flatE encT L ++ encT ⟨ts[j].pred, q, c, ts[j].args⟩)) (hg : wr.grownBy w' v.ownBlock) (hat : v.ownBlock = some g ∨ g = wr.heap.size) :
    SInv W1 k p args ts (j + 1) (.slice (some ⟨g, 0, none⟩) (L.length + 1) cap) (L ++ [⟨ts[j].pred, q, c, ts[j].args⟩]) w' := by
  have all : ∀ t ∈ L ++ [(⟨ts[j].pred, q, c, ts[j].args⟩ : Tp)], Rd encV 2 wr wr.heap.size t.ptr t.args ∧ ∀ b, t.ptr = some b → b.block < wr.heap.size ∧ v.ownBlock ≠ some b.block := by
    intro t ht
    rcases List.mem_append.1 ht with ht | ht
    · exact ⟨h.ins t ht, h.sep t ht⟩
    · rw [List.mem_singleton] at ht; subst ht; exact ⟨hr, hq⟩
  refine ⟨by rw [List.map_append, h.eq, List.take_succ_eq_append_getElem hj, List.filter_append]; simp [hp, con], by have := h.len; simp; omega, h.bel.trans ((Below.refl _ _).grown hg h.size (fun k hk => (h.grw.lt k hk).1)), ?_, ?_, ?_, Nat.le_trans h.size hg.size⟩
  · have e : (L ++ [(⟨ts[j].pred, q, c, ts[j].args⟩ : Tp)]).length = L.length + 1 := by simp
    rw [e, flatE_snoc]; exact ho
  · intro t ht
    exact rd_stay (all t ht).1 hg (fun b o e h' => ((all t ht).2 _ e).2 h'.symm)
  · intro t ht b e
    obtain ⟨h1, h2⟩ := (all t ht).2 b e
    refine ⟨Nat.lt_of_lt_of_le h1 hg.size, ?_⟩
    show some g ≠ some b.block
    intro h'
    rcases hat with hat | hat
    · exact h2 (hat.trans h')
    · have := Option.some.inj h'; omega

set_option maxHeartbeats 2000000 in
set_option maxRecDepth 100000 in
theorem cloneV_new (q : Option Addr) (l : List Vl) (c : Nat) (w : World) (h : Rd encV 2 w w.heap.size q l) (hm : l.length * 24 ≤ 140737488355328) :
    Calls Try.prog 29 #[.slice q l.length c] w fun e w' => ∃ q' c', e = .returned (.slice q' l.length c') ∧ Rd encV 2 w' w'.heap.size q' l ∧ (∀ b, q' = some b → w.heap.size ≤ b.block ∧ b.block < w'.heap.size) ∧ Below w.heap.size w w' := by
  cases q with
  | none =>
    have hl : l = [] := by
      rcases h with h | ⟨_, _, h, _⟩
      · exact h
      · cases h
    subst hl
    have hne := fun wx => Lib.run_eql_slice_nil (P := Try.prog) wx 25 46 none 0 c 0 0 underV
    go_enter Try.func29, Try.ntmps29
    go_wp2_with fail
    go_ret
    exact ⟨none, 0, rfl, .nil, (fun b e => by cases e), Below.refl _ _⟩
  | some a =>
    obtain ⟨i0, hi, hz0, hz1, hz2⟩ := info_parts infoValue
    have hne := fun wx => Lib.run_eql_slice_nil (P := Try.prog) wx 25 46 (some a) l.length c 0 0 underV
    have hb0 := below1 w (.cells #[] 46)
    have HO := Lib.hid (show (w.alloc (.cells #[] 46)).ownsRow w.heap.size 46 2 (.slice (some ⟨w.heap.size, 0, none⟩) 0 0) 0 [] from World.ownsRow_made w #[] 0 (Nat.le_refl _) (by decide) (by simp))
    have HR := Lib.hid (h.grow hb0)
    have hm1 : l.length ≤ maxLen := by unfold maxLen; omega
    have hbs : w.heap.size ≤ (w.alloc (.cells #[] 46)).heap.size := by simp
    clear h
    go_enter Try.func29, Try.ntmps29
    go_wp2_with (at_builtin; refine wpList_copyE EV rfl _ _ 25 rfl w.heap.size 46 i0 _ 24 underV hi hz0 hz1 hz2 rfl _ 0 rfl (.inr HO.out) _ l c rfl HR.out hm1 hm hbs ?_; intro p' cap w1 h1 h2 h3 h4)
    go_ret
    have ho := owns_of_copy h1 h3 HO.out
    refine ⟨p', cap, rfl, h2, fun b e => ?_, hb0.trans h4⟩
    subst e
    exact ho.lt b.block rfl

/-- what Select tells -/
def SelPost (k : Int) (p : ByteArray) (args : List Tm) (ts : List Tp) (w : World) (e : Ending) (w' : World) : Prop :=
  ∃ (q : Option Addr) (c : Nat) (L : List Tp), e = .returned (.slice q L.length c) ∧ L.map con = (ts.filter (pickB k p args)).map con ∧ L.length ≤ ts.length ∧ Rd encT 2 w' w'.heap.size q L ∧ Tin w' L ∧ Below w.heap.size w w'

set_option maxHeartbeats 8000000 in
set_option maxRecDepth 100000 in
theorem select_any (k : Int) (p : ByteArray) (qa qt : Option Addr) (args : List Tm) (ts : List Tp) (ca ct : Nat) (w : World) (h1 : Tms w w.heap.size qa args) (h2 : Rd encT 2 w w.heap.size qt ts) (h3 : Tin w ts) (hla : args.length ≤ 100000) (hlt : ts.length ≤ 100000) (hsz : ∀ t ∈ ts, t.args.length ≤ maxLen) :
    Calls Try.prog 19 #[.agg #[.int .u8 k, .string p, .slice qa args.length ca], .slice qt ts.length ct] w (SelPost k p args ts w) := by
  have HB := Lib.hid (below1 w (.cells #[.int .u8 k, .string p, .slice qa args.length ca] 24))
  have hc0 : (w.alloc (.cells #[.int .u8 k, .string p, .slice qa args.length ca] 24)).cell? ⟨w.heap.size, 0, none⟩ = some (.int .u8 k) := by simp [go_sem]
  have hc1 : (w.alloc (.cells #[.int .u8 k, .string p, .slice qa args.length ca] 24)).cell? ⟨w.heap.size, 1, none⟩ = some (.string p) := by simp [go_sem]
  have hc2 : (w.alloc (.cells #[.int .u8 k, .string p, .slice qa args.length ca] 24)).cell? ⟨w.heap.size, 2, none⟩ = some (.slice qa args.length ca) := by simp [go_sem]
  have hz : w.heap.size < (w.alloc (.cells #[.int .u8 k, .string p, .slice qa args.length ca] 24)).heap.size := by simp
  have HA := Lib.hid (h1.grow HB.out)
  have HT := Lib.hid (h2.grow HB.out)
  have HI := Lib.hid (h3.grow HB.out)
  have HSZ := Lib.hid hsz
  clear h1 h2 h3 hsz
  go_enter Try.func19, Try.ntmps19
  go_wp2_with fail
  generalize w.alloc (.cells #[.int .u8 k, .string p, .slice qa args.length ca] 24) = W1 at *
  generalize hhs : w.heap.size = hs at *
  have HH := Lib.hid hhs
  clear hhs
  go_loopw [5, 12] (fun sv i wr => ∃ (j : Nat) (L : List Tp), j ≤ ts.length ∧ i = .int .i64 j ∧ SInv W1 k p args ts j sv L wr) (fun _ i _ => ts.length - (intOf i).toNat)
  case atStart => exact ⟨0, [], Nat.zero_le _, rfl, ⟨rfl, Nat.le_refl _, Below.refl _ _, World.ownsRow_nil _ _ _ _, fun t ht => by simp at ht, fun t ht => by simp at ht, Nat.le_refl _⟩⟩
  case round =>
    obtain ⟨j, L, hj, rfl, hi⟩ := hrel
    have HIN := Lib.hid hi
    have hll := hi.len
    have hms := hi.size
    have d0 := (hi.bel.cell (p := ⟨hs, 0, none⟩) hz).trans hc0
    have d1 := (hi.bel.cell (p := ⟨hs, 1, none⟩) hz).trans hc1
    have d2 := (hi.bel.cell (p := ⟨hs, 2, none⟩) hz).trans hc2
    have hzw : hs < wr.heap.size := by omega
    clear hi
    by_cases hlt2 : j < ts.length
    · obtain ⟨tb, toff, rfl, htb, x0, x1⟩ := rdT_at (HT.out.below HIN.out.bel (Nat.le_refl _)) j hlt2
      have htb' : tb < wr.heap.size := by omega
      have hX := below1 wr (.cells #[.string ts[j].pred, .slice ts[j].ptr ts[j].args.length ts[j].cap] 27)
      have HTA := Lib.hid ((((HI.out ts[j] (List.getElem_mem hlt2)).below HIN.out.bel (Nat.le_refl _)).mono HIN.out.bel.size).grow hX)
      have HAA := Lib.hid ((((HA.out.below HIN.out.bel (Nat.le_refl _)).mono HIN.out.bel.size)).grow hX)
      have hms1 : ts[j].args.length ≤ maxLen := HSZ.out _ (List.getElem_mem hlt2)
      have HX := Lib.hid hX
      have hM := match_any k p ts[j].pred qa ts[j].ptr none args [] ts[j].args ca ts[j].cap 0 _ HAA.out HTA.out .nil (Nat.le_refl _) (Nat.zero_le _) (fun _ => rfl) hla (by simp) hms1
      clear hX
      cases hmf : matchF k p args ts[j].pred ts[j].args [] with
      | none =>
        rw [hmf] at hM
        have HM := Lib.hid hM
        have HP := Lib.hid (show pickB k p args ts[j] = false by unfold pickB; rw [hmf]; rfl)
        clear hM hmf
        go_wp2_with fail
        refine HM.out.mono ?_
        rintro e w2 ⟨rfl, hb2⟩
        have HB2 := Lib.hid (HX.out.trans (hb2.mono HX.out.size))
        clear hb2
        go_wp2_with fail
        go_roundw
        case rel => exact ⟨j + 1, L, by omega, by go_num, (HIN.out.on HB2.out).skip hlt2 HP.out⟩
        case measure => simp [intOf]; omega
      | some Lb =>
        rw [hmf] at hM
        have HM := Lib.hid hM
        have HP := Lib.hid (show pickB k p args ts[j] = true by unfold pickB; rw [hmf]; rfl)
        have hal : ts[j].args.length ≤ 100000 := by
          unfold matchF at hmf
          by_cases he : args.length = ts[j].args.length
          · omega
          · simp [he] at hmf
        clear hM hmf
        go_wp2_with fail
        refine HM.out.mono ?_
        rintro e w2 ⟨vv, rfl, _, hb2⟩
        have HB2 := Lib.hid (HX.out.trans (hb2.mono HX.out.size))
        have HI2 := Lib.hid (HIN.out.on HB2.out)
        have HTA2 := Lib.hid (HTA.out.grow hb2)
        have e0 : w2.cell? ⟨wr.heap.size, 0, none⟩ = some (.string ts[j].pred) := by rw [hb2.cell (p := ⟨wr.heap.size, 0, none⟩) (by simp)]; simp [go_sem]
        have e1 : w2.cell? ⟨wr.heap.size, 1, none⟩ = some (.slice ts[j].ptr ts[j].args.length ts[j].cap) := by rw [hb2.cell (p := ⟨wr.heap.size, 1, none⟩) (by simp)]; simp [go_sem]
        have hz2 : wr.heap.size < w2.heap.size := by have := hb2.size; simp at this; omega
        clear hb2
        go_wp2_with fail
        obtain ⟨i0, hi, hz0, hz1, hzb⟩ := info_parts infoTuple
        have HL1 := Lib.hid (show L.length + 1 ≤ maxLen by unfold maxLen; omega)
        have HL2 := Lib.hid (show (L.length + 1) * 40 ≤ 140737488355328 by omega)
        have HB0 := Lib.hid (Below.refl w2.heap.size w2)
        have HB1 := Lib.hid (Below.drew (Below.refl w2.heap.size w2))
        have HK2 := Lib.hid (show ∀ (X : World), Below w2.heap.size w2 X → Calls Try.prog 29 #[.slice ts[j].ptr ts[j].args.length ts[j].cap] X fun e w' => ∃ q' c', e = .returned (.slice q' ts[j].args.length c') ∧ Rd encV 2 w' w'.heap.size q' ts[j].args ∧ (∀ b, q' = some b → w2.heap.size ≤ b.block ∧ b.block < w'.heap.size) ∧ Below w2.heap.size w2 w' from
          fun X hx => (cloneV_new ts[j].ptr ts[j].args ts[j].cap X (HTA2.out.grow hx) (by omega)).mono fun e w' ⟨q', c', h1, h2, h3, h4⟩ => ⟨q', c', h1, h2, fun b hb => ⟨Nat.le_trans hx.size (h3 b hb).1, (h3 b hb).2⟩, hx.trans (h4.mono hx.size)⟩)
        have HFR := Lib.hid (show ∀ b, (u5 : Value).ownBlock = some b → b < wr.heap.size from fun b hb => (HIN.out.grw.lt b hb).2)
        have HNE := Lib.hid (show some wr.heap.size ≠ (u5 : Value).ownBlock from fun h => Nat.lt_irrefl _ (HFR.out _ h.symm))
        go_region_held3 (fun X => X.cell? ⟨wr.heap.size, 0, none⟩ = some (.string ts[j].pred) ∧ X.cell? ⟨wr.heap.size, 1, none⟩ = some (.slice ts[j].ptr ts[j].args.length ts[j].cap))
          (first
            | (exact ⟨(hg.cell_far ⟨wr.heap.size, 0, none⟩ (Nat.lt_of_lt_of_le hz2 (hbn.alloc hbn.size _).size) HNE.out).trans (((hbn.alloc hbn.size _).cell (p := ⟨wr.heap.size, 0, none⟩) hz2).trans e0), (hg.cell_far ⟨wr.heap.size, 1, none⟩ (Nat.lt_of_lt_of_le hz2 (hbn.alloc hbn.size _).size) HNE.out).trans (((hbn.alloc hbn.size _).cell (p := ⟨wr.heap.size, 1, none⟩) hz2).trans e1)⟩)
            | (exact ⟨((hbn.alloc hbn.size _).cell (p := ⟨wr.heap.size, 0, none⟩) hz2).trans e0, ((hbn.alloc hbn.size _).cell (p := ⟨wr.heap.size, 1, none⟩) hz2).trans e1⟩)
            | (exact ⟨(hbn.cell (p := ⟨wr.heap.size, 0, none⟩) hz2).trans e0, (hbn.cell (p := ⟨wr.heap.size, 1, none⟩) hz2).trans e1⟩)
            | (exact ⟨e0, e1⟩)
            | go_keep)
          (first
            | (go_at_call 29; refine (HK2.out _ (by first | exact HB1.out | exact HB0.out)).mono ?_; rintro e wn ⟨q', c', rfl, hrd, hbd, hbn⟩)
            | (refine step_append_lies _ rfl (.tmp 23) (.tmp 30) 41 rfl W1.heap.size 27 i0 _ 2 40 underTp hi hz0 hz1 hzb rfl (by omega) _ L.length (flatE encT L) (by rfl) (HI2.out.on (hbn.alloc hbn.size _)).grw ⟨wn.heap.size, 0, none⟩ 1 1 (encT ⟨ts[j].pred, q', c', ts[j].args⟩) (by rfl) (by rfl) (news_alloc _ _ _) (ET.one _) (by omega) HL1.out HL2.out (HI2.out.on (hbn.alloc hbn.size _)).size _ rfl ?_; intro g cap w7 ho hg hat hlt7))
        all_goals
          go_wp2_with fail
          refine ⟨⟨j + 1, L ++ [⟨ts[j].pred, q', c', ts[j].args⟩], by omega, by go_num, (HI2.out.on (hbn.alloc hbn.size _)).push hlt2 HP.out (hrd.grow (below1 wn _)) (fun b hb => ⟨Nat.lt_of_lt_of_le (hbd b hb).2 (by simp), fun h => by have := (hbd b hb).1; have := HFR.out _ h; omega⟩) ho hg hat⟩, by simp [intOf]; omega⟩
    · have HR := Lib.hid (show L.map con = (ts.filter (pickB k p args)).map con by have h := HIN.out.eq; rwa [List.take_of_length_le (by omega)] at h)
      obtain ⟨q, c, rfl, hrd, hqn⟩ := grw_form ET (.inr HIN.out.grw) HIN.out.size
      have HRD := Lib.hid hrd
      clear hrd hqn
      go_wp2_with fail
      go_ret
      refine ⟨q, c, L, rfl, HR.out, by omega, HRD.out, HIN.out.ins, ?_⟩
      rw [HH.out]
      exact HB.out.trans (HIN.out.bel.mono (by omega))
end Go.Proofs.Ytmfaallipfhajaa
