/-
  Contract: bind.Match.
-/
import Derived.Test.YtmfaallipfhajaaBnm
namespace Go.Proofs.Ytmfaallipfhajaa
open Go.RowKit

theorem find_some (t : Tm) (u : Vl) (cb ab : Nat) (q : Option Addr) (l : List Tm) (c : Nat) (w : World) (hu : look l t = some u) (hc : w.cell? ⟨cb, 0, none⟩ = some (.pointer (some ⟨ab, 0, none⟩))) (ha : w.cell? ⟨ab, 0, none⟩ = some (.slice q l.length c)) (hl : Tms w w.heap.size q l) (hm : l.length ≤ maxLen) :
    Calls Try.prog 30 #[.agg #[.string t.v, .string t.s, .int .i64 t.n], .pointer (some ⟨cb, 0, none⟩)] w fun e w' => e = .returned (.tuple #[.agg #[.string u.1, .int .i64 u.2], .bool true]) ∧ Below w.heap.size w w' :=
  (find_any t cb ab q l c w hc ha hl hm).mono fun e w' ⟨he, hb⟩ => ⟨by rw [he, hu]; rfl, hb⟩
theorem find_none (t : Tm) (cb ab : Nat) (q : Option Addr) (l : List Tm) (c : Nat) (w : World) (hu : look l t = none) (hc : w.cell? ⟨cb, 0, none⟩ = some (.pointer (some ⟨ab, 0, none⟩))) (ha : w.cell? ⟨ab, 0, none⟩ = some (.slice q l.length c)) (hl : Tms w w.heap.size q l) (hm : l.length ≤ maxLen) :
    Calls Try.prog 30 #[.agg #[.string t.v, .string t.s, .int .i64 t.n], .pointer (some ⟨cb, 0, none⟩)] w fun e w' => e = .returned (.tuple #[.agg #[.string ⟨#[]⟩, .int .i64 0], .bool false]) ∧ Below w.heap.size w w' :=
  (find_any t cb ab q l c w hc ha hl hm).mono fun e w' ⟨he, hb⟩ => ⟨by rw [he, hu]; rfl, hb⟩

/-- what Match tells -/
def MatchPost (r : Option (List Tm)) (w : World) (e : Ending) (w' : World) : Prop :=
  match r with
  | some L => ∃ v, e = .returned (.tuple #[v, .bool true]) ∧ Made encM 3 L v w' ∧ Below w.heap.size w w'
  | none => e = .returned (.tuple #[.slice none 0 0, .bool false]) ∧ Below w.heap.size w w'

theorem news_alloc (w : World) (cs : Array Value) (T : TypeId) : ∀ j u, cs.toList[j]? = some u → (w.alloc (.cells cs T)).cell? ((⟨w.heap.size, 0, none⟩ : Addr).add j) = some u := World.news_of_block (heap_alloc_new w _)

structure MInv (w1 : World) (m : Nat) (args : List Tm) (vs : List Vl) (b : List Tm) (k : Nat) (v : Value) (bk : List Tm) (wr : World) : Prop where
  eq : matchS args vs b = matchS (args.drop k) (vs.drop k) bk
  len : bk.length ≤ b.length + k
  bel : Below m w1 wr
  all : wr.cell? ⟨m, 0, none⟩ = some v
  fz : wr.frozen? ⟨m, 0, none⟩ = false
  cap : wr.cell? ⟨m + 1, 0, none⟩ = some (.pointer (some ⟨m, 0, none⟩))
  grw : Grw wr (m + 2) 50 3 v bk.length (flatE encM bk)
  size : m + 2 ≤ wr.heap.size

theorem MInv.on {w1 : World} {m : Nat} {args : List Tm} {vs : List Vl} {b : List Tm} {k : Nat} {v : Value} {bk : List Tm} {wr w' : World} (h : MInv w1 m args vs b k v bk wr) (hb : Below wr.heap.size wr w') : MInv w1 m args vs b k v bk w' := by
  have hs := h.size
  refine ⟨h.eq, h.len, h.bel.trans (hb.mono (by omega)), ?_, ?_, ?_, h.grw.on h.size hb, Nat.le_trans h.size hb.size⟩
  · rw [hb.cell (p := ⟨m, 0, none⟩) (by show m < _; omega)]; exact h.all
  · rw [hb.frozen (p := ⟨m, 0, none⟩) (by show m < _; omega)]; exact h.fz
  · rw [hb.cell (p := ⟨m + 1, 0, none⟩) (by show m + 1 < _; omega)]; exact h.cap
theorem MInv.next {w1 : World} {m : Nat} {args : List Tm} {vs : List Vl} {b : List Tm} {k : Nat} {v : Value} {bk : List Tm} {wr : World} (h : MInv w1 m args vs b k v bk wr) (h1 : k < args.length) (h2 : k < vs.length) {u : Vl} (hu : look bk args[k] = some u) (he : eqV u vs[k] = true) : MInv w1 m args vs b (k + 1) v bk wr :=
  ⟨by rw [h.eq, matchS_step _ _ _ k h1 h2, hu]; simp only; rw [if_pos he], by have := h.len; omega, h.bel, h.all, h.fz, h.cap, h.grw, h.size⟩
theorem MInv.push {w1 : World} {m : Nat} {args : List Tm} {vs : List Vl} {b : List Tm} {k : Nat} {v : Value} {bk : List Tm} {wr w' : World} (h : MInv w1 m args vs b k v bk wr) (h1 : k < args.length) (h2 : k < vs.length) (hu : look bk args[k] = none) {g cap : Nat} (ho : w'.ownsRow (m + 2) 50 3 (.slice (some ⟨g, 0, none⟩) (bk.length + 1) cap) (bk.length + 1) (flatE encM bk ++ encM (bindT args[k] vs[k]))) (hb : Below (m + 2) wr w') :
    MInv w1 m args vs b (k + 1) (.slice (some ⟨g, 0, none⟩) (bk.length + 1) cap) (bk ++ [bindT args[k] vs[k]]) (w'.setCell ⟨m, 0, none⟩ (.slice (some ⟨g, 0, none⟩) (bk.length + 1) cap)) := by
  have hm : w'.cell? ⟨m, 0, none⟩ = some v := by rw [hb.cell (p := ⟨m, 0, none⟩) (by show m < _; omega)]; exact h.all
  refine ⟨?_, ?_, ?_, World.cell?_setCell_same _ _ _ hm, ?_, ?_, ?_, ?_⟩
  · rw [h.eq, matchS_step _ _ _ k h1 h2, hu]
  · have := h.len; simp; omega
  · exact (h.bel.trans (hb.mono (by omega))).setCell (p := ⟨m, 0, none⟩) (Nat.le_refl _) _
  · have : w'.frozen? ⟨m, 0, none⟩ = false := by rw [hb.frozen (p := ⟨m, 0, none⟩) (by show m < _; omega)]; exact h.fz
    simpa [go_sem] using this
  · rw [World.cell?_setCell_other _ _ _ _ (by intro e; injection e with e _ _; omega), hb.cell (p := ⟨m + 1, 0, none⟩) (by show m + 1 < _; omega)]; exact h.cap
  · have e : (bk ++ [bindT args[k] vs[k]]).length = bk.length + 1 := by simp
    rw [e, flatE_snoc]
    exact .inr (ownsRow_setCell_below ho (a := ⟨m, 0, none⟩) (by show m < _; omega) _)
  · rw [World.size_setCell]; exact Nat.le_trans h.size hb.size

set_option maxHeartbeats 8000000 in
set_option maxRecDepth 100000 in
theorem match_yes (k : Int) (p tp : ByteArray) (qa qt qb : Option Addr) (args b : List Tm) (vs : List Vl) (ca ct cb : Nat) (w : World) (h1 : Tms w w.heap.size qa args) (h2 : Rd encV 2 w w.heap.size qt vs) (h3 : Tms w w.heap.size qb b)
    (hb : b.length ≤ cb) (hc : cb ≤ maxLen) (hq : qb = none → cb = 0) (hla : args.length ≤ 100000) (hlb : b.length ≤ 100000) (ha : atomB k = true) (hp : (p.toList == tp.toList) = true) (hl : args.length = vs.length) :
    Calls Try.prog 9 #[.agg #[.int .u8 k, .string p, .slice qa args.length ca], .agg #[.string tp, .slice qt vs.length ct], .slice qb b.length cb] w (MatchPost (matchS args vs b) w) := by
  have HB := Lib.hid (show ∀ o1 o2, Below w.heap.size w ((w.alloc o1).alloc o2) from fun o1 o2 => below2 w o1 o2)
  have hl1 : args.length ≤ vs.length := by omega
  have hl2 : ((args.length : Int) != (vs.length : Int)) = false := by simp [hl]
  have hl3 : vs.length ≤ 100000 := by omega
  have hp2 : (p.toList != tp.toList) = false := by rw [bne, hp]; rfl
  have HL := Lib.hid hl
  clear hl
  go_enter Try.func9, Try.ntmps9
  go_wp2_with fail
  refine (atom_any _ _ _ _ _ _).mono ?_
  rintro e w1 ⟨rfl, hb1⟩
  have HB1 := Lib.hid (show Below w.heap.size w w1 from (HB.out _ _).trans (hb1.mono (HB.out _ _).size))
  have hw1 : w.heap.size + 2 ≤ w1.heap.size := by have := hb1.size; simp at this; omega
  have c1 : w1.cell? ⟨w.heap.size, 1, none⟩ = some (.string p) := by rw [hb1.cell (p := ⟨w.heap.size, 1, none⟩) (by simp; omega)]; simp [go_sem]
  have c2 : w1.cell? ⟨w.heap.size, 2, none⟩ = some (.slice qa args.length ca) := by rw [hb1.cell (p := ⟨w.heap.size, 2, none⟩) (by simp; omega)]; simp [go_sem]
  have c3 : w1.cell? ⟨w.heap.size + 1, 0, none⟩ = some (.string tp) := by rw [hb1.cell (p := ⟨w.heap.size + 1, 0, none⟩) (by simp)]; simp [go_sem]
  have c4 : w1.cell? ⟨w.heap.size + 1, 1, none⟩ = some (.slice qt vs.length ct) := by rw [hb1.cell (p := ⟨w.heap.size + 1, 1, none⟩) (by simp)]; simp [go_sem]
  have z1 : w.heap.size < w1.heap.size := by omega
  have z2 : w.heap.size + 1 < w1.heap.size := by omega
  have HA := Lib.hid (h1.grow HB1.out)
  have HV := Lib.hid (h2.grow HB1.out)
  have HT := Lib.hid (h3.grow HB1.out)
  have HW := Lib.hid hw1
  clear hb1 hw1 h1 h2 h3 HB
  generalize hhs : w.heap.size = hs at *
  have HH := Lib.hid hhs
  clear hhs
  go_wp2_with (first
    | (go_at_call 21; refine (clip_any qb b.length cb _ hb hc hq).mono ?_; rintro e w' ⟨rfl, rfl⟩)
    | (go_at_call 22; refine (finder_any _ _).mono ?_; rintro e w' ⟨rfl, rfl⟩))
  have hmx : w1.heap.size + 2 ≤ ((w1.alloc (.cells #[.slice qb b.length b.length] 28)).alloc (.cells #[.pointer (some ⟨w1.heap.size, 0, none⟩)] 55)).heap.size := by simp
  have HI := Lib.hid (show MInv w1 w1.heap.size args vs b 0 (.slice qb b.length b.length) b ((w1.alloc (.cells #[.slice qb b.length b.length] 28)).alloc (.cells #[.pointer (some ⟨w1.heap.size, 0, none⟩)] 55)) from
    ⟨rfl, Nat.le_refl _, below2 w1 _ _, by simp [go_sem], by simp [go_sem], by simp [go_sem], grw_clip EM (HT.out.grow (below2 w1 _ _)) (fun e => by have := hq e; exact List.length_eq_zero_iff.1 (by omega)) (by simp), hmx⟩)
  clear hmx hq hb hc
  generalize (w1.alloc (.cells #[.slice qb b.length b.length] 28)).alloc (.cells #[.pointer (some ⟨w1.heap.size, 0, none⟩)] 55) = W3 at *
  go_loopw [39] (fun i wr => ∃ (k : Nat) (bk : List Tm) (v : Value), k ≤ args.length ∧ i = .int .i64 k ∧ MInv w1 w1.heap.size args vs b k v bk wr) (fun i _ => args.length - (intOf i).toNat)
  case atStart => exact ⟨0, b, _, Nat.zero_le _, rfl, HI.out⟩
  case round =>
    obtain ⟨k', bk, v, hk, rfl, hi⟩ := hrel
    have HIN := Lib.hid hi
    have hbl := hi.len
    have hms := hi.size
    clear hi
    by_cases hlt : k' < args.length
    · have hlv : k' < vs.length := by omega
      obtain ⟨q, c, rfl, hrd, hqn⟩ := grw_form EM HIN.out.grw HIN.out.size
      have HRD := Lib.hid hrd
      clear hrd hqn
      obtain ⟨ab, ao, rfl, hab, x0, x1, x2⟩ := rdM_at (HA.out.below HIN.out.bel (Nat.le_refl _)) k' hlt
      have hab' : ab < wr.heap.size := by omega
      have hX := below1 wr (.cells #[.string args[k'].v, .string args[k'].s, .int .i64 args[k'].n] 48)
      have hX1 : (wr.alloc (.cells #[.string args[k'].v, .string args[k'].s, .int .i64 args[k'].n] 48)).cell? ⟨w1.heap.size + 1, 0, none⟩ = some (.pointer (some ⟨w1.heap.size, 0, none⟩)) := (HIN.out.on hX).cap
      have hX2 : (wr.alloc (.cells #[.string args[k'].v, .string args[k'].s, .int .i64 args[k'].n] 48)).cell? ⟨w1.heap.size, 0, none⟩ = some (.slice q bk.length c) := (HIN.out.on hX).all
      have HX1 := Lib.hid hX1
      have HX2 := Lib.hid hX2
      have HX := Lib.hid hX
      have HX3 := Lib.hid (HRD.out.grow hX)
      have hbm : bk.length ≤ maxLen := by unfold maxLen; omega
      clear hX hX1 hX2
      cases hlk : look bk args[k'] with
      | some u =>
        have HF := Lib.hid (fun W hc ha hl => find_some args[k'] u (w1.heap.size + 1) w1.heap.size q bk c W hlk hc ha hl hbm)
        have HLK := Lib.hid hlk
        clear hlk
        go_wp2_with fail
        refine (HF.out _ HX1.out HX2.out HX3.out).mono ?_
        rintro e w2 ⟨rfl, hb2⟩
        have HB2 := Lib.hid (show Below wr.heap.size wr w2 from HX.out.trans (hb2.mono HX.out.size))
        have HI2 := Lib.hid (HIN.out.on HB2.out)
        have d4 : w2.cell? ⟨hs + 1, 1, none⟩ = some (.slice qt vs.length ct) := by rw [HI2.out.bel.cell (p := ⟨hs + 1, 1, none⟩) z2]; exact c4
        obtain ⟨vb, vo, rfl, hvb, y0, y1⟩ := rdV_at (HV.out.below HI2.out.bel (Nat.le_refl _)) k' hlv
        have s2 := HI2.out.size
        have hvb' : vb < w2.heap.size := by omega
        have hz2' : hs + 1 < w2.heap.size := by omega
        have hkn : (0 : Int) ≤ (k' : Int) := by omega
        have hki : (k' : Int) < (vs.length : Int) := by omega
        have hwx := HB2.out.size
        clear hb2
        cases heq : eqV u vs[k'] with
        | true =>
          have hne := fun wx => (neV u vs[k'] wx).trans (by rw [heq])
          have HEQ := Lib.hid heq
          clear heq
          go_wp2_with fail
          go_quiet (fail)
          go_wp2_with fail
          go_roundw
          case rel => exact ⟨k' + 1, bk, _, by omega, by go_num, (HI2.out.on (below_drewN' (below1 w2 _) _)).next hlt hlv HLK.out HEQ.out⟩
          case measure => simp [intOf]; omega
        | false =>
          have hne := fun wx => (neV u vs[k'] wx).trans (by rw [heq])
          have HR := Lib.hid (show matchS args vs b = none by rw [HIN.out.eq, matchS_step _ _ _ k' hlt hlv, HLK.out]; simp only; rw [if_neg (by rw [heq]; decide)])
          clear heq
          go_wp2_with fail
          go_quiet (fail)
          go_wp2_with fail
          go_ret2
          rw [HR.out]
          refine ⟨rfl, ?_⟩
          rw [HH.out]
          exact HB1.out.trans (((HI2.out.on (below_drewN' (below1 w2 _) _)).bel).mono (by omega))
      | none =>
        have HF := Lib.hid (fun W hc ha hl => find_none args[k'] (w1.heap.size + 1) w1.heap.size q bk c W hlk hc ha hl hbm)
        have HLK := Lib.hid hlk
        clear hlk
        go_wp2_with fail
        refine (HF.out _ HX1.out HX2.out HX3.out).mono ?_
        rintro e w2 ⟨rfl, hb2⟩
        have HB2 := Lib.hid (show Below wr.heap.size wr w2 from HX.out.trans (hb2.mono HX.out.size))
        have HI2 := Lib.hid (HIN.out.on HB2.out)
        have d4 : w2.cell? ⟨hs + 1, 1, none⟩ = some (.slice qt vs.length ct) := by rw [HI2.out.bel.cell (p := ⟨hs + 1, 1, none⟩) z2]; exact c4
        obtain ⟨vb, vo, rfl, hvb, y0, y1⟩ := rdV_at (HV.out.below HI2.out.bel (Nat.le_refl _)) k' hlv
        have s2 := HI2.out.size
        have hvb' : vb < w2.heap.size := by omega
        have hz2' : hs + 1 < w2.heap.size := by omega
        have hkn : (0 : Int) ≤ (k' : Int) := by omega
        have hki : (k' : Int) < (vs.length : Int) := by omega
        have hwx := HB2.out.size
        have d5 : w2.cell? ⟨wr.heap.size, 0, none⟩ = some (.string args[k'].v) := by rw [hb2.cell (p := ⟨wr.heap.size, 0, none⟩) (by simp)]; simp [go_sem]
        have d6 : w2.cell? ⟨w1.heap.size, 0, none⟩ = some (.slice q bk.length c) := HI2.out.all
        have d7 : w2.frozen? ⟨w1.heap.size, 0, none⟩ = false := HI2.out.fz
        have hz3 : wr.heap.size < w2.heap.size := by have := hb2.size; simp at this; omega
        have hz4 : w1.heap.size < w2.heap.size := by omega
        clear hb2
        go_wp2_with fail
        go_quiet (fail)
        go_wp2_with fail
        rename_i nq _
        have hb4 : Below w2.heap.size w2 ((w2.alloc (.cells #[.string ⟨#[]⟩, .int .i64 0] 46)).drewN nq) := below_drewN' (below1 w2 _) _
        have HI4 := Lib.hid (HI2.out.on hb4)
        have e4 := d4
        rw [← hb4.cell (p := ⟨hs + 1, 1, none⟩) hz2'] at e4
        have e5 := d5
        rw [← hb4.cell (p := ⟨wr.heap.size, 0, none⟩) hz3] at e5
        have e6 := HI4.out.all
        have e7 := HI4.out.fz
        have y0' := y0
        rw [← hb4.cell (p := ⟨vb, vo + k' * 2, none⟩) hvb'] at y0'
        have y1' := y1
        rw [← hb4.cell (p := ⟨vb, vo + k' * 2 + 1, none⟩) hvb'] at y1'
        have s4 := HI4.out.size
        have hvb4 := Nat.lt_of_lt_of_le hvb' hb4.size
        have hz24 := Nat.lt_of_lt_of_le hz2' hb4.size
        have hz34 := Nat.lt_of_lt_of_le hz3 hb4.size
        have hz44 := Nat.lt_of_lt_of_le hz4 hb4.size
        clear hb4 y0 y1 d4 d5 d6 d7
        generalize (w2.alloc (.cells #[.string ⟨#[]⟩, .int .i64 0] 46)).drewN nq = W4 at *
        obtain ⟨i0, hi, hz0, hz1, hzb⟩ := info_parts infoBind
        have hm1 : bk.length + 1 ≤ maxLen := by unfold maxLen; omega
        have hm2 : (bk.length + 1) * 40 ≤ 140737488355328 := by omega
        have HM1 := Lib.hid hm1
        have HM2 := Lib.hid hm2
        clear hm1 hm2
        go_region_law (refine step_append_grw rfl (.tmp 62) (.tmp 71) 28 rfl (w1.heap.size + 2) 50 i0 _ 3 40 underB hi hz0 hz1 hzb rfl (by omega) _ bk.length (flatE encM bk) (by rfl) (HI4.out.on (by first | exact below1 _ _ | exact (below1 _ _).drew)).grw ⟨W4.heap.size, 0, none⟩ 1 1 (encM (bindT args[k'] vs[k'])) (by rfl) (by rfl) (news_alloc _ _ _) (EM.one _) (by omega) HM1.out HM2.out (HI4.out.on (by first | exact below1 _ _ | exact (below1 _ _).drew)).size ?_; intro g cap w5 ho hb5 hge hlt5; have q0 := hb5.cell (p := ⟨w1.heap.size, 0, none⟩) (by show w1.heap.size < _; omega); have q1 := hb5.frozen (p := ⟨w1.heap.size, 0, none⟩) (by show w1.heap.size < _; omega))
        all_goals
          go_wp2_with fail
          refine ⟨⟨k' + 1, bk ++ [bindT args[k'] vs[k']], _, by omega, by go_num, (HI4.out.on (by first | exact below1 _ _ | exact (below1 _ _).drew)).push hlt hlv HLK.out ho hb5⟩, by simp [intOf]; omega⟩
    · have HR := Lib.hid (show matchS args vs b = some bk by rw [HIN.out.eq, matchS_end _ _ _ _ (by omega)])
      obtain ⟨q, c, rfl, hrd, hqn⟩ := grw_form EM HIN.out.grw HIN.out.size
      have HRD := Lib.hid hrd
      clear hrd hqn
      have d6 := HIN.out.all
      have hm40 : bk.length * 40 ≤ 140737488355328 := by omega
      go_wp2_with fail
      refine (cloneB_any q bk c _ HRD.out hm40).mono ?_
      rintro e w2 ⟨vv, rfl, hmade, hb2⟩
      have HMD := Lib.hid hmade
      have HB2 := Lib.hid hb2
      clear hmade hb2
      go_wp2_with fail
      go_ret2
      rw [HR.out]
      refine ⟨_, rfl, HMD.out, ?_⟩
      rw [HH.out]
      exact HB1.out.trans ((HIN.out.bel.trans (HB2.out.mono (by omega))).mono (by omega))

set_option maxHeartbeats 2000000 in
set_option maxRecDepth 100000 in
theorem match_no (k : Int) (p tp : ByteArray) (qa qt qb : Option Addr) (na nt nb ca ct cb : Nat) (w : World) (_hna : na ≤ maxLen) (_hnt : nt ≤ maxLen) (h : atomB k = false ∨ (p.toList == tp.toList) = false ∨ na ≠ nt) :
    Calls Try.prog 9 #[.agg #[.int .u8 k, .string p, .slice qa na ca], .agg #[.string tp, .slice qt nt ct], .slice qb nb cb] w fun e w' => e = .returned (.tuple #[.slice none 0 0, .bool false]) ∧ Below w.heap.size w w' := by
  have HB := Lib.hid (show ∀ o1 o2, Below w.heap.size w ((w.alloc o1).alloc o2) from fun o1 o2 => below2 w o1 o2)
  skip
  have H := Lib.hid h
  clear h
  go_enter Try.func9, Try.ntmps9
  go_wp2_with fail
  refine (atom_any _ _ _ _ _ _).mono ?_
  rintro e w1 ⟨rfl, hb1⟩
  have HB1 := Lib.hid (show Below w.heap.size w w1 from (HB.out _ _).trans (hb1.mono (HB.out _ _).size))
  have hw1 : w.heap.size + 2 ≤ w1.heap.size := by have := hb1.size; simp at this; omega
  have c1 : w1.cell? ⟨w.heap.size, 1, none⟩ = some (.string p) := by rw [hb1.cell (p := ⟨w.heap.size, 1, none⟩) (by simp; omega)]; simp [go_sem]
  have c2 : w1.cell? ⟨w.heap.size, 2, none⟩ = some (.slice qa na ca) := by rw [hb1.cell (p := ⟨w.heap.size, 2, none⟩) (by simp; omega)]; simp [go_sem]
  have c3 : w1.cell? ⟨w.heap.size + 1, 0, none⟩ = some (.string tp) := by rw [hb1.cell (p := ⟨w.heap.size + 1, 0, none⟩) (by simp)]; simp [go_sem]
  have c4 : w1.cell? ⟨w.heap.size + 1, 1, none⟩ = some (.slice qt nt ct) := by rw [hb1.cell (p := ⟨w.heap.size + 1, 1, none⟩) (by simp)]; simp [go_sem]
  have HW := Lib.hid hw1
  clear hb1 hw1 HB
  generalize hhs : w.heap.size = hs at *
  have HH := Lib.hid hhs
  clear hhs
  cases ha : atomB k with
  | false =>
    go_wp2_with fail
    go_ret2
    exact ⟨rfl, HH.out.symm ▸ HB1.out⟩
  | true =>
    cases hp : (p.toList == tp.toList) with
    | false =>
      have hp2 : (p.toList != tp.toList) = true := by rw [bne, hp]; rfl
      go_wp2_with fail
      go_ret2
      exact ⟨rfl, HH.out.symm ▸ HB1.out⟩
    | true =>
      have hp2 : (p.toList != tp.toList) = false := by rw [bne, hp]; rfl
      have hl2 : ((na : Int) != (nt : Int)) = true := by
        rcases H.out with h | h | h
        · rw [ha] at h; cases h
        · rw [hp] at h; cases h
        · simp; omega
      go_wp2_with fail
      go_ret2
      exact ⟨rfl, HH.out.symm ▸ HB1.out⟩

/-- What a literal comes to, held against a tuple. -/
def matchF (k : Int) (p : ByteArray) (args : List Tm) (tp : ByteArray) (vs : List Vl) (b : List Tm) : Option (List Tm) :=
  if atomB k && (p.toList == tp.toList) && decide (args.length = vs.length) then matchS args vs b else none
theorem match_any (k : Int) (p tp : ByteArray) (qa qt qb : Option Addr) (args b : List Tm) (vs : List Vl) (ca ct cb : Nat) (w : World) (h1 : Tms w w.heap.size qa args) (h2 : Rd encV 2 w w.heap.size qt vs) (h3 : Tms w w.heap.size qb b)
    (hb : b.length ≤ cb) (hc : cb ≤ maxLen) (hq : qb = none → cb = 0) (hla : args.length ≤ 100000) (hlb : b.length ≤ 100000) (hlv : vs.length ≤ maxLen) :
    Calls Try.prog 9 #[.agg #[.int .u8 k, .string p, .slice qa args.length ca], .agg #[.string tp, .slice qt vs.length ct], .slice qb b.length cb] w (MatchPost (matchF k p args tp vs b) w) := by
  unfold matchF
  cases ha : atomB k with
  | false => exact match_no k p tp qa qt qb args.length vs.length b.length ca ct cb w (by unfold maxLen; omega) hlv (.inl ha)
  | true =>
    cases hp : (p.toList == tp.toList) with
    | false => exact match_no k p tp qa qt qb args.length vs.length b.length ca ct cb w (by unfold maxLen; omega) hlv (.inr (.inl hp))
    | true =>
      by_cases hl : args.length = vs.length
      · simp only [hl, decide_true, Bool.and_true, if_pos]
        rw [← hl]
        have := match_yes k p tp qa qt qb args b vs ca ct cb w h1 h2 h3 hb hc hq hla hlb ha hp hl
        rwa [← hl] at this
      · simp only [hl, decide_false, Bool.and_false]
        exact match_no k p tp qa qt qb args.length vs.length b.length ca ct cb w (by unfold maxLen; omega) hlv (.inr (.inr hl))
end Go.Proofs.Ytmfaallipfhajaa
