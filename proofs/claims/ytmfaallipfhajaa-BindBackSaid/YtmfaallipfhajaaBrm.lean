/-
  Contract: the reference's Match.
-/
import Derived.Test.YtmfaallipfhajaaBrv
import Derived.Test.YtmfaallipfhajaaBfl
namespace Go.Proofs.Ytmfaallipfhajaa
open Go.RowKit

def SzM (l : List Tm) : Prop := ∀ i (h : i < l.length), l[i].v.size ≤ maxLen ∧ l[i].s.size ≤ maxLen

theorem owns_of_copy {α : Type} {enc : α → List Value} {k : Nat} {w w' : World} {base E d cap : Nat} {p p' : Option Addr} {l : List α} (h1 : w'.ownsRow base E k (.slice p' l.length cap) l.length (flatE enc l) ∨ l = []) (h3 : l = [] → p' = p ∧ cap = d ∧ w' = w) (ho : w.ownsRow base E k (.slice p 0 d) 0 []) : w'.ownsRow base E k (.slice p' l.length cap) l.length (flatE enc l) := by
  by_cases hl : l = []
  · obtain ⟨rfl, rfl, rfl⟩ := h3 hl
    subst hl
    exact ho
  · rcases h1 with h1 | h1
    · exact h1
    · exact absurd h1 hl
structure RInv (w1 : World) (args : List Tm) (vs : List Vl) (b : List Tm) (k : Nat) (v : Value) (bk : List Tm) (wr : World) : Prop where
  eq : matchS args vs b = matchS (args.drop k) (vs.drop k) bk
  len : bk.length ≤ b.length + k
  bel : Below w1.heap.size w1 wr
  grw : wr.ownsRow w1.heap.size 50 3 v bk.length (flatE encM bk)
  size : w1.heap.size ≤ wr.heap.size
theorem RInv.on {w1 : World} {args : List Tm} {vs : List Vl} {b : List Tm} {k : Nat} {v : Value} {bk : List Tm} {wr w' : World} (h : RInv w1 args vs b k v bk wr) (hb : Below wr.heap.size wr w') : RInv w1 args vs b k v bk w' :=
  ⟨h.eq, h.len, h.bel.trans (hb.mono h.size), owns_on h.grw hb (Nat.le_refl _), Nat.le_trans h.size hb.size⟩
theorem RInv.next {w1 : World} {args : List Tm} {vs : List Vl} {b : List Tm} {k : Nat} {v : Value} {bk : List Tm} {wr : World} (h : RInv w1 args vs b k v bk wr) (h1 : k < args.length) (h2 : k < vs.length) {u : Vl} (hu : look bk args[k] = some u) (he : eqV u vs[k] = true) : RInv w1 args vs b (k + 1) v bk wr :=
  ⟨by rw [h.eq, matchS_step _ _ _ k h1 h2, hu]; simp only; rw [if_pos he], by have := h.len; omega, h.bel, h.grw, h.size⟩
theorem RInv.push {w1 : World} {args : List Tm} {vs : List Vl} {b : List Tm} {k : Nat} {v : Value} {bk : List Tm} {wr w' : World} (h : RInv w1 args vs b k v bk wr) (h1 : k < args.length) (h2 : k < vs.length) (hu : look bk args[k] = none) {v' : Value} (ho : w'.ownsRow w1.heap.size 50 3 v' (bk.length + 1) (flatE encM bk ++ encM (bindT args[k] vs[k]))) (hb : Below w1.heap.size wr w') :
    RInv w1 args vs b (k + 1) v' (bk ++ [bindT args[k] vs[k]]) w' :=
  ⟨by rw [h.eq, matchS_step _ _ _ k h1 h2, hu], by have := h.len; simp; omega, h.bel.trans hb, by
    have e : (bk ++ [bindT args[k] vs[k]]).length = bk.length + 1 := by simp
    rw [e, flatE_snoc]; exact ho, Nat.le_trans h.size hb.size⟩

set_option maxHeartbeats 8000000 in
set_option maxRecDepth 100000 in
theorem refmatch_yes (k : Int) (p tp : ByteArray) (qa qt qb : Option Addr) (args b : List Tm) (vs : List Vl) (ca ct cb : Nat) (w : World) (h1 : Tms w w.heap.size qa args) (h2 : Rd encV 2 w w.heap.size qt vs) (h3 : Tms w w.heap.size qb b) (hsz : SzM args)
    (hla : args.length ≤ 100000) (hlb : b.length ≤ 100000) (ha : k = 1 ∨ k = 2) (hp : (p.toList == tp.toList) = true) (hl : args.length = vs.length) :
    Calls Try.prog 11 #[.agg #[.int .u8 k, .string p, .slice qa args.length ca], .agg #[.string tp, .slice qt vs.length ct], .slice qb b.length cb] w (MatchPost (matchS args vs b) w) := by
  have HB := Lib.hid (below2 w (.cells #[.int .u8 k, .string p, .slice qa args.length ca] 24) (.cells #[.string tp, .slice qt vs.length ct] 27))
  have hl1 : args.length ≤ vs.length := by omega
  have hl4 : vs.length ≤ args.length := by omega
  have hl2 : ((args.length : Int) != (vs.length : Int)) = false := by simp [hl]
  have hl3 : vs.length ≤ 100000 := by omega
  have hp2 : (p.toList != tp.toList) = false := by rw [bne, hp]; rfl
  have HSZ := Lib.hid hsz
  have HAB := Lib.hid ha
  have c2 : ((w.alloc (.cells #[.int .u8 k, .string p, .slice qa args.length ca] 24)).alloc (.cells #[.string tp, .slice qt vs.length ct] 27)).cell? ⟨w.heap.size, 2, none⟩ = some (.slice qa args.length ca) := by simp [go_sem]
  have c4 : ((w.alloc (.cells #[.int .u8 k, .string p, .slice qa args.length ca] 24)).alloc (.cells #[.string tp, .slice qt vs.length ct] 27)).cell? ⟨w.heap.size + 1, 1, none⟩ = some (.slice qt vs.length ct) := by simp [go_sem]
  have z1 : w.heap.size < ((w.alloc (.cells #[.int .u8 k, .string p, .slice qa args.length ca] 24)).alloc (.cells #[.string tp, .slice qt vs.length ct] 27)).heap.size := by simp; omega
  have z2 : w.heap.size + 1 < ((w.alloc (.cells #[.int .u8 k, .string p, .slice qa args.length ca] 24)).alloc (.cells #[.string tp, .slice qt vs.length ct] 27)).heap.size := by simp
  have HA := Lib.hid (h1.grow HB.out)
  have HV := Lib.hid (h2.grow HB.out)
  have HT := Lib.hid (h3.grow HB.out)
  have C2 := Lib.hid c2
  have C4 := Lib.hid c4
  have Z1 := Lib.hid z1
  have Z2 := Lib.hid z2
  have hk1 : (k != 1 && k != 2) = false := by rcases ha with rfl | rfl <;> rfl
  have hmv : vs.length ≤ 9223372036854775807 := by omega
  clear hl h1 h2 h3 hsz c2 c4 z1 z2
  obtain ⟨i0, hi, hz0, hz1, hzb⟩ := info_parts infoBind
  have HM0 := Lib.hid (show b.length ≤ maxLen by unfold maxLen; omega)
  have HM00 := Lib.hid (show b.length * 40 ≤ 140737488355328 by omega)
  have HK := Lib.hid hk1
  clear hk1
  have hWs : ((w.alloc (.cells #[.int .u8 k, .string p, .slice qa args.length ca] 24)).alloc (.cells #[.string tp, .slice qt vs.length ct] 27)).heap.size = w.heap.size + 1 + 1 := by simp
  have HG := Lib.hid (show Grw (((w.alloc (.cells #[.int .u8 k, .string p, .slice qa args.length ca] 24)).alloc (.cells #[.string tp, .slice qt vs.length ct] 27)).alloc (.cells #[] 50)) (w.heap.size + 1 + 1) 50 3 (.slice (some ⟨w.heap.size + 1 + 1, 0, none⟩) 0 0) 0 [] by
    have := grw_made (w := (w.alloc (.cells #[.int .u8 k, .string p, .slice qa args.length ca] 24)).alloc (.cells #[.string tp, .slice qt vs.length ct] 27)) (E := 50) (k := 3) (Nat.le_of_eq hWs.symm)
    rw [hWs] at this; exact this)
  have HT3 := Lib.hid (HT.out.grow (below1 _ (.cells #[] 50)))
  have HBS := Lib.hid (show w.heap.size + 1 + 1 ≤ (((w.alloc (.cells #[.int .u8 k, .string p, .slice qa args.length ca] 24)).alloc (.cells #[.string tp, .slice qt vs.length ct] 27)).alloc (.cells #[] 50)).heap.size by simp)
  have HWS := Lib.hid hWs
  clear hWs HT
  have HO := Lib.hid (show (((w.alloc (.cells #[.int .u8 k, .string p, .slice qa args.length ca] 24)).alloc (.cells #[.string tp, .slice qt vs.length ct] 27)).alloc (.cells #[] 50)).ownsRow (w.heap.size + 1 + 1) 50 3 (.slice (some ⟨w.heap.size + 1 + 1, 0, none⟩) 0 0) 0 [] by
    have := World.ownsRow_made (base := w.heap.size + 1 + 1) (e := 50) (size := 3) ((w.alloc (.cells #[.int .u8 k, .string p, .slice qa args.length ca] 24)).alloc (.cells #[.string tp, .slice qt vs.length ct] 27)) #[] 0 (Nat.le_of_eq HWS.out.symm) (by decide) (by simp)
    rw [HWS.out] at this; exact this)
  have hq : (k != 1) = false ∨ ((k != 1) = true ∧ (k != 2) = false) := by rcases ha with rfl | rfl <;> simp
  clear ha
  rcases hq with hq1 | ⟨hq1, hq2⟩
  all_goals
    go_enter Try.func11, Try.ntmps11
    go_wp2_with (at_builtin; refine wpList_copyE EM rfl _ _ 28 rfl (w.heap.size + 1 + 1) 50 i0 _ 40 underB hi hz0 hz1 hzb rfl _ 0 rfl HG.out _ b cb rfl HT3.out HM0.out HM00.out HBS.out ?_; intro p' cap w2 hc1 hc2 hc3 hc4)
    have HOO := Lib.hid (owns_of_copy hc1 hc3 HO.out)
    have HC4 := Lib.hid hc4
    clear hc1 hc2 hc3 hc4 HG HT3 HBS HO
    generalize (w.alloc (.cells #[.int .u8 k, .string p, .slice qa args.length ca] 24)).alloc (.cells #[.string tp, .slice qt vs.length ct] 27) = W1 at *
    generalize hhs : w.heap.size = hs at *
    have HH := Lib.hid hhs
    clear hhs
    have HI := Lib.hid (show RInv W1 args vs b 0 (.slice p' b.length cap) b w2 from ⟨rfl, Nat.le_refl _, (below1 W1 _).trans (HC4.out.mono (Nat.le_of_eq HWS.out)), by rw [HWS.out]; exact HOO.out, Nat.le_trans (by simp) HC4.out.size⟩)
    clear HC4 HOO
    go_loopw [8, 9] (fun sv i wr => ∃ (k : Nat) (bk : List Tm), k ≤ args.length ∧ i = .int .i64 k ∧ RInv W1 args vs b k sv bk wr) (fun _ i _ => args.length - (intOf i).toNat)
    case atStart => exact ⟨0, b, Nat.zero_le _, rfl, HI.out⟩
    case round =>
      obtain ⟨k', bk, hk, rfl, hi'⟩ := hrel
      have HIN := Lib.hid hi'
      have hbl := hi'.len
      have hms := hi'.size
      have c2 : wr.cell? ⟨hs, 2, none⟩ = some (.slice qa args.length ca) := (hi'.bel.cell (p := ⟨hs, 2, none⟩) Z1.out).trans C2.out
      have c4 : wr.cell? ⟨hs + 1, 1, none⟩ = some (.slice qt vs.length ct) := (hi'.bel.cell (p := ⟨hs + 1, 1, none⟩) Z2.out).trans C4.out
      clear hi'
      by_cases hlt : k' < args.length
      · have hlv : k' < vs.length := by omega
        obtain ⟨q, c, rfl, hrd, hqn⟩ := grw_form EM (.inr HIN.out.grw) HIN.out.size
        have HRD := Lib.hid hrd
        clear hrd hqn
        obtain ⟨ab, ao, rfl, hab, x0, x1, x2⟩ := rdM_at (HA.out.below HIN.out.bel (Nat.le_refl _)) k' hlt
        have hab' : ab < wr.heap.size := by omega
        have HSK := Lib.hid (HSZ.out k' hlt).1
        have hbm : bk.length ≤ maxLen := by unfold maxLen; omega
        have hkn : (0 : Int) ≤ (k' : Int) := by omega
        have hki : (k' : Int) < (vs.length : Int) := by omega
        have hka : (k' : Int) < (args.length : Int) := by omega
        cases hlk : look bk args[k'] with
        | some u =>
          have HF := Lib.hid (refvalue_any args[k'] q bk c wr HRD.out hbm HSK.out u true (by rw [hlk]; rfl))
          have HLK := Lib.hid hlk
          clear hlk
          go_wp2_with fail
          refine HF.out.mono ?_
          rintro e w3 ⟨rfl, hb3⟩
          have HB3 := Lib.hid hb3
          have HI2 := Lib.hid (HIN.out.on hb3)
          have hwx := hb3.size
          have d4 : w3.cell? ⟨hs + 1, 1, none⟩ = some (.slice qt vs.length ct) := (HI2.out.bel.cell (p := ⟨hs + 1, 1, none⟩) Z2.out).trans C4.out
          obtain ⟨vb, vo, rfl, hvb, y0, y1⟩ := rdV_at (HV.out.below HI2.out.bel (Nat.le_refl _)) k' hlv
          have hvb' : vb < w3.heap.size := by omega
          have hz2' : hs + 1 < w3.heap.size := Nat.lt_of_lt_of_le Z2.out (by omega)
          clear hb3 c2 c4
          cases heq : eqV u vs[k'] with
          | true =>
            have hne := fun wx => (neV u vs[k'] wx).trans (by rw [heq])
            have HEQ := Lib.hid heq
            clear heq
            go_wp2_with fail
            go_quiet (fail)
            go_wp2_with fail
            refine ⟨⟨k' + 1, bk, by omega, by go_num, (HI2.out.on (below_drewN' (below1 w3 _) _)).next hlt hlv HLK.out HEQ.out⟩, by simp [intOf]; omega⟩
          | false =>
            have hne := fun wx => (neV u vs[k'] wx).trans (by rw [heq])
            have HR := Lib.hid (show matchS args vs b = none by rw [HIN.out.eq, matchS_step _ _ _ k' hlt hlv, HLK.out]; simp only; rw [if_neg (by rw [heq]; decide)])
            clear heq
            go_wp2_with fail
            go_quiet (fail)
            go_wp2_with fail
            go_ret2
            rw [HR.out]
            refine ⟨rfl, ?_⟩
            rw [HH.out]
            exact HB.out.trans (((HI2.out.on (below_drewN' (below1 w3 _) _)).bel).mono (Nat.le_of_lt Z1.out))
        | none =>
          have HF := Lib.hid (refvalue_any args[k'] q bk c wr HRD.out hbm HSK.out (⟨#[]⟩, 0) false (by rw [hlk]; rfl))
          have HLK := Lib.hid hlk
          clear hlk
          go_wp2_with fail
          refine HF.out.mono ?_
          rintro e w3 ⟨rfl, hb3⟩
          have hb4 : Below wr.heap.size wr (w3.alloc (.cells #[.string ⟨#[]⟩, .int .i64 0] 46)) := hb3.alloc hb3.size _
          have HI4 := Lib.hid (HIN.out.on hb4)
          have hwx := hb4.size
          have e2 : (w3.alloc (.cells #[.string ⟨#[]⟩, .int .i64 0] 46)).cell? ⟨hs, 2, none⟩ = some (.slice (some ⟨ab, ao, none⟩) args.length ca) := (HI4.out.bel.cell (p := ⟨hs, 2, none⟩) Z1.out).trans C2.out
          have e4 : (w3.alloc (.cells #[.string ⟨#[]⟩, .int .i64 0] 46)).cell? ⟨hs + 1, 1, none⟩ = some (.slice qt vs.length ct) := (HI4.out.bel.cell (p := ⟨hs + 1, 1, none⟩) Z2.out).trans C4.out
          have e5 := (hb4.cell (p := ⟨ab, ao + k' * 3, none⟩) hab').trans x0
          obtain ⟨vb, vo, rfl, hvb, y0, y1⟩ := rdV_at (HV.out.below HI4.out.bel (Nat.le_refl _)) k' hlv
          clear c2 c4 x0 x1 x2
          go_wp2_with fail
          have hz2' : hs + 1 < (w3.alloc (.cells #[.string ⟨#[]⟩, .int .i64 0] 46)).heap.size := Nat.lt_of_lt_of_le Z2.out (by omega)
          have hz1' : hs < (w3.alloc (.cells #[.string ⟨#[]⟩, .int .i64 0] 46)).heap.size := by omega
          have hvb' : vb < (w3.alloc (.cells #[.string ⟨#[]⟩, .int .i64 0] 46)).heap.size := by omega
          have hab2 : ab < (w3.alloc (.cells #[.string ⟨#[]⟩, .int .i64 0] 46)).heap.size := by omega
          clear hb4 hb3 hwx
          generalize w3.alloc (.cells #[.string ⟨#[]⟩, .int .i64 0] 46) = W4 at *
          have HM1 := Lib.hid (show bk.length + 1 ≤ maxLen by unfold maxLen; omega)
          have HM2 := Lib.hid (show (bk.length + 1) * 40 ≤ 140737488355328 by omega)
          go_region_law (refine step_append_grw rfl (.tmp 58) (.tmp 71) 28 rfl W1.heap.size 50 i0 _ 3 40 underB hi hz0 hz1 hzb rfl (by omega) _ bk.length (flatE encM bk) (by rfl) (.inr (HI4.out.on (by first | exact below1 _ _ | exact (below1 _ _).drew)).grw) ⟨W4.heap.size, 0, none⟩ 1 1 (encM (bindT args[k'] vs[k'])) (by rfl) (by rfl) (news_alloc _ _ _) (EM.one _) (by omega) HM1.out HM2.out (HI4.out.on (by first | exact below1 _ _ | exact (below1 _ _).drew)).size ?_; intro g cap w5 ho hb5 hge hlt5)
          all_goals
            go_wp2_with fail
            refine ⟨⟨k' + 1, bk ++ [bindT args[k'] vs[k']], by omega, by go_num, (HI4.out.on (by first | exact below1 _ _ | exact (below1 _ _).drew)).push hlt hlv HLK.out ho hb5⟩, by simp [intOf]; omega⟩
      · have HR := Lib.hid (show matchS args vs b = some bk by rw [HIN.out.eq, matchS_end _ _ _ _ (by omega)])
        have HMD := Lib.hid (made_of_owns EM HIN.out.grw)
        have hnl : ¬ k' < vs.length := by omega
        go_wp2_with fail
        go_ret2
        rw [HR.out]
        refine ⟨_, rfl, HMD.out, ?_⟩
        rw [HH.out]
        exact HB.out.trans (HIN.out.bel.mono (Nat.le_of_lt Z1.out))

set_option maxHeartbeats 4000000 in
set_option maxRecDepth 100000 in
theorem refmatch_no (k : Int) (p tp : ByteArray) (qa qt qb : Option Addr) (na nt nb ca ct cb : Nat) (w : World) (_hna : na ≤ maxLen) (_hnt : nt ≤ maxLen) (h : (k ≠ 1 ∧ k ≠ 2) ∨ (p.toList == tp.toList) = false ∨ na ≠ nt) :
    Calls Try.prog 11 #[.agg #[.int .u8 k, .string p, .slice qa na ca], .agg #[.string tp, .slice qt nt ct], .slice qb nb cb] w fun e w' => e = .returned (.tuple #[.slice none 0 0, .bool false]) ∧ Below w.heap.size w w' := by
  have HB := Lib.hid (show ∀ o1 o2, Below w.heap.size w ((w.alloc o1).alloc o2) from fun o1 o2 => below2 w o1 o2)
  skip
  have hq : (k != 1) = false ∨ ((k != 1) = true ∧ (k != 2) = false) ∨ ((k != 1) = true ∧ (k != 2) = true) := by
    cases h1 : k != 1 <;> cases h2 : k != 2 <;> simp
  rcases hq with hq1 | ⟨hq1, hq2⟩ | ⟨hq1, hq2⟩
  · cases hp : (p.toList == tp.toList) with
    | false =>
      have hp2 : (p.toList != tp.toList) = true := by rw [bne, hp]; rfl
      clear h
      go_enter Try.func11, Try.ntmps11
      go_wp2_with fail
      go_ret2
      exact ⟨rfl, HB.out _ _⟩
    | true =>
      have hp2 : (p.toList != tp.toList) = false := by rw [bne, hp]; rfl
      have hl2 : ((na : Int) != (nt : Int)) = true := by
        rcases h with h | h | h
        · exact absurd (by simpa using hq1) h.1
        · rw [hp] at h; cases h
        · simp; omega
      clear h
      go_enter Try.func11, Try.ntmps11
      go_wp2_with fail
      go_ret2
      exact ⟨rfl, HB.out _ _⟩
  · cases hp : (p.toList == tp.toList) with
    | false =>
      have hp2 : (p.toList != tp.toList) = true := by rw [bne, hp]; rfl
      clear h
      go_enter Try.func11, Try.ntmps11
      go_wp2_with fail
      go_ret2
      exact ⟨rfl, HB.out _ _⟩
    | true =>
      have hp2 : (p.toList != tp.toList) = false := by rw [bne, hp]; rfl
      have hl2 : ((na : Int) != (nt : Int)) = true := by
        rcases h with h | h | h
        · exact absurd (by simpa using hq2) h.2
        · rw [hp] at h; cases h
        · simp; omega
      clear h
      go_enter Try.func11, Try.ntmps11
      go_wp2_with fail
      go_ret2
      exact ⟨rfl, HB.out _ _⟩
  · clear h
    go_enter Try.func11, Try.ntmps11
    go_wp2_with fail
    go_ret2
    exact ⟨rfl, HB.out _ _⟩

theorem atomB_iff (k : Int) : atomB k = true ↔ k = 1 ∨ k = 2 := by simp [atomB]
theorem refmatch_any (k : Int) (p tp : ByteArray) (qa qt qb : Option Addr) (args b : List Tm) (vs : List Vl) (ca ct cb : Nat) (w : World) (h1 : Tms w w.heap.size qa args) (h2 : Rd encV 2 w w.heap.size qt vs) (h3 : Tms w w.heap.size qb b) (hsz : SzM args)
    (hla : args.length ≤ 100000) (hlb : b.length ≤ 100000) (hlv : vs.length ≤ maxLen) :
    Calls Try.prog 11 #[.agg #[.int .u8 k, .string p, .slice qa args.length ca], .agg #[.string tp, .slice qt vs.length ct], .slice qb b.length cb] w (MatchPost (matchF k p args tp vs b) w) := by
  unfold matchF
  cases ha : atomB k with
  | false => exact refmatch_no k p tp qa qt qb args.length vs.length b.length ca ct cb w (by unfold maxLen; omega) hlv (.inl (by constructor <;> (rintro rfl; cases ha)))
  | true =>
    cases hp : (p.toList == tp.toList) with
    | false => exact refmatch_no k p tp qa qt qb args.length vs.length b.length ca ct cb w (by unfold maxLen; omega) hlv (.inr (.inl hp))
    | true =>
      by_cases hl : args.length = vs.length
      · simp only [hl, decide_true, Bool.and_true, if_pos]
        rw [← hl]
        have := refmatch_yes k p tp qa qt qb args b vs ca ct cb w h1 h2 h3 hsz hla hlb ((atomB_iff k).1 ha) hp hl
        rwa [← hl] at this
      · simp only [hl, decide_false, Bool.and_false]
        exact refmatch_no k p tp qa qt qb args.length vs.length b.length ca ct cb w (by unfold maxLen; omega) hlv (.inr (.inr hl))
end Go.Proofs.Ytmfaallipfhajaa
