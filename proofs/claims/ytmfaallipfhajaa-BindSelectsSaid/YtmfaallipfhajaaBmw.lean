/-
  The walk of mandatelaw10.BindMatches: it answers true.
-/
import Derived.Test.YtmfaallipfhajaaBfw
import Derived.Deep.DeepCutAuto
namespace Go.Proofs.Ytmfaallipfhajaa
open Go.RowKit

/-- a literal's box, a tuple's box, and what is there of them and of bindings -/
structure LM (w : World) (k : Int) (p : ByteArray) (qa : Option Addr) (args : List Tm) (ca : Nat) (tp : ByteArray) (qt : Option Addr) (vs : List Vl) (ct : Nat) (qb : Option Addr) (b : List Tm) (X : World) : Prop where
  c0 : X.cell? ⟨w.heap.size, 0, none⟩ = some (.int .u8 k)
  c1 : X.cell? ⟨w.heap.size, 1, none⟩ = some (.string p)
  c2 : X.cell? ⟨w.heap.size, 2, none⟩ = some (.slice qa args.length ca)
  d0 : X.cell? ⟨w.heap.size + 1, 0, none⟩ = some (.string tp)
  d1 : X.cell? ⟨w.heap.size + 1, 1, none⟩ = some (.slice qt vs.length ct)
  lt : w.heap.size + 1 < X.heap.size
  ra : Tms X X.heap.size qa args
  rv : Rd encV 2 X X.heap.size qt vs
  rb : Tms X X.heap.size qb b
  bel : Below w.heap.size w X
theorem LM.on {w : World} {k : Int} {p : ByteArray} {qa : Option Addr} {args : List Tm} {ca : Nat} {tp : ByteArray} {qt : Option Addr} {vs : List Vl} {ct : Nat} {qb : Option Addr} {b : List Tm} {X X' : World} (h : LM w k p qa args ca tp qt vs ct qb b X) (hb : Below X.heap.size X X') : LM w k p qa args ca tp qt vs ct qb b X' := by
  have hl := h.lt
  exact ⟨(hb.cell (p := ⟨w.heap.size, 0, none⟩) (by show w.heap.size < _; omega)).trans h.c0, (hb.cell (p := ⟨w.heap.size, 1, none⟩) (by show w.heap.size < _; omega)).trans h.c1, (hb.cell (p := ⟨w.heap.size, 2, none⟩) (by show w.heap.size < _; omega)).trans h.c2, (hb.cell (p := ⟨w.heap.size + 1, 0, none⟩) hl).trans h.d0, (hb.cell (p := ⟨w.heap.size + 1, 1, none⟩) hl).trans h.d1, Nat.lt_of_lt_of_le hl hb.size, h.ra.grow hb, h.rv.grow hb, h.rb.grow hb, h.bel.trans (hb.mono (by omega))⟩
/-- a literal's and a tuple's cells, for a region that draws -/
theorem LM.S {w : World} {k : Int} {p : ByteArray} {qa : Option Addr} {args : List Tm} {ca : Nat} {tp : ByteArray} {qt : Option Addr} {vs : List Vl} {ct : Nat} {qb : Option Addr} {b : List Tm} {X : World} (h : LM w k p qa args ca tp qt vs ct qb b X) :
    X.cell? ⟨w.heap.size, 0, none⟩ = some (.int .u8 k) ∧ X.cell? ⟨w.heap.size, 1, none⟩ = some (.string p) ∧ X.cell? ⟨w.heap.size, 2, none⟩ = some (.slice qa args.length ca) ∧ X.cell? ⟨w.heap.size + 1, 0, none⟩ = some (.string tp) ∧ X.cell? ⟨w.heap.size + 1, 1, none⟩ = some (.slice qt vs.length ct) ∧ Hid (LM w k p qa args ca tp qt vs ct qb b X) :=
  ⟨h.c0, h.c1, h.c2, h.d0, h.d1, Lib.hid h⟩
/-- what Match tells, as a pair -/
def mpL (r : Option (List Tm)) : List Tm := match r with
  | some L => L
  | none => []
def MPair (r : Option (List Tm)) (w : World) (e : Ending) (w' : World) : Prop :=
  ∃ q c, e = .returned (.tuple #[.slice q (mpL r).length c, .bool r.isSome]) ∧ Tms w' w'.heap.size q (mpL r) ∧ (mpL r).length ≤ c ∧ c ≤ maxLen ∧ (q = none → c = 0) ∧ Below w.heap.size w w'
theorem mpair_of {r : Option (List Tm)} {w : World} {e : Ending} {w' : World} (h : MatchPost r w e w') : MPair r w e w' := by
  cases r with
  | none => exact ⟨none, 0, h.1, .nil, Nat.le_refl _, Nat.zero_le _, fun _ => rfl, h.2⟩
  | some L =>
    obtain ⟨v, he, ⟨q, c, rfl, hr, h1, h2, h3⟩, hb⟩ := h
    exact ⟨q, c, he, hr, h1, h2, h3, hb⟩
theorem matchS_len : ∀ (xs : List Tm) (vs : List Vl) (b L : List Tm), matchS xs vs b = some L → b.length ≤ L.length ∧ L.length ≤ b.length + xs.length
  | [], _, b, L, h => by simp [matchS] at h; subst h; simp
  | _ :: _, [], b, L, h => by simp [matchS] at h; subst h; simp
  | x :: xs, v :: vs, b, L, h => by
    rw [matchS] at h
    cases hx : look b x with
    | some u =>
      rw [hx] at h
      simp only at h
      split at h
      · have := matchS_len xs vs b L h
        simp only [List.length_cons]; omega
      · cases h
    | none =>
      rw [hx] at h
      have := matchS_len xs vs _ L h
      simp only [List.length_append, List.length_cons, List.length_nil] at this ⊢
      omega
theorem mpL_len {k : Int} {p : ByteArray} {args : List Tm} {tp : ByteArray} {vs : List Vl} {b : List Tm} : (mpL (matchF k p args tp vs b)).length ≤ b.length + args.length := by
  cases h : matchF k p args tp vs b with
  | none => exact Nat.zero_le _
  | some L =>
    unfold matchF at h
    split at h
    · exact (matchS_len _ _ _ _ h).2
    · cases h

set_option maxHeartbeats 8000000 in
set_option maxRecDepth 100000 in
theorem matches_walk (k : Int) (p tp : ByteArray) (qa qt qb : Option Addr) (args b : List Tm) (vs : List Vl) (ca ct cb : Nat) (w : World) (h1 : Tms w w.heap.size qa args) (h2 : Rd encV 2 w w.heap.size qt vs) (h3 : Tms w w.heap.size qb b) (ha : SzM args) (hla : args.length ≤ maxLen) (hlv : vs.length ≤ maxLen) (hlb : b.length ≤ maxLen) :
    Calls Try.prog 3 #[.agg #[.int .u8 k, .string p, .slice qa args.length ca], .agg #[.string tp, .slice qt vs.length ct], .slice qb b.length cb] w fun e w' => e = .returned (.bool true) ∧ Below w.heap.size w w' := by
  have hb0 := below2 w (.cells #[.int .u8 k, .string p, .slice qa args.length ca] 24) (.cells #[.string tp, .slice qt vs.length ct] 27)
  have HI := Lib.hid (show LM w k p qa args ca tp qt vs ct qb b ((w.alloc (.cells #[.int .u8 k, .string p, .slice qa args.length ca] 24)).alloc (.cells #[.string tp, .slice qt vs.length ct] 27)) from
    ⟨by simp [go_sem], by simp [go_sem], by simp [go_sem], by simp [go_sem], by simp [go_sem], by simp, h1.grow hb0, h2.grow hb0, h3.grow hb0, hb0⟩)
  have HF := Lib.hid (fixed_any ((w.alloc (.cells #[.int .u8 k, .string p, .slice qa args.length ca] 24)).alloc (.cells #[.string tp, .slice qt vs.length ct] 27)))
  have HSA := Lib.hid ha
  have hla0 := hla
  have hlb0 := hlb
  have hlv0 := hlv
  unfold maxLen at hla0 hlb0 hlv0
  clear h1 h2 h3 hb0 ha
  go_enter Try.func3, Try.ntmps3
  go_wp2_with fail
  refine HF.out.mono ?_
  rintro e w1 ⟨rfl, hb1⟩
  have HI1 := Lib.hid (HI.out.on hb1)
  clear hb1 HF HI
  have x2 := HI1.out.c2
  have y1 := HI1.out.d1
  by_cases hA : 100 < args.length
  · go_wp2_with fail
    go_ret
    exact ⟨rfl, HI1.out.bel⟩
  · by_cases hV : 100 < vs.length
    · go_wp2_with fail
      go_ret
      exact ⟨rfl, HI1.out.bel⟩
    · by_cases hB : 100 < b.length
      · go_wp2_with fail
        go_ret
        exact ⟨rfl, HI1.out.bel⟩
      · have x0 := HI1.out.c0
        have x1 := HI1.out.c1
        have y0 := HI1.out.d0
        obtain ⟨i0, hi, hz0, hz1, hzb⟩ := info_parts infoBind
        have HMB4 := Lib.hid (show b.length * 40 ≤ 140737488355328 by omega)
        have HMB := Lib.hid hlb
        have HCF := Lib.hid (show ∀ (X : World), LM w k p qa args ca tp qt vs ct qb b X → Calls Try.prog 10 #[.agg #[.int .u8 k, .string p, .slice qa args.length ca]] X fun e w' => ∃ q c, e = .returned (.agg #[.int .u8 k, .string p, .slice q args.length c]) ∧ Made encM 3 args (.slice q args.length c) w' ∧ LM w k p qa args ca tp qt vs ct qb b w' ∧ Below X.heap.size X w' from
          fun X h => (copyflat_any k p qa args ca X h.ra (by omega)).mono fun e w' ⟨v, h1, ⟨q, c, h2, h3⟩, h4⟩ => ⟨q, c, by rw [h1, h2], ⟨q, c, rfl, h3⟩, h.on h4, h4⟩)
        have HMT := Lib.hid (show ∀ (X : World) (q1 q2 : Option Addr) (c1 c2 : Nat), LM w k p qa args ca tp qt vs ct qb b X → Made encM 3 args (.slice q1 args.length c1) X → Made encM 3 b (.slice q2 b.length c2) X → Calls Try.prog 9 #[.agg #[.int .u8 k, .string p, .slice q1 args.length c1], .agg #[.string tp, .slice qt vs.length ct], .slice q2 b.length c2] X fun e w' => MPair (matchF k p args tp vs b) X e w' ∧ LM w k p qa args ca tp qt vs ct qb b w' from
          fun X q1 q2 c1 c2 h hm1 hm2 => by
            obtain ⟨q1', c1', e1, r1, _⟩ := hm1
            obtain ⟨q2', c2', e2, r2, l2, m2, n2⟩ := hm2
            cases e1
            cases e2
            refine (match_any k p tp q1 qt q2 args b vs c1 ct c2 X r1 h.rv r2 l2 m2 n2 (by omega) (by omega) hlv).mono fun e w' hp => ?_
            have hp' := mpair_of hp
            exact ⟨hp', h.on hp'.choose_spec.choose_spec.2.2.2.2.2⟩)
        have HRM := Lib.hid (show ∀ (X : World), LM w k p qa args ca tp qt vs ct qb b X → Calls Try.prog 11 #[.agg #[.int .u8 k, .string p, .slice qa args.length ca], .agg #[.string tp, .slice qt vs.length ct], .slice qb b.length cb] X (MPair (matchF k p args tp vs b) X) from
          fun X h => (refmatch_any k p tp qa qt qb args b vs ca ct cb X h.ra h.rv h.rb HSA.out (by omega) (by omega) hlv).mono fun e w' hp => mpair_of hp)
        have HLN := Lib.hid (show (mpL (matchF k p args tp vs b)).length ≤ maxLen by have := mpL_len (k := k) (p := p) (args := args) (tp := tp) (vs := vs) (b := b); unfold maxLen; omega)
        go_wp2_with fail
        have HDR := Lib.hid (HI1.out.on (Below.drew (Below.refl _ _)))
        have hI := HI1
        clear x0 x1 x2 y0 y1
        go_cut [7, 8] (fun s7 s8 wx => ∃ q c, s7 = .slice q (mpL (matchF k p args tp vs b)).length c ∧ s8 = .bool (matchF k p args tp vs b).isSome ∧ Hid (Tms wx wx.heap.size q (mpL (matchF k p args tp vs b)) ∧ LM w k p qa args ca tp qt vs ct qb b wx))
        case first =>
          obtain ⟨x0, x1, x2, y0, y1, _⟩ := HI1.out.S
          go_region_held3 (fun X => X.cell? ⟨w.heap.size, 0, none⟩ = some (.int .u8 k) ∧ X.cell? ⟨w.heap.size, 1, none⟩ = some (.string p) ∧ X.cell? ⟨w.heap.size, 2, none⟩ = some (.slice qa args.length ca) ∧ X.cell? ⟨w.heap.size + 1, 0, none⟩ = some (.string tp) ∧ X.cell? ⟨w.heap.size + 1, 1, none⟩ = some (.slice qt vs.length ct) ∧ Hid (LM w k p qa args ca tp qt vs ct qb b X))
            (first
              | (exact LM.S (Hid.out hI))
              | (exact LM.S (LM.on (Hid.out hI) (below1 _ _)))
              | (exact LM.S (LM.on (Hid.out hI) (below1 _ _).drew))
              | (exact HDR.out.S)
              | go_keep)
            (first
              | (go_at_call 10; refine (HCF.out _ (by first | exact Hid.out hI | exact HDR.out | exact LM.on (Hid.out hI) (below1 _ _) | exact LM.on (Hid.out hI) (below1 _ _).drew | exact LM.on HDR.out (below1 _ _))).mono ?_; rintro e wn ⟨qA, cA, rfl, hm1, hI', hx1⟩; have hI := Lib.hid hI'; (try (have hm2 := Made.grow hm2 hx1)); clear hI')
              | (refine step_copyN EM rfl (.tmp 32) (.tmp 33) 28 rfl 50 i0 _ 40 underB hi hz0 hz1 hzb rfl _ (by rfl) qb b cb (by rfl) (LM.rb (by first | exact Hid.out hI | exact LM.on (Hid.out hI) (below1 _ _) | exact LM.on (Hid.out hI) (below1 _ _).drew | exact LM.on HDR.out (below1 _ _))) HMB.out HMB4.out ?_; intro qB cB wn hm2 hx2; have hI' := LM.on (by first | exact Hid.out hI | exact LM.on (Hid.out hI) (below1 _ _) | exact LM.on (Hid.out hI) (below1 _ _).drew | exact LM.on HDR.out (below1 _ _)) hx2; have hI := Lib.hid hI'; (try (have hm1 := Made.grow hm1 (by first | exact hx2 | exact (below1 _ _).trans (hx2.mono (by simp)) | exact (below1 _ _).drew.trans (hx2.mono (by simp))))); clear hI')
              | (go_at_call 9; refine (HMT.out _ _ _ _ _ (Hid.out hI) hm1 hm2).mono ?_; rintro e wn ⟨⟨q, c, rfl, hr, _, _, _, _⟩, hI'⟩; have hI := Lib.hid hI'; clear hI'))
          all_goals
            go_wp2_with fail
            go_meet
            exact ⟨q, c, rfl, rfl, Lib.hid ⟨hr, Hid.out hI⟩⟩
        case rest =>
          obtain ⟨q, c, rfl, rfl, HQ⟩ := hcut
          obtain ⟨x0, x1, x2, y0, y1, _⟩ := HQ.out.2.S
          go_wp2_with fail
          refine (HRM.out _ HQ.out.2).mono ?_
          rintro e w5 ⟨q5, c5, rfl, hr5, _, _, _, hb5⟩
          have HR5 := Lib.hid hr5
          have HRQ := Lib.hid (HQ.out.1.grow hb5)
          have HI5 := Lib.hid (HQ.out.2.on hb5)
          clear hb5 hr5 x0 x1 x2 y0 y1
          generalize (matchF k p args tp vs b).isSome = fs at *
          cases fs
          all_goals
            go_wp2_with fail
            refine (same_binds q q5 _ c c5 w5 HRQ.out HR5.out HLN.out).mono ?_
            rintro e w6 ⟨rfl, hb6⟩
            have HB6 := Lib.hid (HI5.out.on hb6).bel
            clear hb6
            go_wp2_with fail
            go_ret
            exact ⟨rfl, HB6.out⟩
end Go.Proofs.Ytmfaallipfhajaa
