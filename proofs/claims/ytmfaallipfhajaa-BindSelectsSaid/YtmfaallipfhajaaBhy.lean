/-
  Contract: bind.Holds at a comparison of two terms.
-/
import Derived.Test.YtmfaallipfhajaaBho
import Derived.Test.YtmfaallipfhajaaBrv
import Derived.Deep.DeepCutAuto
namespace Go.Proofs.Ytmfaallipfhajaa
open Go.RowKit

theorem tms2 {w : World} {B : Nat} {q : Option Addr} {x y : Tm} (h : Tms w B q [x, y]) : ∃ b o, q = some ⟨b, o, none⟩ ∧ b < B ∧ w.cell? ⟨b, o, none⟩ = some (.string x.v) ∧ w.cell? ⟨b, o + 1, none⟩ = some (.string x.s) ∧ w.cell? ⟨b, o + 2, none⟩ = some (.int .i64 x.n) ∧ w.cell? ⟨b, o + 3, none⟩ = some (.string y.v) ∧ w.cell? ⟨b, o + 3 + 1, none⟩ = some (.string y.s) ∧ w.cell? ⟨b, o + 3 + 2, none⟩ = some (.int .i64 y.n) := by
  obtain ⟨b, o, rfl, hb, h0, h1, h2⟩ := rdM_at h 0 (by simp)
  obtain ⟨b', o', he, _, g0, g1, g2⟩ := rdM_at h 1 (by simp)
  cases he
  refine ⟨b, o, rfl, hb, ?_, ?_, ?_, ?_, ?_, ?_⟩
  · simpa using h0
  · simpa using h1
  · simpa using h2
  · simpa using g0
  · simpa using g1
  · simpa using g2
theorem find_pair (t : Tm) (u : Vl) (ok : Bool) (cb ab : Nat) (q : Option Addr) (l : List Tm) (c : Nat) (w : World) (hu : lookP (look l t) = (u, ok)) (hc : w.cell? ⟨cb, 0, none⟩ = some (.pointer (some ⟨ab, 0, none⟩))) (ha : w.cell? ⟨ab, 0, none⟩ = some (.slice q l.length c)) (hl : Tms w w.heap.size q l) (hm : l.length ≤ maxLen) :
    Calls Try.prog 30 #[.agg #[.string t.v, .string t.s, .int .i64 t.n], .pointer (some ⟨cb, 0, none⟩)] w fun e w' => e = .returned (.tuple #[.agg #[.string u.1, .int .i64 u.2], .bool ok]) ∧ Below w.heap.size w w' :=
  (find_any t cb ab q l c w hc ha hl hm).mono fun e w' ⟨he, hb⟩ => ⟨by
    rw [he]
    cases h : look l t with
    | none => rw [h] at hu; cases hu; rfl
    | some v => rw [h] at hu; cases hu; rfl, hb⟩
/-- what a comparison comes to, when its values are known -/
def toldS (R : Int → Bool) (x y : Vl × Bool) : Value := if x.2 && y.2 then .tuple #[.bool (R (cmpW x.1.1 x.1.2 y.1.1 y.1.2)), .bool true] else .tuple #[.bool false, .bool false]
theorem nat2 (n : Nat) (h : n = 2) : ((n : Int) != 2) = false := by subst h; rfl

set_option maxHeartbeats 8000000 in
set_option maxRecDepth 100000 in
theorem holds_walk3 (p : ByteArray) (qa qb : Option Addr) (x y : Tm) (b : List Tm) (ca cb : Nat) (w : World) (h1 : Tms w w.heap.size qa [x, y]) (h3 : Tms w w.heap.size qb b) (hlb : b.length ≤ maxLen)
    (u v : Vl) (okx oky : Bool) (hx : lookP (look b x) = (u, okx)) (hy : lookP (look b y) = (v, oky)) :
    Calls Try.prog 15 #[.agg #[.int .u8 3, .string p, .slice qa 2 ca], .slice qb b.length cb] w fun e w' => e = .returned (toldS (fun n => decide (n < 0)) (u, okx) (v, oky)) ∧ Below w.heap.size w w' := by
  have HB := Lib.hid (below2 w (.cells #[.int .u8 3, .string p, .slice qa 2 ca] 24) (.cells #[.slice qb b.length cb] 28))
  have HC := Lib.hid (fun wx => comparisons_at 3 (.func (.func 31) #[] #[]) true rfl wx)
  have HX := Lib.hid hx
  have HY := Lib.hid hy
  have hn : ((2 : Int) != 2) = false := rfl
  clear hx hy
  go_enter Try.func15, Try.ntmps15
  go_wp2_with fail
  have c0 : ((w.alloc (.cells #[.int .u8 3, .string p, .slice qa 2 ca] 24)).alloc (.cells #[.slice qb b.length cb] 28)).cell? ⟨w.heap.size, 0, none⟩ = some (.int .u8 3) := by simp [go_sem]
  have c2 : ((w.alloc (.cells #[.int .u8 3, .string p, .slice qa 2 ca] 24)).alloc (.cells #[.slice qb b.length cb] 28)).cell? ⟨w.heap.size, 2, none⟩ = some (.slice qa 2 ca) := by simp [go_sem]
  have c3 : ((w.alloc (.cells #[.int .u8 3, .string p, .slice qa 2 ca] 24)).alloc (.cells #[.slice qb b.length cb] 28)).cell? ⟨w.heap.size + 1, 0, none⟩ = some (.slice qb b.length cb) := by simp [go_sem]
  have hz : w.heap.size < ((w.alloc (.cells #[.int .u8 3, .string p, .slice qa 2 ca] 24)).alloc (.cells #[.slice qb b.length cb] 28)).heap.size := by simp; omega
  have hz1 : w.heap.size + 1 < ((w.alloc (.cells #[.int .u8 3, .string p, .slice qa 2 ca] 24)).alloc (.cells #[.slice qb b.length cb] 28)).heap.size := by simp
  have HA := Lib.hid (h1.grow HB.out)
  have HT := Lib.hid (h3.grow HB.out)
  clear h1 h3
  generalize (w.alloc (.cells #[.int .u8 3, .string p, .slice qa 2 ca] 24)).alloc (.cells #[.slice qb b.length cb] 28) = W1 at *
  generalize hhs : w.heap.size = hs at *
  have HH := Lib.hid hhs
  clear hhs
  go_cut [6, 7] (fun a6 a7 wx => a6 = .func (.func 31) #[] #[] ∧ a7 = .bool true ∧ Hid (Below W1.heap.size W1 wx))
  case first =>
    go_region_with (go_at_call 25; refine (HC.out _).mono ?_; rintro e wn ⟨b, rfl, hl, hbn⟩; have e0 : wn.cell? ⟨hs, 0, none⟩ = some (.int .u8 3) := (hbn.cell (p := ⟨hs, 0, none⟩) hz).trans c0)
    all_goals
      go_wp2_with fail
      go_meet
      exact ⟨rfl, rfl, Lib.hid ((Below.drew (Below.refl _ _)).trans hbn)⟩
  case rest =>
    obtain ⟨rfl, rfl, HI⟩ := hcut
    have d2 : wc.cell? ⟨hs, 2, none⟩ = some (.slice qa 2 ca) := (HI.out.cell (p := ⟨hs, 2, none⟩) hz).trans c2
    have d3 : wc.cell? ⟨hs + 1, 0, none⟩ = some (.slice qb b.length cb) := (HI.out.cell (p := ⟨hs + 1, 0, none⟩) hz1).trans c3
    obtain ⟨ab, ao, rfl, hab, x0, x1, x2, x3, x4, x5⟩ := tms2 (HA.out.below HI.out (Nat.le_refl _))
    have hzw := HI.out.size
    have hab' : ab < wc.heap.size := by omega
    have HT2 := Lib.hid (HT.out.below HI.out (Nat.le_refl _))
    have hzc : hs < wc.heap.size := by omega
    have hzc1 : hs + 1 < wc.heap.size := by omega
    have HBX := Lib.hid (below1 wc (.cells #[.pointer (some ⟨hs + 1, 0, none⟩)] 55))
    have HF1 := Lib.hid (show ∀ W', Below (wc.alloc (.cells #[.pointer (some ⟨hs + 1, 0, none⟩)] 55)).heap.size (wc.alloc (.cells #[.pointer (some ⟨hs + 1, 0, none⟩)] 55)) W' → ∀ (t : Tm) (u : Vl) (ok : Bool), lookP (look b t) = (u, ok) → Calls Try.prog 30 #[.agg #[.string t.v, .string t.s, .int .i64 t.n], .pointer (some ⟨wc.heap.size, 0, none⟩)] W' fun e w'' => e = .returned (.tuple #[.agg #[.string u.1, .int .i64 u.2], .bool ok]) ∧ Below W'.heap.size W' w'' from
      fun W' hb t u ok hu => find_pair t u ok wc.heap.size (hs + 1) qb b cb W' hu
        (by rw [hb.cell (p := ⟨wc.heap.size, 0, none⟩) (by simp)]; simp [go_sem])
        (by rw [hb.cell (p := ⟨hs + 1, 0, none⟩) (by simp; omega), HBX.out.cell (p := ⟨hs + 1, 0, none⟩) hzc1]; exact d3)
        ((HT2.out.below (HBX.out.trans (hb.mono HBX.out.size)) hzw).mono (by have := hb.size; have := HBX.out.size; omega)) hlb)
    go_wp2_with (go_at_call 22; refine (finder_any _ _).mono ?_; rintro e w' ⟨rfl, rfl⟩)
    refine (HF1.out _ (Below.refl _ _) x u okx HX.out).mono ?_
    rintro e w2 ⟨rfl, hb2⟩
    have HB2 := Lib.hid hb2
    have HB2' := Lib.hid (HBX.out.trans (hb2.mono HBX.out.size))
    have hw2 := HB2'.out.size
    have e2 : w2.cell? ⟨hs, 2, none⟩ = some (.slice (some ⟨ab, ao, none⟩) 2 ca) := (HB2'.out.cell (p := ⟨hs, 2, none⟩) hzc).trans d2
    have y3 := (HB2'.out.cell (p := ⟨ab, ao + 3, none⟩) hab').trans x3
    have y4 := (HB2'.out.cell (p := ⟨ab, ao + 3 + 1, none⟩) hab').trans x4
    have y5 := (HB2'.out.cell (p := ⟨ab, ao + 3 + 2, none⟩) hab').trans x5
    have q1 : hs < w2.heap.size := by omega
    have q2 : ab < w2.heap.size := by omega
    clear hb2 x0 x1 x2 x3 x4 x5 d2 d3
    go_wp2_with fail
    refine (HF1.out _ (HB2.out.trans ((below1 w2 _).mono HB2.out.size)) y v oky HY.out).mono ?_
    rintro e w3 ⟨rfl, hb3⟩
    have z0 : w3.cell? ⟨w2.heap.size, 0, none⟩ = some (.string u.1) := by rw [hb3.cell (p := ⟨w2.heap.size, 0, none⟩) (by simp)]; simp [go_sem]
    have z1 : w3.cell? ⟨w2.heap.size, 1, none⟩ = some (.int .i64 u.2) := by rw [hb3.cell (p := ⟨w2.heap.size, 1, none⟩) (by simp)]; simp [go_sem]
    have q3 : w2.heap.size < w3.heap.size := by have := hb3.size; simp at this; omega
    have HB3 := Lib.hid (show Below hs w w3 from HB.out.trans ((HI.out.mono (by omega)).trans ((HB2'.out.mono (by omega)).trans (((below1 w2 _).trans (hb3.mono (below1 w2 _).size)).mono (by omega)))))
    have hw3 : hs < w3.heap.size := by omega
    clear hb3 y3 y4 y5 e2
    cases okx with
    | false =>
      go_wp2_with fail
      go_ret2
      exact ⟨rfl, HH.out.symm ▸ HB3.out.alloc (by omega) _⟩
    | true =>
      cases oky with
      | false =>
        go_wp2_with fail
        go_ret2
        exact ⟨rfl, HH.out.symm ▸ HB3.out.alloc (by omega) _⟩
      | true =>
        go_wp2_with (first
          | (go_at_call 26; refine (compare_any _ _ _ _ _).mono ?_; rintro e w4 ⟨rfl, hb4⟩)
          | (go_at_call 31; refine (cless_any _ _).mono ?_; rintro e w5 ⟨rfl, rfl⟩))
        go_ret2
        exact ⟨rfl, HH.out.symm ▸ (HB3.out.alloc (by omega) _).trans (hb4.mono (by simp; omega))⟩

set_option maxHeartbeats 8000000 in
set_option maxRecDepth 100000 in
theorem holds_walk4 (p : ByteArray) (qa qb : Option Addr) (x y : Tm) (b : List Tm) (ca cb : Nat) (w : World) (h1 : Tms w w.heap.size qa [x, y]) (h3 : Tms w w.heap.size qb b) (hlb : b.length ≤ maxLen)
    (u v : Vl) (okx oky : Bool) (hx : lookP (look b x) = (u, okx)) (hy : lookP (look b y) = (v, oky)) :
    Calls Try.prog 15 #[.agg #[.int .u8 4, .string p, .slice qa 2 ca], .slice qb b.length cb] w fun e w' => e = .returned (toldS (fun n => n != 0) (u, okx) (v, oky)) ∧ Below w.heap.size w w' := by
  have HB := Lib.hid (below2 w (.cells #[.int .u8 4, .string p, .slice qa 2 ca] 24) (.cells #[.slice qb b.length cb] 28))
  have HC := Lib.hid (fun wx => comparisons_at 4 (.func (.func 32) #[] #[]) true rfl wx)
  have HX := Lib.hid hx
  have HY := Lib.hid hy
  have hn : ((2 : Int) != 2) = false := rfl
  clear hx hy
  go_enter Try.func15, Try.ntmps15
  go_wp2_with fail
  have c0 : ((w.alloc (.cells #[.int .u8 4, .string p, .slice qa 2 ca] 24)).alloc (.cells #[.slice qb b.length cb] 28)).cell? ⟨w.heap.size, 0, none⟩ = some (.int .u8 4) := by simp [go_sem]
  have c2 : ((w.alloc (.cells #[.int .u8 4, .string p, .slice qa 2 ca] 24)).alloc (.cells #[.slice qb b.length cb] 28)).cell? ⟨w.heap.size, 2, none⟩ = some (.slice qa 2 ca) := by simp [go_sem]
  have c3 : ((w.alloc (.cells #[.int .u8 4, .string p, .slice qa 2 ca] 24)).alloc (.cells #[.slice qb b.length cb] 28)).cell? ⟨w.heap.size + 1, 0, none⟩ = some (.slice qb b.length cb) := by simp [go_sem]
  have hz : w.heap.size < ((w.alloc (.cells #[.int .u8 4, .string p, .slice qa 2 ca] 24)).alloc (.cells #[.slice qb b.length cb] 28)).heap.size := by simp; omega
  have hz1 : w.heap.size + 1 < ((w.alloc (.cells #[.int .u8 4, .string p, .slice qa 2 ca] 24)).alloc (.cells #[.slice qb b.length cb] 28)).heap.size := by simp
  have HA := Lib.hid (h1.grow HB.out)
  have HT := Lib.hid (h3.grow HB.out)
  clear h1 h3
  generalize (w.alloc (.cells #[.int .u8 4, .string p, .slice qa 2 ca] 24)).alloc (.cells #[.slice qb b.length cb] 28) = W1 at *
  generalize hhs : w.heap.size = hs at *
  have HH := Lib.hid hhs
  clear hhs
  go_cut [6, 7] (fun a6 a7 wx => a6 = .func (.func 32) #[] #[] ∧ a7 = .bool true ∧ Hid (Below W1.heap.size W1 wx))
  case first =>
    go_region_with (go_at_call 25; refine (HC.out _).mono ?_; rintro e wn ⟨b, rfl, hl, hbn⟩; have e0 : wn.cell? ⟨hs, 0, none⟩ = some (.int .u8 4) := (hbn.cell (p := ⟨hs, 0, none⟩) hz).trans c0)
    all_goals
      go_wp2_with fail
      go_meet
      exact ⟨rfl, rfl, Lib.hid ((Below.drew (Below.refl _ _)).trans hbn)⟩
  case rest =>
    obtain ⟨rfl, rfl, HI⟩ := hcut
    have d2 : wc.cell? ⟨hs, 2, none⟩ = some (.slice qa 2 ca) := (HI.out.cell (p := ⟨hs, 2, none⟩) hz).trans c2
    have d3 : wc.cell? ⟨hs + 1, 0, none⟩ = some (.slice qb b.length cb) := (HI.out.cell (p := ⟨hs + 1, 0, none⟩) hz1).trans c3
    obtain ⟨ab, ao, rfl, hab, x0, x1, x2, x3, x4, x5⟩ := tms2 (HA.out.below HI.out (Nat.le_refl _))
    have hzw := HI.out.size
    have hab' : ab < wc.heap.size := by omega
    have HT2 := Lib.hid (HT.out.below HI.out (Nat.le_refl _))
    have hzc : hs < wc.heap.size := by omega
    have hzc1 : hs + 1 < wc.heap.size := by omega
    have HBX := Lib.hid (below1 wc (.cells #[.pointer (some ⟨hs + 1, 0, none⟩)] 55))
    have HF1 := Lib.hid (show ∀ W', Below (wc.alloc (.cells #[.pointer (some ⟨hs + 1, 0, none⟩)] 55)).heap.size (wc.alloc (.cells #[.pointer (some ⟨hs + 1, 0, none⟩)] 55)) W' → ∀ (t : Tm) (u : Vl) (ok : Bool), lookP (look b t) = (u, ok) → Calls Try.prog 30 #[.agg #[.string t.v, .string t.s, .int .i64 t.n], .pointer (some ⟨wc.heap.size, 0, none⟩)] W' fun e w'' => e = .returned (.tuple #[.agg #[.string u.1, .int .i64 u.2], .bool ok]) ∧ Below W'.heap.size W' w'' from
      fun W' hb t u ok hu => find_pair t u ok wc.heap.size (hs + 1) qb b cb W' hu
        (by rw [hb.cell (p := ⟨wc.heap.size, 0, none⟩) (by simp)]; simp [go_sem])
        (by rw [hb.cell (p := ⟨hs + 1, 0, none⟩) (by simp; omega), HBX.out.cell (p := ⟨hs + 1, 0, none⟩) hzc1]; exact d3)
        ((HT2.out.below (HBX.out.trans (hb.mono HBX.out.size)) hzw).mono (by have := hb.size; have := HBX.out.size; omega)) hlb)
    go_wp2_with (go_at_call 22; refine (finder_any _ _).mono ?_; rintro e w' ⟨rfl, rfl⟩)
    refine (HF1.out _ (Below.refl _ _) x u okx HX.out).mono ?_
    rintro e w2 ⟨rfl, hb2⟩
    have HB2 := Lib.hid hb2
    have HB2' := Lib.hid (HBX.out.trans (hb2.mono HBX.out.size))
    have hw2 := HB2'.out.size
    have e2 : w2.cell? ⟨hs, 2, none⟩ = some (.slice (some ⟨ab, ao, none⟩) 2 ca) := (HB2'.out.cell (p := ⟨hs, 2, none⟩) hzc).trans d2
    have y3 := (HB2'.out.cell (p := ⟨ab, ao + 3, none⟩) hab').trans x3
    have y4 := (HB2'.out.cell (p := ⟨ab, ao + 3 + 1, none⟩) hab').trans x4
    have y5 := (HB2'.out.cell (p := ⟨ab, ao + 3 + 2, none⟩) hab').trans x5
    have q1 : hs < w2.heap.size := by omega
    have q2 : ab < w2.heap.size := by omega
    clear hb2 x0 x1 x2 x3 x4 x5 d2 d3
    go_wp2_with fail
    refine (HF1.out _ (HB2.out.trans ((below1 w2 _).mono HB2.out.size)) y v oky HY.out).mono ?_
    rintro e w3 ⟨rfl, hb3⟩
    have z0 : w3.cell? ⟨w2.heap.size, 0, none⟩ = some (.string u.1) := by rw [hb3.cell (p := ⟨w2.heap.size, 0, none⟩) (by simp)]; simp [go_sem]
    have z1 : w3.cell? ⟨w2.heap.size, 1, none⟩ = some (.int .i64 u.2) := by rw [hb3.cell (p := ⟨w2.heap.size, 1, none⟩) (by simp)]; simp [go_sem]
    have q3 : w2.heap.size < w3.heap.size := by have := hb3.size; simp at this; omega
    have HB3 := Lib.hid (show Below hs w w3 from HB.out.trans ((HI.out.mono (by omega)).trans ((HB2'.out.mono (by omega)).trans (((below1 w2 _).trans (hb3.mono (below1 w2 _).size)).mono (by omega)))))
    have hw3 : hs < w3.heap.size := by omega
    clear hb3 y3 y4 y5 e2
    cases okx with
    | false =>
      go_wp2_with fail
      go_ret2
      exact ⟨rfl, HH.out.symm ▸ HB3.out.alloc (by omega) _⟩
    | true =>
      cases oky with
      | false =>
        go_wp2_with fail
        go_ret2
        exact ⟨rfl, HH.out.symm ▸ HB3.out.alloc (by omega) _⟩
      | true =>
        go_wp2_with (first
          | (go_at_call 26; refine (compare_any _ _ _ _ _).mono ?_; rintro e w4 ⟨rfl, hb4⟩)
          | (go_at_call 32; refine (cunlike_any _ _).mono ?_; rintro e w5 ⟨rfl, rfl⟩))
        go_ret2
        exact ⟨rfl, HH.out.symm ▸ (HB3.out.alloc (by omega) _).trans (hb4.mono (by simp; omega))⟩

theorem holds_any (k : Int) (p : ByteArray) (qa qb : Option Addr) (args b : List Tm) (ca cb : Nat) (w : World) (h1 : Tms w w.heap.size qa args) (h3 : Tms w w.heap.size qb b) (hla : args.length ≤ maxLen) (hlb : b.length ≤ maxLen) :
    Calls Try.prog 15 #[.agg #[.int .u8 k, .string p, .slice qa args.length ca], .slice qb b.length cb] w fun e w' => e = .returned (.tuple #[.bool (holdsS k args b).1, .bool (holdsS k args b).2]) ∧ Below w.heap.size w w' := by
  by_cases hl : args.length = 2
  · obtain ⟨x, y, rfl⟩ : ∃ x y, args = [x, y] := by
      match args, hl with
      | [x, y], _ => exact ⟨x, y, rfl⟩
    by_cases h3' : k = 3
    · subst h3'
      refine (holds_walk3 p qa qb x y b ca cb w h1 h3 hlb (lookP (look b x)).1 (lookP (look b y)).1 (lookP (look b x)).2 (lookP (look b y)).2 rfl rfl).mono ?_
      rintro e w' ⟨rfl, hb⟩
      refine ⟨?_, hb⟩
      cases hx : look b x <;> cases hy : look b y <;> simp [holdsS, toldS, lookP, hx, hy]
      exact decide_eq_decide.2 Iff.rfl
    · by_cases h4' : k = 4
      · subst h4'
        refine (holds_walk4 p qa qb x y b ca cb w h1 h3 hlb (lookP (look b x)).1 (lookP (look b y)).1 (lookP (look b x)).2 (lookP (look b y)).2 rfl rfl).mono ?_
        rintro e w' ⟨rfl, hb⟩
        refine ⟨?_, hb⟩
        cases hx : look b x <;> cases hy : look b y <;> simp [holdsS, toldS, lookP, hx, hy]
      · have e3 : (k == 3) = false := by simpa using h3'
        have e4 : (k == 4) = false := by simpa using h4'
        have := holds_no k .nilFunc false (by unfold cmpOf; rw [e3, e4]; rfl) p qa qb [x, y].length b.length ca cb w hla (.inl rfl)
        refine this.mono ?_
        rintro e w' ⟨rfl, hb⟩
        refine ⟨?_, hb⟩
        cases hx : look b x <;> cases hy : look b y <;> simp [holdsS, e3, e4, hx, hy]
  · obtain ⟨fk, ok, hk⟩ : ∃ fk ok, cmpOf k = .tuple #[fk, .bool ok] := by
      unfold cmpOf
      split
      · exact ⟨_, _, rfl⟩
      · split <;> exact ⟨_, _, rfl⟩
    refine (holds_no k fk ok hk p qa qb args.length b.length ca cb w hla (.inr hl)).mono ?_
    rintro e w' ⟨rfl, hb⟩
    refine ⟨?_, hb⟩
    unfold holdsS
    split
    · simp at hl
    · rfl
end Go.Proofs.Ytmfaallipfhajaa
