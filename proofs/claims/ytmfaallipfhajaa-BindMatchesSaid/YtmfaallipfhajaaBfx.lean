/-
  What the statements begin with: fixed answers true.
-/
import Derived.Test.YtmfaallipfhajaaBsl
import Derived.Test.YtmfaallipfhajaaBhy
namespace Go.Proofs.Ytmfaallipfhajaa
open Go.RowKit

theorem rd_block {α : Type} {enc : α → List Value} {k : Nat} (E : Enc enc k) {w : World} {m B : Nat} {cs : Array Value} {T : TypeId} {fr : Nat × Nat} {l : List α} (hb : w.heap[m]? = some (.cells cs T fr)) (hl : cs.toList = flatE enc l) (hB : m < B) : Rd enc k w B (some ⟨m, 0, none⟩) l := by
  refine .inr ⟨m, 0, rfl, hB, fun i hi r u hu => ?_⟩
  have hr : r < k := by rw [← E.len l[i]]; exact (List.getElem?_eq_some_iff.1 hu).1
  have h := World.news_of_block hb (i * k + r) u (by rw [hl, flatE_get E l i hi r hr, hu])
  rw [Addr.add_lit] at h
  rw [Nat.add_assoc]; exact h

def tX : Tm := ⟨⟨#[88]⟩, ⟨#[]⟩, 0⟩
def tY : Tm := ⟨⟨#[89]⟩, ⟨#[]⟩, 0⟩
def vA : Vl := (⟨#[97]⟩, 0)
def vB : Vl := (⟨#[98]⟩, 0)
def v1 : Vl := (⟨#[]⟩, 1)
def bX : Tm := ⟨⟨#[88]⟩, ⟨#[97]⟩, 0⟩
def bY : Tm := ⟨⟨#[89]⟩, ⟨#[]⟩, 1⟩
theorem fx_match1 : matchF 1 ⟨#[112]⟩ [tX, tX, tY] ⟨#[112]⟩ [vA, vA, v1] [] = some [bX, bY] := by
  simp [matchF, atomB, matchS, look, lookL, Tm.val, eqV, bindT, tX, tY, vA, v1, bX, bY, ByteArray.toList_eq]
theorem fx_match2 : matchF 1 ⟨#[112]⟩ [tX, tX, tY] ⟨#[112]⟩ [vA, vB, v1] [] = none := by
  simp [matchF, atomB, matchS, look, lookL, Tm.val, eqV, bindT, tX, tY, vA, vB, v1, ByteArray.toList_eq]
theorem fx_match3 : matchF 1 ⟨#[112]⟩ [tX, tX, tY] ⟨#[112]⟩ [vB, vB, vB] [] = some [⟨⟨#[88]⟩, ⟨#[98]⟩, 0⟩, ⟨⟨#[89]⟩, ⟨#[98]⟩, 0⟩] := by
  simp [matchF, atomB, matchS, look, lookL, Tm.val, eqV, bindT, tX, tY, vB, ByteArray.toList_eq]
theorem fx_fill : fillF 1 [tX, tX, tY] [bX, bY] = some [vA, vA, v1] := by
  simp [fillF, atomB, fillS, look, lookL, Tm.val, tX, tY, vA, v1, bX, bY, ByteArray.toList_eq]
theorem fx_holds : holdsS 3 [tY, ⟨⟨#[]⟩, ⟨#[]⟩, 3⟩] [bX, bY] = (true, true) := by
  simp [holdsS, look, lookL, Tm.val, tY, bX, bY, ByteArray.toList_eq, cmpW, cmpV, lexI, cmpL, cmpI]
theorem eqB0 (v s : ByteArray) (n : Int) (w : World) : (binOp .eql 50 (.agg #[.string v, .string s, .int .i64 n]) (.agg #[.string v, .string s, .int .i64 n])).run Try.prog w = .ok (.bool true) w := by
  have u9 := Try.underlying9
  have u2 := Try.underlying2
  have a9 := Try.isAgg9
  have z9 := Try.sizeOf9
  have a2 := Try.isAgg2
  have z2 := Try.sizeOf2
  have av := Try.isAgg46
  have zv := Try.sizeOf46
  have hS : Try.prog.underlying 50 = some (.struct (Try.prog.fieldsOf 50)) := by kernel_rfl
  have hp : Try.prog.stoodInHeld 50 = false := by kernel_rfl
  have hSV : Try.prog.underlying 46 = some (.struct (Try.prog.fieldsOf 46)) := by kernel_rfl
  have hpV : Try.prog.stoodInHeld 46 = false := by kernel_rfl
  have hv : ∀ wx, (Op.equalIn 9999 46 (.agg #[.string s, .int .i64 n]) (.agg #[.string s, .int .i64 n])).run Try.prog wx = .ok true wx := fun wx => by
    rw [show (9999 : Nat) = 9998 + 1 from rfl, run_equalIn_agg wx 9998 46 _ _ hSV hpV]
    simp only [Program.fieldsOf, Try.underlying46]
    go_simp
  rw [run_eql_struct, show (10000 : Nat) = 9999 + 1 from rfl, run_equalIn_agg w 9999 50 _ _ hS hp]
  simp only [Program.fieldsOf, Try.underlying50]
  go_simp

structure FX (w X : World) : Prop where
  c10 : X.cell? ⟨w.heap.size + 1, 0, none⟩ = some (.int .u8 1)
  c11 : X.cell? ⟨w.heap.size + 1, 1, none⟩ = some (.string ⟨#[112]⟩)
  c12 : X.cell? ⟨w.heap.size + 1, 2, none⟩ = some (.slice (some ⟨w.heap.size, 0, none⟩) 3 3)
  c20 : X.cell? ⟨w.heap.size + 1 + 1, 0, none⟩ = some (.string ⟨#[97]⟩)
  c21 : X.cell? ⟨w.heap.size + 1 + 1, 1, none⟩ = some (.int .i64 0)
  c30 : X.cell? ⟨w.heap.size + 1 + 1 + 1, 0, none⟩ = some (.string ⟨#[98]⟩)
  c31 : X.cell? ⟨w.heap.size + 1 + 1 + 1, 1, none⟩ = some (.int .i64 0)
  c40 : X.cell? ⟨w.heap.size + 1 + 1 + 1 + 1, 0, none⟩ = some (.string ⟨#[]⟩)
  c41 : X.cell? ⟨w.heap.size + 1 + 1 + 1 + 1, 1, none⟩ = some (.int .i64 1)
  f : Tms X X.heap.size (some ⟨w.heap.size, 0, none⟩) [tX, tX, tY]
  bel : Below w.heap.size w X
  size : w.heap.size + 1 + 1 + 1 + 1 + 1 ≤ X.heap.size
theorem FX.on {w X X' : World} (h : FX w X) (hb : Below X.heap.size X X') : FX w X' := by
  have hs := h.size
  exact {
    c10 := (hb.cell (p := ⟨w.heap.size + 1, 0, none⟩) (by show w.heap.size + 1 < _; omega)).trans h.c10
    c11 := (hb.cell (p := ⟨w.heap.size + 1, 1, none⟩) (by show w.heap.size + 1 < _; omega)).trans h.c11
    c12 := (hb.cell (p := ⟨w.heap.size + 1, 2, none⟩) (by show w.heap.size + 1 < _; omega)).trans h.c12
    c20 := (hb.cell (p := ⟨w.heap.size + 1 + 1, 0, none⟩) (by show w.heap.size + 1 + 1 < _; omega)).trans h.c20
    c21 := (hb.cell (p := ⟨w.heap.size + 1 + 1, 1, none⟩) (by show w.heap.size + 1 + 1 < _; omega)).trans h.c21
    c30 := (hb.cell (p := ⟨w.heap.size + 1 + 1 + 1, 0, none⟩) (by show w.heap.size + 1 + 1 + 1 < _; omega)).trans h.c30
    c31 := (hb.cell (p := ⟨w.heap.size + 1 + 1 + 1, 1, none⟩) (by show w.heap.size + 1 + 1 + 1 < _; omega)).trans h.c31
    c40 := (hb.cell (p := ⟨w.heap.size + 1 + 1 + 1 + 1, 0, none⟩) (by show w.heap.size + 1 + 1 + 1 + 1 < _; omega)).trans h.c40
    c41 := (hb.cell (p := ⟨w.heap.size + 1 + 1 + 1 + 1, 1, none⟩) (by show w.heap.size + 1 + 1 + 1 + 1 < _; omega)).trans h.c41
    f := h.f.grow hb
    bel := h.bel.trans (hb.mono (by omega))
    size := Nat.le_trans hs hb.size }
theorem fx_first (w : World) : FX w (((((w.alloc (.cells #[.string ⟨#[88]⟩, .string ⟨#[]⟩, .int .i64 0, .string ⟨#[88]⟩, .string ⟨#[]⟩, .int .i64 0, .string ⟨#[89]⟩, .string ⟨#[]⟩, .int .i64 0] 48)).alloc (.cells #[.int .u8 1, .string ⟨#[112]⟩, .slice (some ⟨w.heap.size, 0, none⟩) 3 3] 24)).alloc (.cells #[.string ⟨#[97]⟩, .int .i64 0] 46)).alloc (.cells #[.string ⟨#[98]⟩, .int .i64 0] 46)).alloc (.cells #[.string ⟨#[]⟩, .int .i64 1] 46)) := by
  exact {
    c10 := by simp [go_sem]
    c11 := by simp [go_sem]
    c12 := by simp [go_sem]
    c20 := by simp [go_sem]
    c21 := by simp [go_sem]
    c30 := by simp [go_sem]
    c31 := by simp [go_sem]
    c40 := by simp [go_sem]
    c41 := by simp [go_sem]
    f := by
      have h0 := rd_block EM (l := [tX, tX, tY]) (B := (w.alloc (.cells #[.string ⟨#[88]⟩, .string ⟨#[]⟩, .int .i64 0, .string ⟨#[88]⟩, .string ⟨#[]⟩, .int .i64 0, .string ⟨#[89]⟩, .string ⟨#[]⟩, .int .i64 0] 48)).heap.size) (heap_alloc_new w (.cells #[.string ⟨#[88]⟩, .string ⟨#[]⟩, .int .i64 0, .string ⟨#[88]⟩, .string ⟨#[]⟩, .int .i64 0, .string ⟨#[89]⟩, .string ⟨#[]⟩, .int .i64 0] 48)) rfl (by simp)
      exact h0.grow ((((below1 _ (.cells #[.int .u8 1, .string ⟨#[112]⟩, .slice (some ⟨w.heap.size, 0, none⟩) 3 3] 24)).alloc (by simp) (.cells #[.string ⟨#[97]⟩, .int .i64 0] 46)).alloc (by simp only [World.size_alloc]; omega) (.cells #[.string ⟨#[98]⟩, .int .i64 0] 46)).alloc (by simp only [World.size_alloc]; omega) (.cells #[.string ⟨#[]⟩, .int .i64 1] 46))
    bel := (((below2 w _ _).alloc (by simp only [World.size_alloc]; omega) _).alloc (by simp only [World.size_alloc]; omega) _).alloc (by simp only [World.size_alloc]; omega) _
    size := by simp }

set_option maxHeartbeats 8000000 in
set_option maxRecDepth 100000 in
theorem fixed_any (w : World) :
    Calls Try.prog 8 #[] w fun e w' => e = .returned (.bool true) ∧ Below w.heap.size w w' := by
  have HI := Lib.hid (fx_first w)
  go_enter Try.func8, Try.ntmps8
  go_wp2_with fail
  have hsz : (((((w.alloc (.cells #[.string ⟨#[88]⟩, .string ⟨#[]⟩, .int .i64 0, .string ⟨#[88]⟩, .string ⟨#[]⟩, .int .i64 0, .string ⟨#[89]⟩, .string ⟨#[]⟩, .int .i64 0] 48)).alloc (.cells #[.int .u8 1, .string ⟨#[112]⟩, .slice (some ⟨w.heap.size, 0, none⟩) 3 3] 24)).alloc (.cells #[.string ⟨#[97]⟩, .int .i64 0] 46)).alloc (.cells #[.string ⟨#[98]⟩, .int .i64 0] 46)).alloc (.cells #[.string ⟨#[]⟩, .int .i64 1] 46)).heap.size = w.heap.size + 1 + 1 + 1 + 1 + 1 := by simp
  have HSZ := Lib.hid hsz
  clear hsz
  generalize (((((w.alloc (.cells #[.string ⟨#[88]⟩, .string ⟨#[]⟩, .int .i64 0, .string ⟨#[88]⟩, .string ⟨#[]⟩, .int .i64 0, .string ⟨#[89]⟩, .string ⟨#[]⟩, .int .i64 0] 48)).alloc (.cells #[.int .u8 1, .string ⟨#[112]⟩, .slice (some ⟨w.heap.size, 0, none⟩) 3 3] 24)).alloc (.cells #[.string ⟨#[97]⟩, .int .i64 0] 46)).alloc (.cells #[.string ⟨#[98]⟩, .int .i64 0] 46)).alloc (.cells #[.string ⟨#[]⟩, .int .i64 1] 46)) = W5 at *
  have HI6 := Lib.hid (HI.out.on (below1 W5 (.cells #[.string ⟨#[97]⟩, .int .i64 0, .string ⟨#[97]⟩, .int .i64 0, .string ⟨#[]⟩, .int .i64 1] 46)))
  have HT6 := Lib.hid (show Rd encV 2 (W5.alloc (.cells #[.string ⟨#[97]⟩, .int .i64 0, .string ⟨#[97]⟩, .int .i64 0, .string ⟨#[]⟩, .int .i64 1] 46)) (W5.alloc (.cells #[.string ⟨#[97]⟩, .int .i64 0, .string ⟨#[97]⟩, .int .i64 0, .string ⟨#[]⟩, .int .i64 1] 46)).heap.size (some ⟨w.heap.size + 1 + 1 + 1 + 1 + 1, 0, none⟩) [vA, vA, v1] by
    have := rd_block EV (l := [vA, vA, v1]) (B := (W5.alloc (.cells #[.string ⟨#[97]⟩, .int .i64 0, .string ⟨#[97]⟩, .int .i64 0, .string ⟨#[]⟩, .int .i64 1] 46)).heap.size) (heap_alloc_new W5 (.cells #[.string ⟨#[97]⟩, .int .i64 0, .string ⟨#[97]⟩, .int .i64 0, .string ⟨#[]⟩, .int .i64 1] 46)) rfl (by simp)
    rw [HSZ.out] at this; exact this)
  have hM := match_any 1 ⟨#[112]⟩ ⟨#[112]⟩ _ _ none [tX, tX, tY] [] [vA, vA, v1] 3 3 0 _ HI6.out.f HT6.out .nil (Nat.le_refl _) (Nat.zero_le _) (fun _ => rfl) (by simp) (by simp) (by unfold maxLen; simp)
  rw [fx_match1] at hM
  refine hM.mono ?_
  rintro e w1 ⟨v5, rfl, hmade, hb1⟩
  obtain ⟨q5, c5, rfl, hr5, hc5, hm5, hn5⟩ := hmade
  have HI7 := Lib.hid (HI6.out.on hb1)
  have HR7 := Lib.hid hr5
  have HC5 := Lib.hid (And.intro hc5 (And.intro hm5 hn5))
  clear hM hb1 hr5 hc5 hm5 hn5 HT6 HI6 HI HSZ
  have f10 := HI7.out.c10
  have f11 := HI7.out.c11
  have f12 := HI7.out.c12
  have f20 := HI7.out.c20
  have f21 := HI7.out.c21
  have f30 := HI7.out.c30
  have f31 := HI7.out.c31
  have f40 := HI7.out.c40
  have f41 := HI7.out.c41
  have hz := HI7.out.size
  go_wp2_with fail
  have HT8 := Lib.hid (show Rd encV 2 (w1.alloc (.cells #[.string ⟨#[97]⟩, .int .i64 0, .string ⟨#[98]⟩, .int .i64 0, .string ⟨#[]⟩, .int .i64 1] 46)) (w1.alloc (.cells #[.string ⟨#[97]⟩, .int .i64 0, .string ⟨#[98]⟩, .int .i64 0, .string ⟨#[]⟩, .int .i64 1] 46)).heap.size (some ⟨w1.heap.size, 0, none⟩) [vA, vB, v1] from rd_block EV (l := [vA, vB, v1]) (heap_alloc_new w1 (.cells #[.string ⟨#[97]⟩, .int .i64 0, .string ⟨#[98]⟩, .int .i64 0, .string ⟨#[]⟩, .int .i64 1] 46)) rfl (by simp))
  have HI8 := Lib.hid (HI7.out.on (below1 w1 (.cells #[.string ⟨#[97]⟩, .int .i64 0, .string ⟨#[98]⟩, .int .i64 0, .string ⟨#[]⟩, .int .i64 1] 46)))
  have hM := match_any 1 ⟨#[112]⟩ ⟨#[112]⟩ _ _ none [tX, tX, tY] [] [vA, vB, v1] 3 3 0 _ HI8.out.f HT8.out .nil (Nat.le_refl _) (Nat.zero_le _) (fun _ => rfl) (by simp) (by simp) (by unfold maxLen; simp)
  rw [fx_match2] at hM
  refine hM.mono ?_
  rintro e w2 ⟨rfl, hb2⟩
  have HB2 := Lib.hid (show Below w1.heap.size w1 w2 from (below1 w1 _).trans (hb2.mono (by simp)))
  have HI9 := Lib.hid (HI7.out.on HB2.out)
  have HR9 := Lib.hid (HR7.out.grow HB2.out)
  clear hM hb2 HT8 HI8 f10 f11 f12 f20 f21 f30 f31 f40 f41 hz HI7 HR7 HB2
  have f10 := HI9.out.c10
  have f11 := HI9.out.c11
  have f12 := HI9.out.c12
  have hz := HI9.out.size
  go_wp2_with fail
  have hF := fill_any 1 ⟨#[112]⟩ _ q5 [tX, tX, tY] [bX, bY] 3 c5 w2 HI9.out.f HR9.out (by simp) (by unfold maxLen; simp)
  rw [fx_fill] at hF
  refine hF.mono ?_
  rintro e w3 ⟨v9, rfl, hmade, hb3⟩
  obtain ⟨q9, c9, rfl, hr9, _, _, _⟩ := hmade
  have HI10 := Lib.hid (HI9.out.on hb3)
  have HR10 := Lib.hid (HR9.out.grow hb3)
  have HV10 := Lib.hid hr9
  clear hF hb3 hr9 f10 f11 f12 hz HI9 HR9
  have f10 := HI10.out.c10
  have hz := HI10.out.size
  go_wp2_with fail
  have hb34 := below1 w3 (.cells #[.string ⟨#[112]⟩, .slice q9 3 c9] 27)
  have hs34 : (w3.alloc (.cells #[.string ⟨#[112]⟩, .slice q9 3 c9] 27)).heap.size = w3.heap.size + 1 := by simp
  have HA11 := Lib.hid (show Tms ((w3.alloc (.cells #[.string ⟨#[112]⟩, .slice q9 3 c9] 27)).alloc (.cells #[.string ⟨#[89]⟩, .string ⟨#[]⟩, .int .i64 0, .string ⟨#[]⟩, .string ⟨#[]⟩, .int .i64 3] 48)) ((w3.alloc (.cells #[.string ⟨#[112]⟩, .slice q9 3 c9] 27)).alloc (.cells #[.string ⟨#[89]⟩, .string ⟨#[]⟩, .int .i64 0, .string ⟨#[]⟩, .string ⟨#[]⟩, .int .i64 3] 48)).heap.size (some ⟨w3.heap.size + 1, 0, none⟩) [tY, ⟨⟨#[]⟩, ⟨#[]⟩, 3⟩] by
    have := rd_block EM (l := [tY, ⟨⟨#[]⟩, ⟨#[]⟩, 3⟩]) (B := ((w3.alloc (.cells #[.string ⟨#[112]⟩, .slice q9 3 c9] 27)).alloc (.cells #[.string ⟨#[89]⟩, .string ⟨#[]⟩, .int .i64 0, .string ⟨#[]⟩, .string ⟨#[]⟩, .int .i64 3] 48)).heap.size) (heap_alloc_new (w3.alloc (.cells #[.string ⟨#[112]⟩, .slice q9 3 c9] 27)) (.cells #[.string ⟨#[89]⟩, .string ⟨#[]⟩, .int .i64 0, .string ⟨#[]⟩, .string ⟨#[]⟩, .int .i64 3] 48)) rfl (by simp)
    rw [hs34] at this; exact this)
  have hb35 := below2 w3 (.cells #[.string ⟨#[112]⟩, .slice q9 3 c9] 27) (.cells #[.string ⟨#[89]⟩, .string ⟨#[]⟩, .int .i64 0, .string ⟨#[]⟩, .string ⟨#[]⟩, .int .i64 3] 48)
  have hH := holds_any 3 ⟨#[]⟩ _ q5 [tY, ⟨⟨#[]⟩, ⟨#[]⟩, 3⟩] [bX, bY] 2 c5 _ HA11.out (HR10.out.grow hb35) (by unfold maxLen; simp) (by unfold maxLen; simp)
  rw [fx_holds] at hH
  refine hH.mono ?_
  rintro e w4 ⟨rfl, hb4⟩
  have hb36 : Below w3.heap.size w3 w4 := hb35.trans (hb4.mono (by simp; omega))
  have HI12 := Lib.hid (HI10.out.on hb36)
  have HR12 := Lib.hid (HR10.out.grow hb36)
  have HV12 := Lib.hid (HV10.out.grow hb36)
  have k9 : w4.cell? ⟨w3.heap.size, 1, none⟩ = some (.slice q9 3 c9) := by rw [hb4.cell (p := ⟨w3.heap.size, 1, none⟩) (by simp; omega)]; simp [go_sem]
  have K9 := Lib.hid k9
  have hz9 : w3.heap.size < w4.heap.size := by have := hb4.size; simp at this; omega
  clear hH hb4 hb34 hs34 HA11 hb35 hb36 HI10 HR10 HV10 f10 hz k9
  have f10 := HI12.out.c10
  have f11 := HI12.out.c11
  have f12 := HI12.out.c12
  have f20 := HI12.out.c20
  have f21 := HI12.out.c21
  have f30 := HI12.out.c30
  have f31 := HI12.out.c31
  have f40 := HI12.out.c40
  have f41 := HI12.out.c41
  have hz := HI12.out.size
  generalize w3.heap.size = m9 at *
  have hz1 : w.heap.size + 1 < w4.heap.size := by omega
  have hz2 : w.heap.size + 1 + 1 < w4.heap.size := by omega
  have hz3 : w.heap.size + 1 + 1 + 1 < w4.heap.size := by omega
  have hz4 : w.heap.size + 1 + 1 + 1 + 1 < w4.heap.size := by omega
  go_wp2_with fail
  clear f10 f11 f12 f20 f21 f30 f31 f40 f41 hz1 hz2 hz3 hz4
  have hb5 : Below w4.heap.size w4 (((w4.alloc (.cells #[.string ⟨#[97]⟩, .int .i64 0, .string ⟨#[98]⟩, .int .i64 0, .string ⟨#[]⟩, .int .i64 1] 46)).alloc (.cells #[.string ⟨#[98]⟩, .int .i64 0, .string ⟨#[98]⟩, .int .i64 0, .string ⟨#[98]⟩, .int .i64 0] 46)).alloc (.cells #[.string ⟨#[112]⟩, .slice (some ⟨w4.heap.size, 0, none⟩) 3 3, .string ⟨#[112]⟩, .slice (some ⟨w4.heap.size + 1, 0, none⟩) 3 3] 27)) := (below2 w4 _ _).alloc (by simp only [World.size_alloc]; omega) _
  have hR1 : Rd encV 2 (((w4.alloc (.cells #[.string ⟨#[97]⟩, .int .i64 0, .string ⟨#[98]⟩, .int .i64 0, .string ⟨#[]⟩, .int .i64 1] 46)).alloc (.cells #[.string ⟨#[98]⟩, .int .i64 0, .string ⟨#[98]⟩, .int .i64 0, .string ⟨#[98]⟩, .int .i64 0] 46)).alloc (.cells #[.string ⟨#[112]⟩, .slice (some ⟨w4.heap.size, 0, none⟩) 3 3, .string ⟨#[112]⟩, .slice (some ⟨w4.heap.size + 1, 0, none⟩) 3 3] 27)) (((w4.alloc (.cells #[.string ⟨#[97]⟩, .int .i64 0, .string ⟨#[98]⟩, .int .i64 0, .string ⟨#[]⟩, .int .i64 1] 46)).alloc (.cells #[.string ⟨#[98]⟩, .int .i64 0, .string ⟨#[98]⟩, .int .i64 0, .string ⟨#[98]⟩, .int .i64 0] 46)).alloc (.cells #[.string ⟨#[112]⟩, .slice (some ⟨w4.heap.size, 0, none⟩) 3 3, .string ⟨#[112]⟩, .slice (some ⟨w4.heap.size + 1, 0, none⟩) 3 3] 27)).heap.size (some ⟨w4.heap.size, 0, none⟩) [vA, vB, v1] :=
    (rd_block EV (l := [vA, vB, v1]) (B := (w4.alloc (.cells #[.string ⟨#[97]⟩, .int .i64 0, .string ⟨#[98]⟩, .int .i64 0, .string ⟨#[]⟩, .int .i64 1] 46)).heap.size) (heap_alloc_new w4 (.cells #[.string ⟨#[97]⟩, .int .i64 0, .string ⟨#[98]⟩, .int .i64 0, .string ⟨#[]⟩, .int .i64 1] 46)) rfl (by simp)).grow (below2 _ _ _)
  have hs5 : (w4.alloc (.cells #[.string ⟨#[97]⟩, .int .i64 0, .string ⟨#[98]⟩, .int .i64 0, .string ⟨#[]⟩, .int .i64 1] 46)).heap.size = w4.heap.size + 1 := by simp
  have hs6 : ((w4.alloc (.cells #[.string ⟨#[97]⟩, .int .i64 0, .string ⟨#[98]⟩, .int .i64 0, .string ⟨#[]⟩, .int .i64 1] 46)).alloc (.cells #[.string ⟨#[98]⟩, .int .i64 0, .string ⟨#[98]⟩, .int .i64 0, .string ⟨#[98]⟩, .int .i64 0] 46)).heap.size = w4.heap.size + 1 + 1 := by simp
  have hR2 : Rd encV 2 (((w4.alloc (.cells #[.string ⟨#[97]⟩, .int .i64 0, .string ⟨#[98]⟩, .int .i64 0, .string ⟨#[]⟩, .int .i64 1] 46)).alloc (.cells #[.string ⟨#[98]⟩, .int .i64 0, .string ⟨#[98]⟩, .int .i64 0, .string ⟨#[98]⟩, .int .i64 0] 46)).alloc (.cells #[.string ⟨#[112]⟩, .slice (some ⟨w4.heap.size, 0, none⟩) 3 3, .string ⟨#[112]⟩, .slice (some ⟨w4.heap.size + 1, 0, none⟩) 3 3] 27)) (((w4.alloc (.cells #[.string ⟨#[97]⟩, .int .i64 0, .string ⟨#[98]⟩, .int .i64 0, .string ⟨#[]⟩, .int .i64 1] 46)).alloc (.cells #[.string ⟨#[98]⟩, .int .i64 0, .string ⟨#[98]⟩, .int .i64 0, .string ⟨#[98]⟩, .int .i64 0] 46)).alloc (.cells #[.string ⟨#[112]⟩, .slice (some ⟨w4.heap.size, 0, none⟩) 3 3, .string ⟨#[112]⟩, .slice (some ⟨w4.heap.size + 1, 0, none⟩) 3 3] 27)).heap.size (some ⟨w4.heap.size + 1, 0, none⟩) [vB, vB, vB] := by
    have := (rd_block EV (l := [vB, vB, vB]) (B := ((w4.alloc (.cells #[.string ⟨#[97]⟩, .int .i64 0, .string ⟨#[98]⟩, .int .i64 0, .string ⟨#[]⟩, .int .i64 1] 46)).alloc (.cells #[.string ⟨#[98]⟩, .int .i64 0, .string ⟨#[98]⟩, .int .i64 0, .string ⟨#[98]⟩, .int .i64 0] 46)).heap.size) (heap_alloc_new (w4.alloc (.cells #[.string ⟨#[97]⟩, .int .i64 0, .string ⟨#[98]⟩, .int .i64 0, .string ⟨#[]⟩, .int .i64 1] 46)) (.cells #[.string ⟨#[98]⟩, .int .i64 0, .string ⟨#[98]⟩, .int .i64 0, .string ⟨#[98]⟩, .int .i64 0] 46)) rfl (by simp)).grow (below1 _ (.cells #[.string ⟨#[112]⟩, .slice (some ⟨w4.heap.size, 0, none⟩) 3 3, .string ⟨#[112]⟩, .slice (some ⟨w4.heap.size + 1, 0, none⟩) 3 3] 27))
    rw [hs5] at this; exact this
  have hR3 : Rd encT 2 (((w4.alloc (.cells #[.string ⟨#[97]⟩, .int .i64 0, .string ⟨#[98]⟩, .int .i64 0, .string ⟨#[]⟩, .int .i64 1] 46)).alloc (.cells #[.string ⟨#[98]⟩, .int .i64 0, .string ⟨#[98]⟩, .int .i64 0, .string ⟨#[98]⟩, .int .i64 0] 46)).alloc (.cells #[.string ⟨#[112]⟩, .slice (some ⟨w4.heap.size, 0, none⟩) 3 3, .string ⟨#[112]⟩, .slice (some ⟨w4.heap.size + 1, 0, none⟩) 3 3] 27)) (((w4.alloc (.cells #[.string ⟨#[97]⟩, .int .i64 0, .string ⟨#[98]⟩, .int .i64 0, .string ⟨#[]⟩, .int .i64 1] 46)).alloc (.cells #[.string ⟨#[98]⟩, .int .i64 0, .string ⟨#[98]⟩, .int .i64 0, .string ⟨#[98]⟩, .int .i64 0] 46)).alloc (.cells #[.string ⟨#[112]⟩, .slice (some ⟨w4.heap.size, 0, none⟩) 3 3, .string ⟨#[112]⟩, .slice (some ⟨w4.heap.size + 1, 0, none⟩) 3 3] 27)).heap.size (some ⟨w4.heap.size + 1 + 1, 0, none⟩) [⟨⟨#[112]⟩, some ⟨w4.heap.size, 0, none⟩, 3, [vA, vB, v1]⟩, ⟨⟨#[112]⟩, some ⟨w4.heap.size + 1, 0, none⟩, 3, [vB, vB, vB]⟩] := by
    have := rd_block ET (l := [⟨⟨#[112]⟩, some ⟨w4.heap.size, 0, none⟩, 3, [vA, vB, v1]⟩, ⟨⟨#[112]⟩, some ⟨w4.heap.size + 1, 0, none⟩, 3, [vB, vB, vB]⟩]) (B := (((w4.alloc (.cells #[.string ⟨#[97]⟩, .int .i64 0, .string ⟨#[98]⟩, .int .i64 0, .string ⟨#[]⟩, .int .i64 1] 46)).alloc (.cells #[.string ⟨#[98]⟩, .int .i64 0, .string ⟨#[98]⟩, .int .i64 0, .string ⟨#[98]⟩, .int .i64 0] 46)).alloc (.cells #[.string ⟨#[112]⟩, .slice (some ⟨w4.heap.size, 0, none⟩) 3 3, .string ⟨#[112]⟩, .slice (some ⟨w4.heap.size + 1, 0, none⟩) 3 3] 27)).heap.size) (heap_alloc_new ((w4.alloc (.cells #[.string ⟨#[97]⟩, .int .i64 0, .string ⟨#[98]⟩, .int .i64 0, .string ⟨#[]⟩, .int .i64 1] 46)).alloc (.cells #[.string ⟨#[98]⟩, .int .i64 0, .string ⟨#[98]⟩, .int .i64 0, .string ⟨#[98]⟩, .int .i64 0] 46)) (.cells #[.string ⟨#[112]⟩, .slice (some ⟨w4.heap.size, 0, none⟩) 3 3, .string ⟨#[112]⟩, .slice (some ⟨w4.heap.size + 1, 0, none⟩) 3 3] 27)) rfl (by simp)
    rw [hs6] at this; exact this
  have hS := select_any 1 ⟨#[112]⟩ _ _ [tX, tX, tY] [⟨⟨#[112]⟩, some ⟨w4.heap.size, 0, none⟩, 3, [vA, vB, v1]⟩, ⟨⟨#[112]⟩, some ⟨w4.heap.size + 1, 0, none⟩, 3, [vB, vB, vB]⟩] 3 2 _ (HI12.out.on hb5).f hR3 (fun t ht => by
    simp only [List.mem_cons, List.not_mem_nil, or_false] at ht
    rcases ht with rfl | rfl
    · exact hR1
    · exact hR2) (by simp) (by simp) (fun t ht => by
    simp only [List.mem_cons, List.not_mem_nil, or_false] at ht
    rcases ht with rfl | rfl <;> (unfold maxLen; simp))
  refine hS.mono ?_
  rintro e w5 ⟨q13, c13, L, rfl, hL, _, hr13, ht13, hb6⟩
  have hfil : ([⟨⟨#[112]⟩, some ⟨w4.heap.size, 0, none⟩, 3, [vA, vB, v1]⟩, ⟨⟨#[112]⟩, some ⟨w4.heap.size + 1, 0, none⟩, 3, [vB, vB, vB]⟩] : List Tp).filter (pickB 1 ⟨#[112]⟩ [tX, tX, tY]) = [⟨⟨#[112]⟩, some ⟨w4.heap.size + 1, 0, none⟩, 3, [vB, vB, vB]⟩] := by
    simp [List.filter, pickB, fx_match2, fx_match3]
  rw [hfil] at hL
  obtain ⟨t, rfl, ht⟩ : ∃ t, L = [t] ∧ con t = (⟨#[112]⟩, [vB, vB, vB]) := by
    have hl1 : L.length = 1 := by have := congrArg List.length hL; simpa using this
    obtain ⟨t, rfl⟩ := List.length_eq_one_iff.1 hl1
    exact ⟨t, rfl, by simpa [con] using hL⟩
  have hta : t.args = [vB, vB, vB] := congrArg Prod.snd ht
  obtain ⟨bs, os, rfl, hbs, g0, g1⟩ := rdT_at hr13 0 (by simp)
  have htr := ht13 t (by simp)
  rw [hta] at htr
  obtain ⟨ba, oa, hpa, hba, g2, g3⟩ := rdV_at htr 0 (by simp)
  simp only [List.getElem_cons_zero] at g0 g1 g2 g3
  rw [hta, hpa] at g1
  have hbb : Below w4.heap.size w4 w5 := hb5.trans (hb6.mono hb5.size)
  have HI13 := Lib.hid (HI12.out.on hbb)
  have hr5' := HR12.out.grow hbb
  obtain ⟨b5, o5, rfl, hb5', x0, x1, x2, x3, x4, x5⟩ := tms2 hr5'
  have hv9 := HV12.out.grow hbb
  obtain ⟨b9, o9, rfl, hb9, y0, y1⟩ := rdV_at hv9 1 (by simp)
  have k9 : w5.cell? ⟨m9, 1, none⟩ = some (.slice (some ⟨b9, o9, none⟩) 3 c9) := (hbb.cell (p := ⟨m9, 1, none⟩) hz9).trans K9.out
  have f20 := HI13.out.c20
  have f21 := HI13.out.c21
  have f30 := HI13.out.c30
  have f31 := HI13.out.c31
  have f40 := HI13.out.c40
  have f41 := HI13.out.c41
  have he1 := fun wx => eqB0 ⟨#[88]⟩ ⟨#[97]⟩ 0 wx
  have he2 := fun wx => eqB0 ⟨#[89]⟩ ⟨#[]⟩ 1 wx
  have he3 : ∀ wx, (binOp .eql 46 (.agg #[.string ⟨#[97]⟩, .int .i64 0]) (.agg #[.string ⟨#[97]⟩, .int .i64 0])).run Try.prog wx = .ok (.bool true) wx := fun wx => by rw [eqVr]; simp
  have he4 : ∀ wx, (binOp .eql 46 (.agg #[.string ⟨#[98]⟩, .int .i64 0]) (.agg #[.string ⟨#[98]⟩, .int .i64 0])).run Try.prog wx = .ok (.bool true) wx := fun wx => by rw [eqVr]; simp
  simp only [bX, bY, vA, vB, List.getElem_cons_zero, List.getElem_cons_succ] at x0 x1 x2 x3 x4 x5 y0 y1 g2 g3
  simp only [Nat.zero_mul, Nat.one_mul, Nat.add_zero] at g0 g1 g2 g3 y0 y1
  have HBB := Lib.hid HI13.out.bel
  have hlen3 : ([vB, vB, vB] : List Vl).length = 3 := rfl
  simp only [hlen3] at g1
  clear hS hR1 hR2 hR3 hs5 hs6 hb5 hb6 hfil ht htr hta hpa hbb hr5' hv9 ht13 hr13 hL hz HI12 HR12 HV12 K9 HI13 HC5 hlen3
  go_wp2_with fail
  go_quiet (fail)
  go_wp2_with fail
  go_ret
  exact ⟨rfl, below_drewN' HBB.out _⟩
end Go.Proofs.Ytmfaallipfhajaa
