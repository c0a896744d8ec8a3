/-
  The walk of mandatelaw01.ValueGood: it answers true.
-/
import Derived.Test.YtdoadclblloddaaDoorTotal
import Derived.Test.YtdoadclblloddaaDoorRightR
namespace Go.Proofs.YtdoadclblloddaaDoor
open Go.RowKit
namespace GoodLaw

theorem keep4 {w1 X w' : World} {m : Nat} {s p : ByteArray} {n : Int} {q : Option Addr} {k c : Nat} (hm : m + 2 ≤ w1.heap.size) (F : w1.cell? ⟨m, 0, none⟩ = some (.string s) ∧ w1.cell? ⟨m, 1, none⟩ = some (.int .i64 n) ∧ w1.cell? ⟨m + 1, 0, none⟩ = some (.string p) ∧ w1.cell? ⟨m + 1, 1, none⟩ = some (.slice q k c)) (h : Below w1.heap.size w1 X) (hn : Below X.heap.size X w') : w'.cell? ⟨m, 0, none⟩ = some (.string s) ∧ w'.cell? ⟨m, 1, none⟩ = some (.int .i64 n) ∧ w'.cell? ⟨m + 1, 0, none⟩ = some (.string p) ∧ w'.cell? ⟨m + 1, 1, none⟩ = some (.slice q k c) ∧ Below w1.heap.size w1 w' := by
  obtain ⟨f1, f2, f3, f4⟩ := F
  have hk : Below w1.heap.size w1 w' := h.trans (hn.mono h.size)
  refine ⟨?_, ?_, ?_, ?_, hk⟩
  · rw [hk.cell (p := ⟨m, 0, none⟩) (by simp; omega)]; exact f1
  · rw [hk.cell (p := ⟨m, 1, none⟩) (by simp; omega)]; exact f2
  · rw [hk.cell (p := ⟨m + 1, 0, none⟩) (by simp; omega)]; exact f3
  · rw [hk.cell (p := ⟨m + 1, 1, none⟩) (by simp; omega)]; exact f4

set_option maxHeartbeats 8000000 in
set_option maxRecDepth 100000 in
theorem walk (hfix : FixedOk) (s p : ByteArray) (n : Int) (q : Option Addr) (l : List Vl) (c : Nat) (w : World) (he : Env w) (hs : s.size ≤ maxLen) (hp : p.size ≤ maxLen) (hv : Vals w w.heap.size q l) (hz : SzOk l) (hl : l.length ≤ maxLen) :
    Calls Tryd.prog 4 #[.agg #[.string s, .int .i64 n], .agg #[.string p, .slice q l.length c]] w fun e w' => e = .returned (.bool true) ∧ Below w.heap.size w w' := by
  have hb2 := below2 w (.cells #[.string s, .int .i64 n] 25) (.cells #[.string p, .slice q l.length c] 28)
  have HE := Lib.hid (he.on hb2)
  have HV := Lib.hid (vals_grow hv hb2)
  have HFX := Lib.hid hfix
  have HB := Lib.hid hb2
  have HZ := Lib.hid hz
  clear he hfix hv hz
  go_enter Tryd.func4, Tryd.ntmps4
  go_wp2_with fail
  have x0 : ((w.alloc (.cells #[.string s, .int .i64 n] 25)).alloc (.cells #[.string p, .slice q l.length c] 28)).cell? ⟨w.heap.size, 0, none⟩ = some (.string s) := by simp [go_sem]
  have x1 : ((w.alloc (.cells #[.string s, .int .i64 n] 25)).alloc (.cells #[.string p, .slice q l.length c] 28)).cell? ⟨w.heap.size, 1, none⟩ = some (.int .i64 n) := by simp [go_sem]
  have y0 : ((w.alloc (.cells #[.string s, .int .i64 n] 25)).alloc (.cells #[.string p, .slice q l.length c] 28)).cell? ⟨w.heap.size + 1, 0, none⟩ = some (.string p) := by simp [go_sem]
  have y1 : ((w.alloc (.cells #[.string s, .int .i64 n] 25)).alloc (.cells #[.string p, .slice q l.length c] 28)).cell? ⟨w.heap.size + 1, 1, none⟩ = some (.slice q l.length c) := by simp [go_sem]
  have hm : w.heap.size + 2 ≤ ((w.alloc (.cells #[.string s, .int .i64 n] 25)).alloc (.cells #[.string p, .slice q l.length c] 28)).heap.size := by simp
  clear hb2
  generalize (w.alloc (.cells #[.string s, .int .i64 n] 25)).alloc (.cells #[.string p, .slice q l.length c] 28) = w1 at *
  generalize hmm : w.heap.size = m at *
  have hR0 : Below w1.heap.size w1 w1.drew := (Below.refl _ _).drew
  have HF := Lib.hid (show w1.cell? ⟨m, 0, none⟩ = some (.string s) ∧ w1.cell? ⟨m, 1, none⟩ = some (.int .i64 n) ∧ w1.cell? ⟨m + 1, 0, none⟩ = some (.string p) ∧ w1.cell? ⟨m + 1, 1, none⟩ = some (.slice q l.length c) from ⟨x0, x1, y0, y1⟩)
  have HM := Lib.hid (show ∀ X w', Below w1.heap.size w1 X → Below X.heap.size X w' → w'.cell? ⟨m, 0, none⟩ = some (.string s) ∧ w'.cell? ⟨m, 1, none⟩ = some (.int .i64 n) ∧ w'.cell? ⟨m + 1, 0, none⟩ = some (.string p) ∧ w'.cell? ⟨m + 1, 1, none⟩ = some (.slice q l.length c) ∧ Below w1.heap.size w1 w' from fun X w' h hn => keep4 hm HF.out h hn)
  go_region_held3 (fun w' => w'.cell? ⟨m, 0, none⟩ = some (.string s) ∧ w'.cell? ⟨m, 1, none⟩ = some (.int .i64 n) ∧ w'.cell? ⟨m + 1, 0, none⟩ = some (.string p) ∧ w'.cell? ⟨m + 1, 1, none⟩ = some (.slice q l.length c) ∧ Below w1.heap.size w1 w')
    (first
      | (go_split_ands; exact HM.out _ _ (by assumption) hbn)
      | go_keep)
    (first
      | (go_at_call 12; refine (HFX.out _ (HE.out.on (by go_split_ands; assumption))).mono ?_; rintro e wn ⟨rfl, hbn⟩)
      | (go_at_call 15; refine (good_any _ _ _ hs).mono ?_; rintro e wn ⟨rfl, hbn⟩)
      | (go_at_call 16; refine (refgood_any _ _ _ hs).mono ?_; rintro e wn ⟨rfl, hbn⟩)
      | (go_at_call 17; refine (right_any p q c l _ (vals_grow HV.out (by go_split_ands; assumption)) hl hp HZ.out).mono ?_; rintro e wn ⟨rfl, hbn⟩)
      | (go_at_call 18; refine (refright_any p q c l _ (vals_grow HV.out (by go_split_ands; assumption)) hl hp HZ.out).mono ?_; rintro e wn ⟨rfl, hbn⟩))
  all_goals
    go_wp2_with fail
    go_ret
    refine ⟨by simp, ?_⟩
    rw [hmm]
    refine HB.out.trans (Below.mono (B := w1.heap.size) ?_ (by omega))
    go_split_ands
    assumption
end GoodLaw
end Go.Proofs.YtdoadclblloddaaDoor
