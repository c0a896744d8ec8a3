/-
  The walk of mandatelaw01.ValueCompares: it answers true.
-/
import Derived.Test.YtdoadclblloddaaDoorRefO
namespace Go.Proofs.YtdoadclblloddaaDoor
open Go.RowKit
namespace Compares

theorem keep8 {w1 X w' : World} {m kl km c d : Nat} {sa sb p q : ByteArray} {na nb : Int} {x y : Option Addr} (hm : m < w1.heap.size) (F : w1.cell? ⟨m, 0, none⟩ = some (.string sa) ∧ w1.cell? ⟨m, 1, none⟩ = some (.int .i64 na) ∧ w1.cell? ⟨m, 2, none⟩ = some (.string sb) ∧ w1.cell? ⟨m, 3, none⟩ = some (.int .i64 nb) ∧ w1.cell? ⟨m, 4, none⟩ = some (.string p) ∧ w1.cell? ⟨m, 5, none⟩ = some (.slice x kl c) ∧ w1.cell? ⟨m, 6, none⟩ = some (.string q) ∧ w1.cell? ⟨m, 7, none⟩ = some (.slice y km d)) (h : Below w1.heap.size w1 X) (hn : Below X.heap.size X w') : w'.cell? ⟨m, 0, none⟩ = some (.string sa) ∧ w'.cell? ⟨m, 1, none⟩ = some (.int .i64 na) ∧ w'.cell? ⟨m, 2, none⟩ = some (.string sb) ∧ w'.cell? ⟨m, 3, none⟩ = some (.int .i64 nb) ∧ w'.cell? ⟨m, 4, none⟩ = some (.string p) ∧ w'.cell? ⟨m, 5, none⟩ = some (.slice x kl c) ∧ w'.cell? ⟨m, 6, none⟩ = some (.string q) ∧ w'.cell? ⟨m, 7, none⟩ = some (.slice y km d) ∧ Below w1.heap.size w1 w' := by
  obtain ⟨f1, f2, f3, f4, f5, f6, f7, f8⟩ := F
  have hk : Below w1.heap.size w1 w' := h.trans (hn.mono h.size)
  refine ⟨?_, ?_, ?_, ?_, ?_, ?_, ?_, ?_, hk⟩
  · rw [hk.cell (p := ⟨m, 0, none⟩) hm]; exact f1
  · rw [hk.cell (p := ⟨m, 1, none⟩) hm]; exact f2
  · rw [hk.cell (p := ⟨m, 2, none⟩) hm]; exact f3
  · rw [hk.cell (p := ⟨m, 3, none⟩) hm]; exact f4
  · rw [hk.cell (p := ⟨m, 4, none⟩) hm]; exact f5
  · rw [hk.cell (p := ⟨m, 5, none⟩) hm]; exact f6
  · rw [hk.cell (p := ⟨m, 6, none⟩) hm]; exact f7
  · rw [hk.cell (p := ⟨m, 7, none⟩) hm]; exact f8

set_option maxHeartbeats 16000000 in
set_option maxRecDepth 100000 in
theorem walk (hfix : FixedOk) (sa sb p q : ByteArray) (na nb : Int) (x y : Option Addr) (l k : List Vl) (c d : Nat) (w : World) (he : Env w) (ha : sa.size ≤ maxLen) (hb : sb.size ≤ maxLen) (hp : p.size ≤ maxLen) (hq : q.size ≤ maxLen)
    (hx : Vals w w.heap.size x l) (hy : Vals w w.heap.size y k) (zx : SzOk l) (zy : SzOk k) (lx : l.length ≤ maxLen) (ly : k.length ≤ maxLen) :
    Calls Tryd.prog 7 #[.agg #[.string sa, .int .i64 na, .string sb, .int .i64 nb, .string p, .slice x l.length c, .string q, .slice y k.length d]] w fun e w' => e = .returned (.bool true) ∧ Below w.heap.size w w' := by
  have hb2 : Below w.heap.size w (w.alloc (.cells #[.string sa, .int .i64 na, .string sb, .int .i64 nb, .string p, .slice x l.length c, .string q, .slice y k.length d] 37)) := (Below.refl _ _).alloc (Nat.le_refl _) _
  have HE := Lib.hid (he.on hb2)
  have HX := Lib.hid (vals_grow hx hb2)
  have HY := Lib.hid (vals_grow hy hb2)
  have HFX := Lib.hid hfix
  have HB := Lib.hid hb2
  have ZX := Lib.hid zx
  have ZY := Lib.hid zy
  clear he hfix hx hy zx zy
  go_enter Tryd.func7, Tryd.ntmps7
  go_wp2_with fail
  have x0 : (w.alloc (.cells #[.string sa, .int .i64 na, .string sb, .int .i64 nb, .string p, .slice x l.length c, .string q, .slice y k.length d] 37)).cell? ⟨w.heap.size, 0, none⟩ = some (.string sa) := by simp [go_sem]
  have x1 : (w.alloc (.cells #[.string sa, .int .i64 na, .string sb, .int .i64 nb, .string p, .slice x l.length c, .string q, .slice y k.length d] 37)).cell? ⟨w.heap.size, 1, none⟩ = some (.int .i64 na) := by simp [go_sem]
  have x2 : (w.alloc (.cells #[.string sa, .int .i64 na, .string sb, .int .i64 nb, .string p, .slice x l.length c, .string q, .slice y k.length d] 37)).cell? ⟨w.heap.size, 2, none⟩ = some (.string sb) := by simp [go_sem]
  have x3 : (w.alloc (.cells #[.string sa, .int .i64 na, .string sb, .int .i64 nb, .string p, .slice x l.length c, .string q, .slice y k.length d] 37)).cell? ⟨w.heap.size, 3, none⟩ = some (.int .i64 nb) := by simp [go_sem]
  have x4 : (w.alloc (.cells #[.string sa, .int .i64 na, .string sb, .int .i64 nb, .string p, .slice x l.length c, .string q, .slice y k.length d] 37)).cell? ⟨w.heap.size, 4, none⟩ = some (.string p) := by simp [go_sem]
  have x5 : (w.alloc (.cells #[.string sa, .int .i64 na, .string sb, .int .i64 nb, .string p, .slice x l.length c, .string q, .slice y k.length d] 37)).cell? ⟨w.heap.size, 5, none⟩ = some (.slice x l.length c) := by simp [go_sem]
  have x6 : (w.alloc (.cells #[.string sa, .int .i64 na, .string sb, .int .i64 nb, .string p, .slice x l.length c, .string q, .slice y k.length d] 37)).cell? ⟨w.heap.size, 6, none⟩ = some (.string q) := by simp [go_sem]
  have x7 : (w.alloc (.cells #[.string sa, .int .i64 na, .string sb, .int .i64 nb, .string p, .slice x l.length c, .string q, .slice y k.length d] 37)).cell? ⟨w.heap.size, 7, none⟩ = some (.slice y k.length d) := by simp [go_sem]
  have hm : w.heap.size < (w.alloc (.cells #[.string sa, .int .i64 na, .string sb, .int .i64 nb, .string p, .slice x l.length c, .string q, .slice y k.length d] 37)).heap.size := by simp
  clear hb2
  generalize w.alloc (.cells #[.string sa, .int .i64 na, .string sb, .int .i64 nb, .string p, .slice x l.length c, .string q, .slice y k.length d] 37) = w1 at *
  generalize hmm : w.heap.size = m at *
  have hR0 : Below w1.heap.size w1 w1.drew := (Below.refl _ _).drew
  have HF := Lib.hid (show w1.cell? ⟨m, 0, none⟩ = some (.string sa) ∧ w1.cell? ⟨m, 1, none⟩ = some (.int .i64 na) ∧ w1.cell? ⟨m, 2, none⟩ = some (.string sb) ∧ w1.cell? ⟨m, 3, none⟩ = some (.int .i64 nb) ∧ w1.cell? ⟨m, 4, none⟩ = some (.string p) ∧ w1.cell? ⟨m, 5, none⟩ = some (.slice x l.length c) ∧ w1.cell? ⟨m, 6, none⟩ = some (.string q) ∧ w1.cell? ⟨m, 7, none⟩ = some (.slice y k.length d) from ⟨x0, x1, x2, x3, x4, x5, x6, x7⟩)
  have HM := Lib.hid (show ∀ X w', Below w1.heap.size w1 X → Below X.heap.size X w' → w'.cell? ⟨m, 0, none⟩ = some (.string sa) ∧ w'.cell? ⟨m, 1, none⟩ = some (.int .i64 na) ∧ w'.cell? ⟨m, 2, none⟩ = some (.string sb) ∧ w'.cell? ⟨m, 3, none⟩ = some (.int .i64 nb) ∧ w'.cell? ⟨m, 4, none⟩ = some (.string p) ∧ w'.cell? ⟨m, 5, none⟩ = some (.slice x l.length c) ∧ w'.cell? ⟨m, 6, none⟩ = some (.string q) ∧ w'.cell? ⟨m, 7, none⟩ = some (.slice y k.length d) ∧ Below w1.heap.size w1 w' from fun X w' h hn => keep8 hm HF.out h hn)
  go_region_held3 (fun w' => w'.cell? ⟨m, 0, none⟩ = some (.string sa) ∧ w'.cell? ⟨m, 1, none⟩ = some (.int .i64 na) ∧ w'.cell? ⟨m, 2, none⟩ = some (.string sb) ∧ w'.cell? ⟨m, 3, none⟩ = some (.int .i64 nb) ∧ w'.cell? ⟨m, 4, none⟩ = some (.string p) ∧ w'.cell? ⟨m, 5, none⟩ = some (.slice x l.length c) ∧ w'.cell? ⟨m, 6, none⟩ = some (.string q) ∧ w'.cell? ⟨m, 7, none⟩ = some (.slice y k.length d) ∧ Below w1.heap.size w1 w')
    (first
      | (go_split_ands; exact HM.out _ _ (by assumption) hbn)
      | go_keep)
    (first
      | (go_at_call 12; refine (HFX.out _ (HE.out.on (by go_split_ands; assumption))).mono ?_; rintro e wn ⟨rfl, hbn⟩)
      | (go_at_call 23; refine (compare_any sa sb na nb _).mono ?_; rintro e wn ⟨rfl, hbn⟩)
      | (go_at_call 24; refine (refcompare_any sa sb na nb _ ha hb).mono ?_; rintro e wn ⟨rfl, hbn⟩)
      | (go_at_call 25; refine (order_any ⟨p, x, c, l⟩ ⟨q, y, d, k⟩ _ ⟨vals_grow HX.out (by go_split_ands; assumption), lx⟩ ⟨vals_grow HY.out (by go_split_ands; assumption), ly⟩).mono ?_; rintro e wn ⟨rfl, hbn⟩)
      | (go_at_call 26; refine (reforder_any ⟨p, x, c, l⟩ ⟨q, y, d, k⟩ _ ⟨vals_grow HX.out (by go_split_ands; assumption), lx⟩ ⟨vals_grow HY.out (by go_split_ands; assumption), ly⟩ hp hq ZX.out ZY.out).mono ?_; rintro e wn ⟨rfl, hbn⟩))
  all_goals
    go_wp2_with fail
    go_ret
    refine ⟨by simp, ?_⟩
    rw [hmm]
    refine HB.out.trans (Below.mono (B := w1.heap.size) ?_ (by omega))
    go_split_ands
    assumption
end Compares
end Go.Proofs.YtdoadclblloddaaDoor
