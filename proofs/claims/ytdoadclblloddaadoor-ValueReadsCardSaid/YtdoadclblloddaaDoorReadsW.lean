/-
  The walk of mandatelaw01.ValueReads: it answers true.
-/
import Derived.Test.YtdoadclblloddaaDoorReadA
import Derived.Test.YtdoadclblloddaaDoorTotal
namespace Go.Proofs.YtdoadclblloddaaDoor
open Go.RowKit
namespace ReadsLaw

theorem refread_parts (s : ByteArray) (w : World) (hs : s.size ≤ maxLen) :
    Calls Tryd.prog 22 #[.string s] w fun e w' => e = .returned (.tuple #[.agg #[.string (readS s), .int .i64 (readI s)], .bool (readB s)]) ∧ Below w.heap.size w w' := by
  rw [← readV_eq]; exact refread_any s w hs
theorem read_parts (s : ByteArray) (w : World) (hs : s.size ≤ 140737488351232) (he : Env w) :
    Calls Tryd.prog 21 #[.string s] w fun e w' => e = .returned (.tuple #[.agg #[.string (readS s), .int .i64 (readI s)], .bool (readB s)]) ∧ Below w.heap.size w w' := by
  rw [← readV_eq]; exact read_any s w hs he

set_option maxHeartbeats 2000000 in
set_option maxRecDepth 100000 in
theorem walk (hfix : FixedOk) (s : ByteArray) (w : World) (he : Env w) (hs : s.size ≤ 140737488351232) :
    Calls Tryd.prog 6 #[.string s] w fun e w' => e = .returned (.bool true) ∧ Below w.heap.size w w' := by
  have HE := Lib.hid he
  have HFX := Lib.hid hfix
  have HM := Lib.hid (show s.size ≤ maxLen by unfold maxLen; omega)
  have HS := Lib.hid hs
  clear he hfix hs
  have heq := fun wx => eql25 (readS s) (readS s) (readI s) (readI s) wx
  simp only [beq_self_eq_true, Bool.and_self] at heq
  go_enter Tryd.func6, Tryd.ntmps6
  go_wp2_with fail
  refine (read_parts s _ HS.out HE.out).mono ?_
  rintro e w1 ⟨rfl, hb1⟩
  have HE1 := Lib.hid (HE.out.on hb1)
  have HB1 := Lib.hid hb1
  clear hb1
  have HP2 := Lib.hid (show ∀ wx, _ from fun wx => refread_parts s wx HM.out)
  generalize hrs : readS s = rs at *
  generalize hri : readI s = ri at *
  generalize hrb : readB s = rb at *
  go_wp2_with fail
  refine (HP2.out _).mono ?_
  rintro e w2 ⟨rfl, hb2⟩
  have z2 : w1.heap.size < w2.heap.size := by have := hb2.size; simp at this; omega
  have x0 : w2.cell? ⟨w1.heap.size, 0, none⟩ = some (.string rs) := by rw [hb2.cell (p := ⟨w1.heap.size, 0, none⟩) (by simp)]; simp [go_sem]
  have x1 : w2.cell? ⟨w1.heap.size, 1, none⟩ = some (.int .i64 ri) := by rw [hb2.cell (p := ⟨w1.heap.size, 1, none⟩) (by simp)]; simp [go_sem]
  have hB2 : Below w1.heap.size w1 w2 := ((Below.refl _ _).alloc (Nat.le_refl _) _).trans (hb2.mono (by simp))
  have HE2 := Lib.hid (HE1.out.on hB2)
  have HB2 := Lib.hid (HB1.out.trans (hB2.mono HB1.out.size))
  clear hb2 hB2
  generalize hm1 : w1.heap.size = m1 at *
  go_wp2_with fail
  have hA := (Below.refl w2.heap.size w2).alloc (Nat.le_refl _) (.cells #[.string rs, .int .i64 ri] 25)
  refine (HFX.out _ (HE2.out.on hA)).mono ?_
  rintro e w3 ⟨rfl, hb3⟩
  have y0 : w3.cell? ⟨w2.heap.size, 0, none⟩ = some (.string rs) := by rw [hb3.cell (p := ⟨w2.heap.size, 0, none⟩) (by simp)]; simp [go_sem]
  have y1 : w3.cell? ⟨w2.heap.size, 1, none⟩ = some (.int .i64 ri) := by rw [hb3.cell (p := ⟨w2.heap.size, 1, none⟩) (by simp)]; simp [go_sem]
  have hB3 : Below w2.heap.size w2 w3 := hA.trans (hb3.mono hA.size)
  have t0 : w3.cell? ⟨m1, 0, none⟩ = some (.string rs) := by rw [hB3.cell (p := ⟨m1, 0, none⟩) (by simpa using z2)]; exact x0
  have t1 : w3.cell? ⟨m1, 1, none⟩ = some (.int .i64 ri) := by rw [hB3.cell (p := ⟨m1, 1, none⟩) (by simpa using z2)]; exact x1
  have HB3 := Lib.hid (HB2.out.trans (hB3.mono HB2.out.size))
  clear hb3 hA hB3 x0 x1
  generalize hm2 : w2.heap.size = m2 at *
  go_wp2_with fail
  go_ret
  exact ⟨rfl, HB3.out⟩
end ReadsLaw
end Go.Proofs.YtdoadclblloddaaDoor
