/-
  The walk of mandatelaw01.ValueTexts: it answers true.
-/
import Derived.Test.YtdoadclblloddaaDoorNum2
import Derived.Test.YtdoadclblloddaaDoorTotal
namespace Go.Proofs.YtdoadclblloddaaDoor
open Go.RowKit
namespace TextsLaw

set_option maxHeartbeats 2000000 in
set_option maxRecDepth 100000 in
theorem walk (hfix : FixedOk) (sv : ByteArray) (nv : Int) (w : World) (he : Env w) (hv : sv.size ≤ maxLen) (h0 : -9223372036854775808 ≤ nv) (h1 : nv ≤ 9223372036854775807) :
    Calls Tryd.prog 5 #[.agg #[.string sv, .int .i64 nv]] w fun e w' => e = .returned (.bool true) ∧ Below w.heap.size w w' := by
  have hB := (Below.refl w.heap.size w).alloc (Nat.le_refl _) (.cells #[.string sv, .int .i64 nv] 25)
  have HB := Lib.hid hB
  have HE := Lib.hid (he.on hB)
  have HFX := Lib.hid hfix
  have H01 := Lib.hid (And.intro h0 h1)
  clear he hfix h0 h1 hB
  go_enter Tryd.func5, Tryd.ntmps5
  go_wp2_with fail
  refine (text_any sv nv _ hv H01.out.1 H01.out.2 HE.out).mono ?_
  rintro e w1 ⟨rfl, hb1⟩
  have hz1 : w.heap.size < w1.heap.size := by have := hb1.size; simp at this; omega
  have x0 : w1.cell? ⟨w.heap.size, 0, none⟩ = some (.string sv) := by rw [hb1.cell (p := ⟨w.heap.size, 0, none⟩) (by simp)]; simp [go_sem]
  have x1 : w1.cell? ⟨w.heap.size, 1, none⟩ = some (.int .i64 nv) := by rw [hb1.cell (p := ⟨w.heap.size, 1, none⟩) (by simp)]; simp [go_sem]
  have HB1 := Lib.hid (show Below w.heap.size w w1 from HB.out.trans (hb1.mono HB.out.size))
  have HE1 := Lib.hid (HE.out.on hb1)
  clear hb1
  generalize hmm : w.heap.size = m at *
  go_wp2_with fail
  refine (reftext_any sv nv _ hv H01.out.1 H01.out.2).mono ?_
  rintro e w2 ⟨rfl, hb2⟩
  have HE2 := Lib.hid (HE1.out.on hb2)
  have HB2 := Lib.hid (HB1.out.trans (hb2.mono (Nat.le_of_lt hz1)))
  have hz2 : m < w2.heap.size := Nat.lt_of_lt_of_le hz1 hb2.size
  clear hb2 x0 x1
  go_wp2_with fail
  refine (HFX.out _ HE2.out).mono ?_
  rintro e w3 ⟨rfl, hb3⟩
  have HB3 := Lib.hid (HB2.out.trans (hb3.mono (Nat.le_of_lt hz2)))
  clear hb3
  go_wp2_with fail
  go_ret
  exact ⟨rfl, by rw [hmm]; exact HB3.out⟩
end TextsLaw
end Go.Proofs.YtdoadclblloddaaDoor
