/-
  The walk of mandatelaw01.ValueBack: it answers true.
-/
import Derived.Test.YtdoadclblloddaaDoorBack
import Derived.Test.YtdoadclblloddaaDoorTotal
namespace Go.Proofs.YtdoadclblloddaaDoor
open Go.RowKit
namespace BackLaw

theorem neq25 (s t : ByteArray) (n m : Int) (w : World) : (binOp .neq 25 (.agg #[.string s, .int .i64 n]) (.agg #[.string t, .int .i64 m])).run Tryd.prog w = .ok (.bool (!(s.toList == t.toList && n == m))) w := by
  have u9 := Tryd.underlying9
  have u2 := Tryd.underlying2
  have a9 := Tryd.isAgg9
  have z9 := Tryd.sizeOf9
  have a2 := Tryd.isAgg2
  have z2 := Tryd.sizeOf2
  have hS : Tryd.prog.underlying 25 = some (.struct (Tryd.prog.fieldsOf 25)) := by kernel_rfl
  have hp : Tryd.prog.stoodInHeld 25 = false := by kernel_rfl
  rw [run_neq_struct, show (10000 : Nat) = 9999 + 1 from rfl, run_equalIn_agg w 9999 25 _ _ hS hp]
  simp only [Program.fieldsOf, Tryd.underlying25]
  go_simp
  by_cases h1 : s.toList = t.toList <;> by_cases h2 : n = m <;> simp [h1, h2]

/-- value.Read, its answer's parts by name. -/
theorem read_parts (s : ByteArray) (w : World) (hs : s.size ≤ 140737488351232) (he : Env w) :
    Calls Tryd.prog 21 #[.string s] w fun e w' => e = .returned (.tuple #[.agg #[.string (readS s), .int .i64 (readI s)], .bool (readB s)]) ∧ Below w.heap.size w w' := by
  rw [← readV_eq]; exact read_any s w hs he

set_option maxHeartbeats 8000000 in
set_option maxRecDepth 100000 in
theorem walk (hfix : FixedOk) (sv s : ByteArray) (nv : Int) (w : World) (he : Env w) (hv : sv.size ≤ maxLen) (h0 : -9223372036854775808 ≤ nv) (h1 : nv ≤ 9223372036854775807) (hs : s.size ≤ 140737488351232) :
    Calls Tryd.prog 9 #[.agg #[.string sv, .int .i64 nv], .string s] w fun e w' => e = .returned (.bool true) ∧ Below w.heap.size w w' := by
  have hB := (Below.refl w.heap.size w).alloc (Nat.le_refl _) (.cells #[.string sv, .int .i64 nv] 25)
  have HB := Lib.hid hB
  have HE := Lib.hid (he.on hB)
  have HFX := Lib.hid hfix
  have HT := Lib.hid (text_size sv nv h0 h1)
  have HR := Lib.hid (readI_bd s)
  have HS := Lib.hid (readS_size s)
  clear he hfix hB
  have key : goodB sv nv = true → (readB (textS sv nv) = true ∧ readS (textS sv nv) = sv ∧ readI (textS sv nv) = nv) := fun g => back_text sv nv h0 h1 g
  have key2 : readB s = true → (goodB (readS s) (readI s) = true ∧ textS (readS s) (readI s) = s) := fun g => back_read s g
  have HK := Lib.hid key
  have HK2 := Lib.hid key2
  have H01 := Lib.hid (And.intro h0 h1)
  clear key key2 h0 h1
  go_enter Tryd.func9, Tryd.ntmps9
  go_wp2_with fail
  refine (HFX.out _ HE.out).mono ?_
  rintro e w1 ⟨rfl, hb1⟩
  have hz1 : w.heap.size < w1.heap.size := by have := hb1.size; simp at this; omega
  have x0 : w1.cell? ⟨w.heap.size, 0, none⟩ = some (.string sv) := by rw [hb1.cell (p := ⟨w.heap.size, 0, none⟩) (by simp)]; simp [go_sem]
  have x1 : w1.cell? ⟨w.heap.size, 1, none⟩ = some (.int .i64 nv) := by rw [hb1.cell (p := ⟨w.heap.size, 1, none⟩) (by simp)]; simp [go_sem]
  have HB1 := Lib.hid (show Below w.heap.size w w1 from HB.out.trans (hb1.mono HB.out.size))
  have HE1 := Lib.hid (HE.out.on hb1)
  clear hb1
  generalize hmm : w.heap.size = m at *
  go_wp2_with fail
  refine (text_any sv nv _ hv H01.out.1 H01.out.2 HE1.out).mono ?_
  rintro e w2 ⟨rfl, hb2⟩
  obtain ⟨hc2, hf2⟩ := bcell hb2
  have hz2 : m < w2.heap.size := Nat.lt_of_lt_of_le hz1 hb2.size
  have HE2 := Lib.hid (HE1.out.on hb2)
  go_wp2_with fail
  refine (good_any sv nv _ hv).mono ?_
  rintro e w3 ⟨rfl, hb3⟩
  obtain ⟨hc3, hf3⟩ := bcell hb3
  have hz3 : m < w3.heap.size := Nat.lt_of_lt_of_le hz2 hb3.size
  have HE3 := Lib.hid (HE2.out.on hb3)
  go_wp2_with fail
  refine (read_parts _ _ HT.out HE3.out).mono ?_
  rintro e w4 ⟨rfl, hb4⟩
  obtain ⟨hc4, hf4⟩ := bcell hb4
  have hz4 : m < w4.heap.size := Nat.lt_of_lt_of_le hz3 hb4.size
  have HE4 := Lib.hid (HE3.out.on hb4)
  have HB4 := Lib.hid (show Below m w w4 from ((HB1.out.trans (hb2.mono (by omega))).trans (hb3.mono (by omega))).trans (hb4.mono (by omega)))
  have hn := fun wx => neq25 (readS (textS sv nv)) sv (readI (textS sv nv)) nv wx
  have y0 : w4.cell? ⟨m, 0, none⟩ = some (.string sv) := by rw [hc4 m 0 hz3, hc3 m 0 hz2, hc2 m 0 hz1]; exact x0
  have y1 : w4.cell? ⟨m, 1, none⟩ = some (.int .i64 nv) := by rw [hc4 m 1 hz3, hc3 m 1 hz2, hc2 m 1 hz1]; exact x1
  clear hb2 hb3 hb4 hc2 hc3 hc4 hf2 hf3 hf4 x0 x1
  generalize readB (textS sv nv) = rb at *
  generalize readS (textS sv nv) = rs at *
  generalize readI (textS sv nv) = ri at *
  have hA := (Below.refl w4.heap.size w4).alloc (Nat.le_refl _) (.cells #[.string rs, .int .i64 ri] 25)
  have HA := Lib.hid hA
  clear hA
  have HC := Lib.hid (show goodB sv nv = false ∨ goodB sv nv = true ∧ rb = true ∧ rs = sv ∧ ri = nv from by
    cases hg : goodB sv nv with
    | true => exact .inr ⟨rfl, HK.out hg⟩
    | false => exact .inl rfl)
  have HD := Lib.hid (show readB s = false ∨ readB s = true ∧ goodB (readS s) (readI s) = true ∧ ((textS (readS s) (readI s)).toList == s.toList) = true from by
    cases hr : readB s with
    | true => obtain ⟨a, b⟩ := HK2.out hr; exact .inr ⟨rfl, a, by rw [b]; simp⟩
    | false => exact .inl rfl)
  clear HK HK2
  rcases HC.out with hg | ⟨hg, e1, e2, e3⟩
  rotate_left
  · subst e1 e2 e3
    simp only [beq_self_eq_true, Bool.and_self, Bool.not_true] at hn
    rcases HD.out with hr | ⟨hr, hg2, ht2⟩
    all_goals
      go_wp2_with fail
      refine (read_parts s _ hs (HE4.out.on HA.out)).mono ?_
      rintro e w5 ⟨rfl, hb5⟩
      have hz5 : w4.heap.size < w5.heap.size := by have := hb5.size; simp at this; omega
      have c0 := hb5.cell (p := ⟨w4.heap.size, 0, none⟩) (by simp)
      have c1 := hb5.cell (p := ⟨w4.heap.size, 1, none⟩) (by simp)
      have f0 := hb5.frozen (p := ⟨w4.heap.size, 0, none⟩) (by simp)
      have f1 := hb5.frozen (p := ⟨w4.heap.size, 1, none⟩) (by simp)
      simp [go_sem] at c0 c1 f0 f1
      have HB5 := Lib.hid (show Below w4.heap.size w4 w5 from HA.out.trans (hb5.mono HA.out.size))
      clear hb5
      go_wp2_with fail
      refine (text_any (readS s) (readI s) _ HS.out HR.out.1 HR.out.2 (HE4.out.on ((HB5.out.setCell (Nat.le_refl _) _).setCell (Nat.le_refl _) _))).mono ?_
      rintro e w7 ⟨rfl, hb7⟩
      go_wp2_with fail
      go_ret
      exact ⟨rfl, by rw [hmm]; exact HB4.out.trans ((((HB5.out.setCell (Nat.le_refl _) _).setCell (Nat.le_refl _) _).trans (hb7.mono (by simp; omega))).mono (by omega))⟩
  · rcases HD.out with hr | ⟨hr, hg2, ht2⟩
    all_goals
      go_wp2_with fail
      refine (read_parts s _ hs (HE4.out.on HA.out)).mono ?_
      rintro e w5 ⟨rfl, hb5⟩
      have hz5 : w4.heap.size < w5.heap.size := by have := hb5.size; simp at this; omega
      have c0 := hb5.cell (p := ⟨w4.heap.size, 0, none⟩) (by simp)
      have c1 := hb5.cell (p := ⟨w4.heap.size, 1, none⟩) (by simp)
      have f0 := hb5.frozen (p := ⟨w4.heap.size, 0, none⟩) (by simp)
      have f1 := hb5.frozen (p := ⟨w4.heap.size, 1, none⟩) (by simp)
      simp [go_sem] at c0 c1 f0 f1
      have HB5 := Lib.hid (show Below w4.heap.size w4 w5 from HA.out.trans (hb5.mono HA.out.size))
      clear hb5
      go_wp2_with fail
      refine (text_any (readS s) (readI s) _ HS.out HR.out.1 HR.out.2 (HE4.out.on ((HB5.out.setCell (Nat.le_refl _) _).setCell (Nat.le_refl _) _))).mono ?_
      rintro e w7 ⟨rfl, hb7⟩
      go_wp2_with fail
      go_ret
      exact ⟨rfl, by rw [hmm]; exact HB4.out.trans ((((HB5.out.setCell (Nat.le_refl _) _).setCell (Nat.le_refl _) _).trans (hb7.mono (by simp; omega))).mono (by omega))⟩
end BackLaw
end Go.Proofs.YtdoadclblloddaaDoor
