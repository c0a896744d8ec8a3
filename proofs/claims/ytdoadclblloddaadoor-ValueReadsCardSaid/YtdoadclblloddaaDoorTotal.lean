/-
  The walk of mandatelaw01.ValueTotal: it answers true.
-/
import Derived.Test.YtdoadclblloddaaDoorRead
import Derived.Laws.StructEq
import Derived.RegionTactic
import Derived.Deep.RegionWith
import Derived.Deep.RegionHeld3
import Derived.Deep.DeepCutAuto
namespace Go.Proofs.YtdoadclblloddaaDoor
open Go.RowKit
/-- that the law's first call answers true -/
def FixedOk : Prop := ∀ w, Env w → Calls Tryd.prog 12 #[] w fun e w' => e = .returned (.bool true) ∧ Below w.heap.size w w'

theorem eql25 (s t : ByteArray) (n m : Int) (w : World) : (binOp .eql 25 (.agg #[.string s, .int .i64 n]) (.agg #[.string t, .int .i64 m])).run Tryd.prog w = .ok (.bool (s.toList == t.toList && n == m)) w := by
  have u9 := Tryd.underlying9
  have u2 := Tryd.underlying2
  have a9 := Tryd.isAgg9
  have z9 := Tryd.sizeOf9
  have a2 := Tryd.isAgg2
  have z2 := Tryd.sizeOf2
  have hS : Tryd.prog.underlying 25 = some (.struct (Tryd.prog.fieldsOf 25)) := by kernel_rfl
  have hp : Tryd.prog.stoodInHeld 25 = false := by kernel_rfl
  rw [run_eql_struct, show (10000 : Nat) = 9999 + 1 from rfl, run_equalIn_agg w 9999 25 _ _ hS hp]
  simp only [Program.fieldsOf, Tryd.underlying25]
  go_simp
  by_cases h1 : s.toList = t.toList <;> by_cases h2 : n = m <;> simp [h1, h2]
theorem eq_of_cmp (s t : ByteArray) (n m : Int) : (s.toList == t.toList && n == m) = decide (cmpW s n t m = 0) := by
  rw [ByteArray.toList_eq, ByteArray.toList_eq, Bool.eq_iff_iff]
  simp [cmpW, cmpV_zero]
namespace Total

theorem keep6 {w1 X w' : World} {m : Nat} {sa sb sc : ByteArray} {na nb nc : Int} (hm : m + 3 ≤ w1.heap.size) (F : w1.cell? ⟨m, 0, none⟩ = some (.string sa) ∧ w1.cell? ⟨m, 1, none⟩ = some (.int .i64 na) ∧ w1.cell? ⟨m + 1, 0, none⟩ = some (.string sb) ∧ w1.cell? ⟨m + 1, 1, none⟩ = some (.int .i64 nb) ∧ w1.cell? ⟨m + 1 + 1, 0, none⟩ = some (.string sc) ∧ w1.cell? ⟨m + 1 + 1, 1, none⟩ = some (.int .i64 nc)) (h : Below w1.heap.size w1 X) (hn : Below X.heap.size X w') : w'.cell? ⟨m, 0, none⟩ = some (.string sa) ∧ w'.cell? ⟨m, 1, none⟩ = some (.int .i64 na) ∧ w'.cell? ⟨m + 1, 0, none⟩ = some (.string sb) ∧ w'.cell? ⟨m + 1, 1, none⟩ = some (.int .i64 nb) ∧ w'.cell? ⟨m + 1 + 1, 0, none⟩ = some (.string sc) ∧ w'.cell? ⟨m + 1 + 1, 1, none⟩ = some (.int .i64 nc) ∧ Below w1.heap.size w1 w' := by
  obtain ⟨f1, f2, f3, f4, f5, f6⟩ := F
  have hk : Below w1.heap.size w1 w' := h.trans (hn.mono h.size)
  refine ⟨?_, ?_, ?_, ?_, ?_, ?_, hk⟩
  · rw [hk.cell (p := ⟨m, 0, none⟩) (by simp; omega)]; exact f1
  · rw [hk.cell (p := ⟨m, 1, none⟩) (by simp; omega)]; exact f2
  · rw [hk.cell (p := ⟨m + 1, 0, none⟩) (by simp; omega)]; exact f3
  · rw [hk.cell (p := ⟨m + 1, 1, none⟩) (by simp; omega)]; exact f4
  · rw [hk.cell (p := ⟨m + 1 + 1, 0, none⟩) (by simp; omega)]; exact f5
  · rw [hk.cell (p := ⟨m + 1 + 1, 1, none⟩) (by simp; omega)]; exact f6

set_option maxHeartbeats 8000000 in
set_option maxRecDepth 100000 in
theorem walk (hfix : FixedOk) (sa sb sc : ByteArray) (na nb nc : Int) (w : World) (he : Env w) :
    Calls Tryd.prog 10 #[.agg #[.string sa, .int .i64 na], .agg #[.string sb, .int .i64 nb], .agg #[.string sc, .int .i64 nc]] w fun e w' => e = .returned (.bool true) ∧ Below w.heap.size w w' := by
  have hB := Lib.hid (show ∀ o1 o2 o3, Below w.heap.size w (((w.alloc o1).alloc o2).alloc o3) from fun o1 o2 o3 => (below2 w o1 o2).alloc (by simp; omega) o3)
  have HE := Lib.hid he
  have HFX := Lib.hid hfix
  clear he hfix
  go_enter Tryd.func10, Tryd.ntmps10
  go_wp2_with fail
  refine (HFX.out _ (HE.out.on (hB.out _ _ _))).mono ?_
  rintro e w1 ⟨rfl, hb1⟩
  have hb2 : Below w.heap.size w w1 := (hB.out _ _ _).trans (hb1.mono (hB.out _ _ _).size)
  have hz : w.heap.size + 3 ≤ w1.heap.size := by have := hb1.size; simp at this; omega
  have x0 : w1.cell? ⟨w.heap.size, 0, none⟩ = some (.string sa) := by rw [hb1.cell (p := ⟨w.heap.size, 0, none⟩) (by simp; omega)]; simp [go_sem]
  have x1 : w1.cell? ⟨w.heap.size, 1, none⟩ = some (.int .i64 na) := by rw [hb1.cell (p := ⟨w.heap.size, 1, none⟩) (by simp; omega)]; simp [go_sem]
  have y0 : w1.cell? ⟨w.heap.size + 1, 0, none⟩ = some (.string sb) := by rw [hb1.cell (p := ⟨w.heap.size + 1, 0, none⟩) (by simp)]; simp [go_sem]
  have y1 : w1.cell? ⟨w.heap.size + 1, 1, none⟩ = some (.int .i64 nb) := by rw [hb1.cell (p := ⟨w.heap.size + 1, 1, none⟩) (by simp)]; simp [go_sem]
  have z0 : w1.cell? ⟨w.heap.size + 1 + 1, 0, none⟩ = some (.string sc) := by rw [hb1.cell (p := ⟨w.heap.size + 1 + 1, 0, none⟩) (by simp)]; simp [go_sem]
  have z1 : w1.cell? ⟨w.heap.size + 1 + 1, 1, none⟩ = some (.int .i64 nc) := by rw [hb1.cell (p := ⟨w.heap.size + 1 + 1, 1, none⟩) (by simp)]; simp [go_sem]
  clear hb1
  generalize hm : w.heap.size = m at *
  have hR0 : Below w1.heap.size w1 w1.drew := (Below.refl _ _).drew
  have HF := Lib.hid (show w1.cell? ⟨m, 0, none⟩ = some (.string sa) ∧ w1.cell? ⟨m, 1, none⟩ = some (.int .i64 na) ∧ w1.cell? ⟨m + 1, 0, none⟩ = some (.string sb) ∧ w1.cell? ⟨m + 1, 1, none⟩ = some (.int .i64 nb) ∧ w1.cell? ⟨m + 1 + 1, 0, none⟩ = some (.string sc) ∧ w1.cell? ⟨m + 1 + 1, 1, none⟩ = some (.int .i64 nc) from ⟨x0, x1, y0, y1, z0, z1⟩)
  have HM := Lib.hid (show ∀ X w', Below w1.heap.size w1 X → Below X.heap.size X w' → w'.cell? ⟨m, 0, none⟩ = some (.string sa) ∧ w'.cell? ⟨m, 1, none⟩ = some (.int .i64 na) ∧ w'.cell? ⟨m + 1, 0, none⟩ = some (.string sb) ∧ w'.cell? ⟨m + 1, 1, none⟩ = some (.int .i64 nb) ∧ w'.cell? ⟨m + 1 + 1, 0, none⟩ = some (.string sc) ∧ w'.cell? ⟨m + 1 + 1, 1, none⟩ = some (.int .i64 nc) ∧ Below w1.heap.size w1 w' from fun X w' h hn => keep6 hz HF.out h hn)
  go_wp2_with fail
  go_cut [7, 8, 9] (fun a b c w' => a = .int .i64 (cmpW sa na sb nb) ∧ b = .int .i64 (cmpW sb nb sc nc) ∧ c = .int .i64 (cmpW sa na sc nc) ∧ w'.cell? ⟨m, 0, none⟩ = some (.string sa) ∧ w'.cell? ⟨m, 1, none⟩ = some (.int .i64 na) ∧ w'.cell? ⟨m + 1, 0, none⟩ = some (.string sb) ∧ w'.cell? ⟨m + 1, 1, none⟩ = some (.int .i64 nb) ∧ w'.cell? ⟨m + 1 + 1, 0, none⟩ = some (.string sc) ∧ w'.cell? ⟨m + 1 + 1, 1, none⟩ = some (.int .i64 nc) ∧ Below w1.heap.size w1 w')
  case first =>
    go_region_held3 (fun w' => w'.cell? ⟨m, 0, none⟩ = some (.string sa) ∧ w'.cell? ⟨m, 1, none⟩ = some (.int .i64 na) ∧ w'.cell? ⟨m + 1, 0, none⟩ = some (.string sb) ∧ w'.cell? ⟨m + 1, 1, none⟩ = some (.int .i64 nb) ∧ w'.cell? ⟨m + 1 + 1, 0, none⟩ = some (.string sc) ∧ w'.cell? ⟨m + 1 + 1, 1, none⟩ = some (.int .i64 nc) ∧ Below w1.heap.size w1 w')
      (first
        | (go_split_ands; exact HM.out _ _ (by assumption) hbn)
        | go_keep)
      (first
        | (go_at_call 23; refine (compare_any _ _ _ _ _).mono ?_; rintro e wn ⟨rfl, hbn⟩))
    all_goals (go_wp2_with fail; go_meet; go_split_ands; refine ⟨rfl, rfl, rfl, ?_, ?_, ?_, ?_, ?_, ?_, ?_⟩ <;> assumption)
  case rest =>
    obtain ⟨rfl, rfl, rfl, d0, d1, d2, d3, d4, d5, hbx⟩ := hcut
    have HBX := Lib.hid hbx
    have hm0 := Nat.lt_of_lt_of_le (show m < w1.heap.size by omega) hbx.size
    have hm1 := Nat.lt_of_lt_of_le (show m + 1 < w1.heap.size by omega) hbx.size
    have HB2 := Lib.hid hb2
    have tr1 : Tr (cmpW sa na sb nb) (cmpW sb nb sc nc) (cmpW sa na sc nc) := cmpV_tr _ _ _ _ _ _
    have tr2 : Tr (cmpW sc nc sb nb) (cmpW sb nb sa na) (cmpW sc nc sa na) := cmpV_tr _ _ _ _ _ _
    rw [show cmpW sc nc sb nb = - cmpW sb nb sc nc from cmpV_swap _ _ _ _, show cmpW sb nb sa na = - cmpW sa na sb nb from cmpV_swap _ _ _ _, show cmpW sc nc sa na = - cmpW sa na sc nc from cmpV_swap _ _ _ _] at tr2
    have hba := fun wx => compare_any sb sa nb na wx
    simp only [show cmpW sb nb sa na = - cmpW sa na sb nb from cmpV_swap _ _ _ _] at hba
    have heq : (sa.toList == sb.toList && na == nb) = decide (cmpW sa na sb nb = 0) := eq_of_cmp sa sb na nb
    have he25 := fun wx => eql25 sa sb na nb wx
    rw [heq] at he25
    have ix : Tri (cmpW sa na sb nb) := cmpV_tri _ _ _ _
    have iy : Tri (cmpW sb nb sc nc) := cmpV_tri _ _ _ _
    have iz : Tri (cmpW sa na sc nc) := cmpV_tri _ _ _ _
    generalize cmpW sa na sb nb = x at *
    generalize cmpW sb nb sc nc = y at *
    generalize cmpW sa na sc nc = z at *
    have HBA := Lib.hid hba
    clear hba heq hR0 hbx x0 x1 y0 y1 z0 z1 HE HFX HF HM
    unfold Tr at tr1 tr2
    rcases ix with rfl | rfl | rfl <;> rcases iy with rfl | rfl | rfl <;> rcases iz with rfl | rfl | rfl <;> first
      | (exfalso; clear he25; omega)
      | (clear tr1 tr2
         go_wp2_with (go_at_call 23; refine (HBA.out _).mono ?_; rintro e wn ⟨rfl, hbn⟩; obtain ⟨hcn, _⟩ := bcell hbn)
         go_ret
         exact ⟨rfl, by rw [hm]; exact HB2.out.trans ((HBX.out.trans (hbn.mono HBX.out.size)).mono (by omega))⟩)
end Total
end Go.Proofs.YtdoadclblloddaaDoor
