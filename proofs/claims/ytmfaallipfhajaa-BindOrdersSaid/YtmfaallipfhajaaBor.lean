/-
  The walk of mandatelaw10.BindOrders: it answers true.
-/
import Derived.Test.YtmfaallipfhajaaBfx
namespace Go.Proofs.Ytmfaallipfhajaa
open Go.RowKit

theorem holds3_nil (sa sb : ByteArray) (na nb : Int) : holdsS 3 [⟨⟨#[]⟩, sa, na⟩, ⟨⟨#[]⟩, sb, nb⟩] [] = (decide (cmpW sa na sb nb < 0), true) := by
  simp [holdsS, look, Tm.val, ByteArray.toList_eq]
theorem holds4_nil (sa sb : ByteArray) (na nb : Int) : holdsS 4 [⟨⟨#[]⟩, sa, na⟩, ⟨⟨#[]⟩, sb, nb⟩] [] = (cmpW sa na sb nb != 0, true) := by
  simp [holdsS, look, Tm.val, ByteArray.toList_eq]
theorem cmpW_zero (s t : ByteArray) (n m : Int) : cmpW s n t m = 0 ↔ s = t ∧ n = m := by
  obtain ⟨⟨x⟩⟩ := s
  obtain ⟨⟨y⟩⟩ := t
  show cmpV x n y m = 0 ↔ _
  rw [cmpV_zero]; simp
theorem cmpW_tri (s t : ByteArray) (n m : Int) : Tri (cmpW s n t m) := cmpV_tri _ _ _ _
theorem cmpW_swap (s t : ByteArray) (n m : Int) : cmpW t m s n = - cmpW s n t m := cmpV_swap _ _ _ _

set_option maxHeartbeats 8000000 in
set_option maxRecDepth 100000 in
theorem orders_case (sa sb : ByteArray) (na nb : Int) (p q u : Bool) (hp : decide (cmpW sa na sb nb < 0) = p) (hq : decide (cmpW sb nb sa na < 0) = q) (hu : (cmpW sa na sb nb != 0) = u) (hn : eqV (sa, na) (sb, nb) = !u) (hpq : (p && q) = false) (huv : u = (p || q)) (w : World) :
    Calls Try.prog 7 #[.agg #[.string sa, .int .i64 na], .agg #[.string sb, .int .i64 nb]] w fun e w' => e = .returned (.bool true) ∧ Below w.heap.size w w' := by
  have HB := Lib.hid (below2 w (.cells #[.string sa, .int .i64 na] 46) (.cells #[.string sb, .int .i64 nb] 46))
  have HF := Lib.hid (fixed_any ((w.alloc (.cells #[.string sa, .int .i64 na] 46)).alloc (.cells #[.string sb, .int .i64 nb] 46)))
  have HN := Lib.hid (show ∀ wx, (binOp .neq 46 (.agg #[.string sa, .int .i64 na]) (.agg #[.string sb, .int .i64 nb])).run Try.prog wx = .ok (.bool u) wx from fun wx => (neV (sa, na) (sb, nb) wx).trans (by rw [hn]; simp))
  have HP := Lib.hid hp
  have HQ := Lib.hid hq
  have HU := Lib.hid hu
  have x0 : ((w.alloc (.cells #[.string sa, .int .i64 na] 46)).alloc (.cells #[.string sb, .int .i64 nb] 46)).cell? ⟨w.heap.size, 0, none⟩ = some (.string sa) := by simp [go_sem]
  have x1 : ((w.alloc (.cells #[.string sa, .int .i64 na] 46)).alloc (.cells #[.string sb, .int .i64 nb] 46)).cell? ⟨w.heap.size, 1, none⟩ = some (.int .i64 na) := by simp [go_sem]
  have y0 : ((w.alloc (.cells #[.string sa, .int .i64 na] 46)).alloc (.cells #[.string sb, .int .i64 nb] 46)).cell? ⟨w.heap.size + 1, 0, none⟩ = some (.string sb) := by simp [go_sem]
  have y1 : ((w.alloc (.cells #[.string sa, .int .i64 na] 46)).alloc (.cells #[.string sb, .int .i64 nb] 46)).cell? ⟨w.heap.size + 1, 1, none⟩ = some (.int .i64 nb) := by simp [go_sem]
  have hz : w.heap.size + 1 < ((w.alloc (.cells #[.string sa, .int .i64 na] 46)).alloc (.cells #[.string sb, .int .i64 nb] 46)).heap.size := by simp
  have HS := Lib.hid (show ∀ X, Below ((w.alloc (.cells #[.string sa, .int .i64 na] 46)).alloc (.cells #[.string sb, .int .i64 nb] 46)).heap.size ((w.alloc (.cells #[.string sa, .int .i64 na] 46)).alloc (.cells #[.string sb, .int .i64 nb] 46)) X → X.cell? ⟨w.heap.size, 0, none⟩ = some (.string sa) ∧ X.cell? ⟨w.heap.size, 1, none⟩ = some (.int .i64 na) ∧ X.cell? ⟨w.heap.size + 1, 0, none⟩ = some (.string sb) ∧ X.cell? ⟨w.heap.size + 1, 1, none⟩ = some (.int .i64 nb) ∧ w.heap.size < X.heap.size ∧ w.heap.size + 1 < X.heap.size from
    fun X h => ⟨(h.cell (p := ⟨w.heap.size, 0, none⟩) (by show w.heap.size < _; omega)).trans x0, (h.cell (p := ⟨w.heap.size, 1, none⟩) (by show w.heap.size < _; omega)).trans x1, (h.cell (p := ⟨w.heap.size + 1, 0, none⟩) hz).trans y0, (h.cell (p := ⟨w.heap.size + 1, 1, none⟩) hz).trans y1, by have := h.size; omega, by have := h.size; omega⟩)
  have HL := Lib.hid (show ∀ (k : Int) (x y : Vl) (X : World), Calls Try.prog 15 #[.agg #[.int .u8 k, .string ⟨#[]⟩, .slice (some ⟨X.heap.size, 0, none⟩) 2 2], .slice none 0 0] (X.alloc (.cells #[.string ⟨#[]⟩, .string x.1, .int .i64 x.2, .string ⟨#[]⟩, .string y.1, .int .i64 y.2] 48)) fun e w' => e = .returned (.tuple #[.bool (holdsS k [⟨⟨#[]⟩, x.1, x.2⟩, ⟨⟨#[]⟩, y.1, y.2⟩] []).1, .bool (holdsS k [⟨⟨#[]⟩, x.1, x.2⟩, ⟨⟨#[]⟩, y.1, y.2⟩] []).2]) ∧ Below X.heap.size X w' from
    fun k x y X => (holds_any k ⟨#[]⟩ _ none [⟨⟨#[]⟩, x.1, x.2⟩, ⟨⟨#[]⟩, y.1, y.2⟩] [] 2 0 _ (rd_block EM (l := [⟨⟨#[]⟩, x.1, x.2⟩, ⟨⟨#[]⟩, y.1, y.2⟩]) (heap_alloc_new X _) rfl (by simp)) .nil (by unfold maxLen; simp) (by unfold maxLen; simp)).mono fun e w' ⟨h1, h2⟩ => ⟨h1, (below1 X _).trans (h2.mono (by simp))⟩)
  clear x0 x1 y0 y1 hz hp hq hu hn
  go_enter Try.func7, Try.ntmps7
  go_wp2_with fail
  refine HF.out.mono ?_
  rintro e w1 ⟨rfl, hb1⟩
  generalize (w.alloc (.cells #[.string sa, .int .i64 na] 46)).alloc (.cells #[.string sb, .int .i64 nb] 46) = W1 at *
  have HB1 := Lib.hid hb1
  obtain ⟨x0, x1, y0, y1, z0, z1⟩ := HS.out _ HB1.out
  clear hb1
  go_wp2_with fail
  refine (HL.out 3 (sa, na) (sb, nb) w1).mono ?_
  rintro e w2 ⟨rfl, hb2⟩
  have HB2 := Lib.hid (HB1.out.trans (hb2.mono HB1.out.size))
  rw [holds3_nil]
  simp only [HP.out]
  clear hb2 x0 x1 y0 y1 z0 z1
  obtain ⟨x0, x1, y0, y1, z0, z1⟩ := HS.out _ HB2.out
  go_wp2_with fail
  refine (HL.out 3 (sb, nb) (sa, na) w2).mono ?_
  rintro e w3 ⟨rfl, hb3⟩
  have HB3 := Lib.hid (HB2.out.trans (hb3.mono HB2.out.size))
  rw [holds3_nil]
  simp only [HQ.out]
  clear hb3 x0 x1 y0 y1 z0 z1
  obtain ⟨x0, x1, y0, y1, z0, z1⟩ := HS.out _ HB3.out
  go_wp2_with fail
  refine (HL.out 4 (sa, na) (sb, nb) w3).mono ?_
  rintro e w4 ⟨rfl, hb4⟩
  have HB4 := Lib.hid (HB3.out.trans (hb4.mono HB3.out.size))
  rw [holds4_nil]
  simp only [HU.out]
  clear hb4 x0 x1 y0 y1 z0 z1
  obtain ⟨x0, x1, y0, y1, z0, z1⟩ := HS.out _ HB4.out
  have hne := HN.out
  cases p <;> cases q <;> simp only [Bool.and_self, Bool.or_self, Bool.and_false, Bool.false_and, Bool.or_false, Bool.or_true, reduceCtorEq] at hpq huv
  all_goals
    subst huv
    go_wp2_with fail
    go_ret
    exact ⟨rfl, HB.out.trans (HB4.out.mono HB.out.size)⟩

theorem orders_walk (sa sb : ByteArray) (na nb : Int) (w : World) :
    Calls Try.prog 7 #[.agg #[.string sa, .int .i64 na], .agg #[.string sb, .int .i64 nb]] w fun e w' => e = .returned (.bool true) ∧ Below w.heap.size w w' := by
  have hs := cmpW_swap sa sb na nb
  rcases cmpW_tri sa sb na nb with h | h | h
  · refine orders_case sa sb na nb true false true (by rw [h]; rfl) (by rw [hs, h]; rfl) (by rw [h]; rfl) ?_ rfl rfl w
    have : ¬ eqV (sa, na) (sb, nb) = true := fun e => by
      have := (cmpW_zero sa sb na nb).2 (by have := eqV_eq.1 e; exact ⟨congrArg Prod.fst this, congrArg Prod.snd this⟩)
      omega
    simpa using this
  · refine orders_case sa sb na nb false false false (by rw [h]; rfl) (by rw [hs, h]; rfl) (by rw [h]; rfl) ?_ rfl rfl w
    obtain ⟨rfl, rfl⟩ := (cmpW_zero sa sb na nb).1 h
    simpa using eqV_refl (sa, na)
  · refine orders_case sa sb na nb false true true (by rw [h]; rfl) (by rw [hs, h]; rfl) (by rw [h]; rfl) ?_ rfl rfl w
    have : ¬ eqV (sa, na) (sb, nb) = true := fun e => by
      have := (cmpW_zero sa sb na nb).2 (by have := eqV_eq.1 e; exact ⟨congrArg Prod.fst this, congrArg Prod.snd this⟩)
      omega
    simpa using this
end Go.Proofs.Ytmfaallipfhajaa
