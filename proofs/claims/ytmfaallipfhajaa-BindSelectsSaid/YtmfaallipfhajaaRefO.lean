/-
  Contract: the reference's Order, whole; the walk of mandatelaw01.ValueCompares.
-/
import Derived.Test.YtmfaallipfhajaaRefC
namespace Go.Proofs.Ytmfaallipfhajaa
open Go.RowKit

set_option maxHeartbeats 2000000 in
set_option maxRecDepth 100000 in
theorem reforder_any (a b : Tp) (w : World) (ha : a.In w) (hb : b.In w) (hp : a.pred.size ≤ maxLen) (hq : b.pred.size ≤ maxLen) (z1 : SzOk a.args) (z2 : SzOk b.args) :
    Calls Try.prog 28 #[a.agg, b.agg] w fun e w' => e = .returned (.int .i64 (cmpT a b)) ∧ Below w.heap.size w w' := by
  obtain ⟨p, x, c, l⟩ := a
  obtain ⟨q, y, d, m⟩ := b
  obtain ⟨v1, n1⟩ := ha
  obtain ⟨v2, n2⟩ := hb
  simp only at v1 n1 v2 n2 hp hq z1 z2
  unfold Tp.agg
  have hb2 := below2 w (.cells #[.string p, .slice x l.length c] 27) (.cells #[.string q, .slice y m.length d] 27)
  by_cases h : cmpS p q = 0
  · by_cases g : l.length = m.length
    · rw [show cmpT ⟨p, x, c, l⟩ ⟨q, y, d, m⟩ = cmpVs l m by simp [cmpT, lexI, h, (cmpI_zero _ _).2, g]]
      exact reforder_loop p q x y c d l m w hp hq v1 v2 z1 z2 g n1 h
    · have g0 : (cmpS p q != 0) = false := by rw [h]; rfl
      have h3 := Lib.hid (show cmpT ⟨p, x, c, l⟩ ⟨q, y, d, m⟩ = cmpI l.length m.length by simp [cmpT, lexI, h, cmpI_zero, g]; omega)
      have HB := Lib.hid hb2
      clear h v1 v2 hb2
      unfold maxLen at n1 n2
      by_cases g1 : l.length < m.length
      · have HI := Lib.hid (cmpI_lt (l.length : Int) m.length (by omega))
        clear g
        go_enter Try.func28, Try.ntmps28
        go_wp2_with (go_at_call 35; refine (refbytes_any _ _ _ hp hq).mono ?_; rintro e w1 ⟨rfl, hb⟩; obtain ⟨hc, _⟩ := bcell hb)
        go_ret
        exact ⟨by rw [h3.out, HI.out]; rfl, HB.out.trans (hb.mono HB.out.size)⟩
      · have g2 : m.length < l.length := by omega
        have HI := Lib.hid (cmpI_gt (l.length : Int) m.length (by omega))
        clear g
        go_enter Try.func28, Try.ntmps28
        go_wp2_with (go_at_call 35; refine (refbytes_any _ _ _ hp hq).mono ?_; rintro e w1 ⟨rfl, hb⟩; obtain ⟨hc, _⟩ := bcell hb)
        go_ret
        exact ⟨by rw [h3.out, HI.out]; rfl, HB.out.trans (hb.mono HB.out.size)⟩
  · have g0 : (cmpS p q != 0) = true := by simpa using h
    have h3 := Lib.hid (show cmpT ⟨p, x, c, l⟩ ⟨q, y, d, m⟩ = cmpS p q by simp [cmpT, lexI, h])
    have HB := Lib.hid hb2
    clear h v1 v2 hb2
    go_enter Try.func28, Try.ntmps28
    go_wp2_with (go_at_call 35; refine (refbytes_any _ _ _ hp hq).mono ?_; rintro e w1 ⟨rfl, hb⟩; obtain ⟨hc, _⟩ := bcell hb)
    go_ret
    exact ⟨by rw [h3.out]; rfl, HB.out.trans (hb.mono HB.out.size)⟩
end Go.Proofs.Ytmfaallipfhajaa
