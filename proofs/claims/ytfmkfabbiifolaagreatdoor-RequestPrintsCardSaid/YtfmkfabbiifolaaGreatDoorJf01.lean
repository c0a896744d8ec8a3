/-
  Joined of: RprB, RprB0.
-/
import Derived.Test.YtfmkfabbiifolaaGreatDoorJc02
import Derived.Test.YtfmkfabbiifolaaGreatDoorJa28
import Derived.Test.YtfmkfabbiifolaaGreatDoorJe05
set_option linter.unusedVariables false
set_option linter.unusedSimpArgs false
/-
  Contract: the reference's LitText of a comparison.
-/
namespace Go.Proofs.YtfmkfabbiifolaaGreatDoor
open Go.RowKit

set_option maxHeartbeats 8000000 in
set_option maxRecDepth 100000 in
theorem reflit_less (l : Lp) (w : World) (a b : Tm) (hi : l.In w w.heap.size) (hs : l.Short) (h2 : l.kind = 3) (ha : l.args = [a, b]) :
    Calls Tryz.prog 73 #[l.agg] w fun e w' => e = .returned (.string ((a.txt ++ wdLessB) ++ b.txt)) ∧ Below w.heap.size w w' := by
  have HB := Lib.hid (below1 w)
  obtain ⟨kd, wh, p, q, c, xs⟩ := l
  obtain rfl : kd = 3 := h2
  obtain rfl : xs = [a, b] := ha
  obtain ⟨bb, o, rfl, hbb, x0, x1, x2⟩ := rdM_at hi.args 0 (by simp)
  obtain ⟨b2, o2, hq2, _, x3, x4, x5⟩ := rdM_at hi.args 1 (by simp)
  cases hq2
  have HT := Lib.hid (show ∀ (O : Obj) (t : Tm), t ∈ [a, b] → ∀ X, Below (w.alloc O).heap.size (w.alloc O) X → Calls Tryz.prog 102 #[.agg #[.string t.v, .string t.s, .int .i64 t.n]] X fun e w' => e = .returned (.string t.txt) ∧ Below (w.alloc O).heap.size (w.alloc O) w' from fun O t ht X hX => (reftermText_any t X (hi.sz t ht) (hs.nb.args t ht)).mono fun e w' ⟨h1, h2⟩ => ⟨h1, hX.trans (h2.mono hX.size)⟩)
  have hza := hs.args a (by simp)
  have hzb := hs.args b (by simp)
  have HK := Lib.hid (show ∀ O X, Below (w.alloc O).heap.size (w.alloc O) X → Below w.heap.size w X from fun O X h => (below1 w O).trans (h.mono (below1 w O).size))
  have HC := Lib.hid (show ∀ X, Below w.heap.size w X → X.cell? ⟨bb, o, none⟩ = some (.string a.v) ∧ X.cell? ⟨bb, o + 1, none⟩ = some (.string a.s) ∧ X.cell? ⟨bb, o + 2, none⟩ = some (.int .i64 a.n) ∧ X.cell? ⟨bb, o + 3, none⟩ = some (.string b.v) ∧ X.cell? ⟨bb, o + 3 + 1, none⟩ = some (.string b.s) ∧ X.cell? ⟨bb, o + 3 + 2, none⟩ = some (.int .i64 b.n) from
    fun X hX => by
      simp only [Nat.zero_mul, Nat.add_zero, Nat.one_mul, List.getElem_cons_zero, List.getElem_cons_succ] at x0 x1 x2 x3 x4 x5
      exact ⟨(hX.cell (p := ⟨bb, o, none⟩) hbb).trans x0, (hX.cell (p := ⟨bb, o + 1, none⟩) hbb).trans x1, (hX.cell (p := ⟨bb, o + 2, none⟩) hbb).trans x2, (hX.cell (p := ⟨bb, o + 3, none⟩) hbb).trans x3, (hX.cell (p := ⟨bb, o + 3 + 1, none⟩) hbb).trans x4, (hX.cell (p := ⟨bb, o + 3 + 2, none⟩) hbb).trans x5⟩)
  obtain ⟨va, sa, na⟩ := a
  obtain ⟨vb, sb, nb⟩ := b
  have HTU := Lib.hid (show ∀ v s n, (⟨v, s, n⟩ : Tm) ∈ [(⟨va, sa, na⟩ : Tm), ⟨vb, sb, nb⟩] → ∀ X, Below (w.alloc (.cells #[.int .u8 3, .string wh.v, .string wh.s, .int .i64 wh.n, .string p, .slice (some ⟨bb, o, none⟩) 2 c] 28)).heap.size (w.alloc (.cells #[.int .u8 3, .string wh.v, .string wh.s, .int .i64 wh.n, .string p, .slice (some ⟨bb, o, none⟩) 2 c] 28)) X → Calls Tryz.prog 102 #[.agg #[.string v, .string s, .int .i64 n]] X fun e w' => e = .returned (.string (Tm.txt ⟨v, s, n⟩)) ∧ Below (w.alloc (.cells #[.int .u8 3, .string wh.v, .string wh.s, .int .i64 wh.n, .string p, .slice (some ⟨bb, o, none⟩) 2 c] 28)).heap.size (w.alloc (.cells #[.int .u8 3, .string wh.v, .string wh.s, .int .i64 wh.n, .string p, .slice (some ⟨bb, o, none⟩) 2 c] 28)) w' from fun v s n h => HT.out (.cells #[.int .u8 3, .string wh.v, .string wh.s, .int .i64 wh.n, .string p, .slice (some ⟨bb, o, none⟩) 2 c] 28) ⟨v, s, n⟩ h)
  have hk1 : ¬ 9223372036854775807 < (Tm.txt ⟨va, sa, na⟩).size + 3 := by omega
  have hk2 : ¬ 9223372036854775807 < (Tm.txt ⟨va, sa, na⟩).size + 3 + (Tm.txt ⟨vb, sb, nb⟩).size := by omega
  unfold Lp.agg
  simp only [List.length_cons, List.length_nil] at HC ⊢
  clear hi hs HT x0 x1 x2 x3 x4 x5
  go_enter Tryz.func73, Tryz.ntmps73
  go_wp2_with fail
  have HSS := Lib.hid (show ∀ X, Below (w.alloc (.cells #[.int .u8 3, .string wh.v, .string wh.s, .int .i64 wh.n, .string p, .slice (some ⟨bb, o, none⟩) 2 c] 28)).heap.size (w.alloc (.cells #[.int .u8 3, .string wh.v, .string wh.s, .int .i64 wh.n, .string p, .slice (some ⟨bb, o, none⟩) 2 c] 28)) X → X.cell? ⟨w.heap.size, 5, none⟩ = some (.slice (some ⟨bb, o, none⟩) 2 c) ∧ X.cell? ⟨bb, o, none⟩ = some (.string va) ∧ X.cell? ⟨bb, o + 1, none⟩ = some (.string sa) ∧ X.cell? ⟨bb, o + 2, none⟩ = some (.int .i64 na) ∧ X.cell? ⟨bb, o + 3, none⟩ = some (.string vb) ∧ X.cell? ⟨bb, o + 3 + 1, none⟩ = some (.string sb) ∧ X.cell? ⟨bb, o + 3 + 2, none⟩ = some (.int .i64 nb) ∧ Hid (Below (w.alloc (.cells #[.int .u8 3, .string wh.v, .string wh.s, .int .i64 wh.n, .string p, .slice (some ⟨bb, o, none⟩) 2 c] 28)).heap.size (w.alloc (.cells #[.int .u8 3, .string wh.v, .string wh.s, .int .i64 wh.n, .string p, .slice (some ⟨bb, o, none⟩) 2 c] 28)) X) from
    fun X hX => by
      obtain ⟨c0, c1, c2, c3, c4, c5⟩ := HC.out X (HK.out _ X hX)
      exact ⟨box_cell hX 5 _ rfl, c0, c1, c2, c3, c4, c5, Lib.hid hX⟩)
  have HDB := Lib.hid (show Below (w.alloc (.cells #[.int .u8 3, .string wh.v, .string wh.s, .int .i64 wh.n, .string p, .slice (some ⟨bb, o, none⟩) 2 c] 28)).heap.size (w.alloc (.cells #[.int .u8 3, .string wh.v, .string wh.s, .int .i64 wh.n, .string p, .slice (some ⟨bb, o, none⟩) 2 c] 28)) (w.alloc (.cells #[.int .u8 3, .string wh.v, .string wh.s, .int .i64 wh.n, .string p, .slice (some ⟨bb, o, none⟩) 2 c] 28)).drew from (Below.refl _ _).drew)
  have hI := Lib.hid (show Below (w.alloc (.cells #[.int .u8 3, .string wh.v, .string wh.s, .int .i64 wh.n, .string p, .slice (some ⟨bb, o, none⟩) 2 c] 28)).heap.size (w.alloc (.cells #[.int .u8 3, .string wh.v, .string wh.s, .int .i64 wh.n, .string p, .slice (some ⟨bb, o, none⟩) 2 c] 28)) (w.alloc (.cells #[.int .u8 3, .string wh.v, .string wh.s, .int .i64 wh.n, .string p, .slice (some ⟨bb, o, none⟩) 2 c] 28)) from Below.refl _ _)
  have HDR := Lib.hid (HSS.out _ HDB.out)
  obtain ⟨y0, y1, y2, y3, y4, y5, y6, _⟩ := HSS.out _ hI.out
  go_region_held3 (fun X => X.cell? ⟨w.heap.size, 5, none⟩ = some (.slice (some ⟨bb, o, none⟩) 2 c) ∧ X.cell? ⟨bb, o, none⟩ = some (.string va) ∧ X.cell? ⟨bb, o + 1, none⟩ = some (.string sa) ∧ X.cell? ⟨bb, o + 2, none⟩ = some (.int .i64 na) ∧ X.cell? ⟨bb, o + 3, none⟩ = some (.string vb) ∧ X.cell? ⟨bb, o + 3 + 1, none⟩ = some (.string sb) ∧ X.cell? ⟨bb, o + 3 + 2, none⟩ = some (.int .i64 nb) ∧ Hid (Below (w.alloc (.cells #[.int .u8 3, .string wh.v, .string wh.s, .int .i64 wh.n, .string p, .slice (some ⟨bb, o, none⟩) 2 c] 28)).heap.size (w.alloc (.cells #[.int .u8 3, .string wh.v, .string wh.s, .int .i64 wh.n, .string p, .slice (some ⟨bb, o, none⟩) 2 c] 28)) X))
    (first
      | (exact HSS.out _ (Hid.out hI))
      | (exact HDR.out)
      | go_keep)
    (first
      | (go_at_call 102; refine (HTU.out _ _ _ (by simp) _ (by first | exact Hid.out hI | exact HDB.out)).mono ?_; rintro e wn ⟨rfl, hI'⟩; have hI := Lib.hid hI'; clear hI'))
  all_goals
    go_wp2_with fail
    go_ret
    exact ⟨rfl, HK.out _ _ (Hid.out hI)⟩
set_option maxHeartbeats 8000000 in
set_option maxRecDepth 100000 in
theorem reflit_unlike (l : Lp) (w : World) (a b : Tm) (hi : l.In w w.heap.size) (hs : l.Short) (h2 : l.kind = 4) (ha : l.args = [a, b]) :
    Calls Tryz.prog 73 #[l.agg] w fun e w' => e = .returned (.string ((a.txt ++ wdUnlikeB) ++ b.txt)) ∧ Below w.heap.size w w' := by
  have HB := Lib.hid (below1 w)
  obtain ⟨kd, wh, p, q, c, xs⟩ := l
  obtain rfl : kd = 4 := h2
  obtain rfl : xs = [a, b] := ha
  obtain ⟨bb, o, rfl, hbb, x0, x1, x2⟩ := rdM_at hi.args 0 (by simp)
  obtain ⟨b2, o2, hq2, _, x3, x4, x5⟩ := rdM_at hi.args 1 (by simp)
  cases hq2
  have HT := Lib.hid (show ∀ (O : Obj) (t : Tm), t ∈ [a, b] → ∀ X, Below (w.alloc O).heap.size (w.alloc O) X → Calls Tryz.prog 102 #[.agg #[.string t.v, .string t.s, .int .i64 t.n]] X fun e w' => e = .returned (.string t.txt) ∧ Below (w.alloc O).heap.size (w.alloc O) w' from fun O t ht X hX => (reftermText_any t X (hi.sz t ht) (hs.nb.args t ht)).mono fun e w' ⟨h1, h2⟩ => ⟨h1, hX.trans (h2.mono hX.size)⟩)
  have hza := hs.args a (by simp)
  have hzb := hs.args b (by simp)
  have HK := Lib.hid (show ∀ O X, Below (w.alloc O).heap.size (w.alloc O) X → Below w.heap.size w X from fun O X h => (below1 w O).trans (h.mono (below1 w O).size))
  have HC := Lib.hid (show ∀ X, Below w.heap.size w X → X.cell? ⟨bb, o, none⟩ = some (.string a.v) ∧ X.cell? ⟨bb, o + 1, none⟩ = some (.string a.s) ∧ X.cell? ⟨bb, o + 2, none⟩ = some (.int .i64 a.n) ∧ X.cell? ⟨bb, o + 3, none⟩ = some (.string b.v) ∧ X.cell? ⟨bb, o + 3 + 1, none⟩ = some (.string b.s) ∧ X.cell? ⟨bb, o + 3 + 2, none⟩ = some (.int .i64 b.n) from
    fun X hX => by
      simp only [Nat.zero_mul, Nat.add_zero, Nat.one_mul, List.getElem_cons_zero, List.getElem_cons_succ] at x0 x1 x2 x3 x4 x5
      exact ⟨(hX.cell (p := ⟨bb, o, none⟩) hbb).trans x0, (hX.cell (p := ⟨bb, o + 1, none⟩) hbb).trans x1, (hX.cell (p := ⟨bb, o + 2, none⟩) hbb).trans x2, (hX.cell (p := ⟨bb, o + 3, none⟩) hbb).trans x3, (hX.cell (p := ⟨bb, o + 3 + 1, none⟩) hbb).trans x4, (hX.cell (p := ⟨bb, o + 3 + 2, none⟩) hbb).trans x5⟩)
  obtain ⟨va, sa, na⟩ := a
  obtain ⟨vb, sb, nb⟩ := b
  have HTU := Lib.hid (show ∀ v s n, (⟨v, s, n⟩ : Tm) ∈ [(⟨va, sa, na⟩ : Tm), ⟨vb, sb, nb⟩] → ∀ X, Below (w.alloc (.cells #[.int .u8 4, .string wh.v, .string wh.s, .int .i64 wh.n, .string p, .slice (some ⟨bb, o, none⟩) 2 c] 28)).heap.size (w.alloc (.cells #[.int .u8 4, .string wh.v, .string wh.s, .int .i64 wh.n, .string p, .slice (some ⟨bb, o, none⟩) 2 c] 28)) X → Calls Tryz.prog 102 #[.agg #[.string v, .string s, .int .i64 n]] X fun e w' => e = .returned (.string (Tm.txt ⟨v, s, n⟩)) ∧ Below (w.alloc (.cells #[.int .u8 4, .string wh.v, .string wh.s, .int .i64 wh.n, .string p, .slice (some ⟨bb, o, none⟩) 2 c] 28)).heap.size (w.alloc (.cells #[.int .u8 4, .string wh.v, .string wh.s, .int .i64 wh.n, .string p, .slice (some ⟨bb, o, none⟩) 2 c] 28)) w' from fun v s n h => HT.out (.cells #[.int .u8 4, .string wh.v, .string wh.s, .int .i64 wh.n, .string p, .slice (some ⟨bb, o, none⟩) 2 c] 28) ⟨v, s, n⟩ h)
  have hk1 : ¬ 9223372036854775807 < (Tm.txt ⟨va, sa, na⟩).size + 4 := by omega
  have hk2 : ¬ 9223372036854775807 < (Tm.txt ⟨va, sa, na⟩).size + 4 + (Tm.txt ⟨vb, sb, nb⟩).size := by omega
  unfold Lp.agg
  simp only [List.length_cons, List.length_nil] at HC ⊢
  clear hi hs HT x0 x1 x2 x3 x4 x5
  go_enter Tryz.func73, Tryz.ntmps73
  go_wp2_with fail
  have HSS := Lib.hid (show ∀ X, Below (w.alloc (.cells #[.int .u8 4, .string wh.v, .string wh.s, .int .i64 wh.n, .string p, .slice (some ⟨bb, o, none⟩) 2 c] 28)).heap.size (w.alloc (.cells #[.int .u8 4, .string wh.v, .string wh.s, .int .i64 wh.n, .string p, .slice (some ⟨bb, o, none⟩) 2 c] 28)) X → X.cell? ⟨w.heap.size, 5, none⟩ = some (.slice (some ⟨bb, o, none⟩) 2 c) ∧ X.cell? ⟨bb, o, none⟩ = some (.string va) ∧ X.cell? ⟨bb, o + 1, none⟩ = some (.string sa) ∧ X.cell? ⟨bb, o + 2, none⟩ = some (.int .i64 na) ∧ X.cell? ⟨bb, o + 3, none⟩ = some (.string vb) ∧ X.cell? ⟨bb, o + 3 + 1, none⟩ = some (.string sb) ∧ X.cell? ⟨bb, o + 3 + 2, none⟩ = some (.int .i64 nb) ∧ Hid (Below (w.alloc (.cells #[.int .u8 4, .string wh.v, .string wh.s, .int .i64 wh.n, .string p, .slice (some ⟨bb, o, none⟩) 2 c] 28)).heap.size (w.alloc (.cells #[.int .u8 4, .string wh.v, .string wh.s, .int .i64 wh.n, .string p, .slice (some ⟨bb, o, none⟩) 2 c] 28)) X) from
    fun X hX => by
      obtain ⟨c0, c1, c2, c3, c4, c5⟩ := HC.out X (HK.out _ X hX)
      exact ⟨box_cell hX 5 _ rfl, c0, c1, c2, c3, c4, c5, Lib.hid hX⟩)
  have HDB := Lib.hid (show Below (w.alloc (.cells #[.int .u8 4, .string wh.v, .string wh.s, .int .i64 wh.n, .string p, .slice (some ⟨bb, o, none⟩) 2 c] 28)).heap.size (w.alloc (.cells #[.int .u8 4, .string wh.v, .string wh.s, .int .i64 wh.n, .string p, .slice (some ⟨bb, o, none⟩) 2 c] 28)) (w.alloc (.cells #[.int .u8 4, .string wh.v, .string wh.s, .int .i64 wh.n, .string p, .slice (some ⟨bb, o, none⟩) 2 c] 28)).drew from (Below.refl _ _).drew)
  have hI := Lib.hid (show Below (w.alloc (.cells #[.int .u8 4, .string wh.v, .string wh.s, .int .i64 wh.n, .string p, .slice (some ⟨bb, o, none⟩) 2 c] 28)).heap.size (w.alloc (.cells #[.int .u8 4, .string wh.v, .string wh.s, .int .i64 wh.n, .string p, .slice (some ⟨bb, o, none⟩) 2 c] 28)) (w.alloc (.cells #[.int .u8 4, .string wh.v, .string wh.s, .int .i64 wh.n, .string p, .slice (some ⟨bb, o, none⟩) 2 c] 28)) from Below.refl _ _)
  have HDR := Lib.hid (HSS.out _ HDB.out)
  obtain ⟨y0, y1, y2, y3, y4, y5, y6, _⟩ := HSS.out _ hI.out
  go_region_held3 (fun X => X.cell? ⟨w.heap.size, 5, none⟩ = some (.slice (some ⟨bb, o, none⟩) 2 c) ∧ X.cell? ⟨bb, o, none⟩ = some (.string va) ∧ X.cell? ⟨bb, o + 1, none⟩ = some (.string sa) ∧ X.cell? ⟨bb, o + 2, none⟩ = some (.int .i64 na) ∧ X.cell? ⟨bb, o + 3, none⟩ = some (.string vb) ∧ X.cell? ⟨bb, o + 3 + 1, none⟩ = some (.string sb) ∧ X.cell? ⟨bb, o + 3 + 2, none⟩ = some (.int .i64 nb) ∧ Hid (Below (w.alloc (.cells #[.int .u8 4, .string wh.v, .string wh.s, .int .i64 wh.n, .string p, .slice (some ⟨bb, o, none⟩) 2 c] 28)).heap.size (w.alloc (.cells #[.int .u8 4, .string wh.v, .string wh.s, .int .i64 wh.n, .string p, .slice (some ⟨bb, o, none⟩) 2 c] 28)) X))
    (first
      | (exact HSS.out _ (Hid.out hI))
      | (exact HDR.out)
      | go_keep)
    (first
      | (go_at_call 102; refine (HTU.out _ _ _ (by simp) _ (by first | exact Hid.out hI | exact HDB.out)).mono ?_; rintro e wn ⟨rfl, hI'⟩; have hI := Lib.hid hI'; clear hI'))
  all_goals
    go_wp2_with fail
    go_ret
    exact ⟨rfl, HK.out _ _ (Hid.out hI)⟩
theorem reflit_cmp (l : Lp) (w : World) (hi : l.In w w.heap.size) (hs : l.Short) (hk : l.kind = 3 ∨ l.kind = 4) (hl : l.lit = true) :
    Calls Tryz.prog 73 #[l.agg] w fun e w' => e = .returned (.string l.litT) ∧ Below w.heap.size w w' := by
  unfold Lp.litT
  rcases hk with h3 | h4
  · rw [if_neg (by omega), if_pos h3]
    obtain ⟨a, b, hab⟩ := two_of (comp_two hl (.inl h3))
    rw [hab]
    exact reflit_less l w a b hi hs h3 hab
  · rw [if_neg (by omega), if_neg (by omega), if_pos h4]
    obtain ⟨a, b, hab⟩ := two_of (comp_two hl (.inr h4))
    rw [hab]
    exact reflit_unlike l w a b hi hs h4 hab
end Go.Proofs.YtfmkfabbiifolaaGreatDoor

/-
  Plain: a literal's text, term by term.
-/
namespace Go.Proofs.YtfmkfabbiifolaaGreatDoor
open Go.RowKit

theorem foldX_pre (f p : ByteArray) : ∀ (r : List ByteArray) (o : ByteArray) (j : Nat), p ++ foldX f o j r = foldX f (p ++ o) j r
  | [], o, j => rfl
  | x :: r, o, j => by
    rw [foldX, foldX, foldX_pre f p r]
    unfold addX
    rw [ba_assoc, ba_assoc, ba_assoc p o]
/-- what stands ahead of a literal's terms -/
def Lp.pre (l : Lp) : ByteArray := (if l.kind = 2 then wdNotB else ⟨#[]⟩) ++ (if l.who.none then l.pred else (l.who.txt ++ wdSaid) ++ l.pred)
theorem lit_fold (l : Lp) (h3 : l.kind ≠ 3) (h4 : l.kind ≠ 4) : l.litT = if l.args.length = 0 then foldX ⟨#[40]⟩ l.pre 0 (l.args.map Tm.txt) else foldX ⟨#[40]⟩ l.pre 0 (l.args.map Tm.txt) ++ ⟨#[41]⟩ := by
  unfold Lp.litT Lp.pre Lp.saidT
  rw [argsT_fold, if_neg h3, if_neg h4]
  by_cases h2 : l.kind = 2
  · rw [if_pos h2, if_pos h2]
    split
    · rw [foldX_pre]
    · rw [← ba_assoc, foldX_pre]
  · rw [if_neg h2, if_neg h2, ba_nil]

end Go.Proofs.YtfmkfabbiifolaaGreatDoor
