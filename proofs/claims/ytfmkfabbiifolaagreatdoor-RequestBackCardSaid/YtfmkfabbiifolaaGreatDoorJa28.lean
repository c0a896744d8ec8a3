/-
  Joined of: PrtC, PrtD.
-/
import Derived.Test.YtfmkfabbiifolaaGreatDoorJa27
set_option linter.unusedVariables false
set_option linter.unusedSimpArgs false
/-
  Contract: clause.literalText.
-/
namespace Go.Proofs.YtfmkfabbiifolaaGreatDoor
open Go.RowKit

def wdNotB : ByteArray := ⟨#[110, 111, 116, 32]⟩
def wdLessB : ByteArray := ⟨#[32, 60, 32]⟩
def wdUnlikeB : ByteArray := ⟨#[32, 33, 61, 32]⟩
def cmpT (x : ByteArray) : List Tm → ByteArray
  | [a, b] => (a.txt ++ x) ++ b.txt
  | _ => ⟨#[]⟩
/-- a literal's text in a body -/
def Lp.litT (l : Lp) : ByteArray := if l.kind = 2 then wdNotB ++ l.saidT else if l.kind = 3 then cmpT wdLessB l.args else if l.kind = 4 then cmpT wdUnlikeB l.args else l.saidT
theorem argsT_size (a : ByteArray) (l : List Tm) (h : ∀ t ∈ l, t.txt.size ≤ 1000) (hl : l.length ≤ 1000) : (argsT a l).size ≤ a.size + 1002002 := by
  unfold argsT
  split
  · omega
  · have := (joinB_size (l.map Tm.txt) 1000 (fun x hx => by obtain ⟨t, ht, rfl⟩ := List.mem_map.1 hx; exact h t ht)).1
    rw [List.length_map] at this
    rw [ByteArray.size_append, ByteArray.size_append, ByteArray.size_append]
    have e1 : (⟨#[40]⟩ : ByteArray).size = 1 := rfl
    have e2 : (⟨#[41]⟩ : ByteArray).size = 1 := rfl
    omega
theorem saidT_size (l : Lp) (hs : l.Short) : l.saidT.size ≤ l.pred.size + 1003010 := by
  unfold Lp.saidT
  refine Nat.le_trans (argsT_size _ _ hs.args hs.len) ?_
  split
  · omega
  · rename_i h
    have := hs.who (by simpa using h)
    rw [ByteArray.size_append, ByteArray.size_append]
    have e1 : wdSaid.size = 6 := rfl
    omega

set_option maxHeartbeats 8000000 in
set_option maxRecDepth 100000 in
theorem litText_said (l : Lp) (w : World) (hi : l.In w w.heap.size) (hs : l.Short) (he : Env w) (h2 : l.kind ≠ 2) (h3 : l.kind ≠ 3) (h4 : l.kind ≠ 4) :
    Calls Tryz.prog 99 #[l.agg] w fun e w' => e = .returned (.string l.saidT) ∧ Below w.heap.size w w' := by
  have HB := Lib.hid (below1 w)
  have HS := Lib.hid (show ∀ o, Calls Tryz.prog 97 #[l.agg] (w.alloc o) fun e w' => e = .returned (.string l.saidT) ∧ Below (w.alloc o).heap.size (w.alloc o) w' from fun o => saidText_any l _ (hi.grow (below1 w o)) hs (he.on (below1 w o)))
  have g2 : (l.kind == 2) = false := by simpa using h2
  have g3 : (l.kind == 3) = false := by simpa using h3
  have g4 : (l.kind == 4) = false := by simpa using h4
  unfold Lp.agg at HS ⊢
  generalize l.saidT = tx at *
  clear hi hs he h2 h3 h4
  go_enter Tryz.func99, Tryz.ntmps99
  go_wp2_with (go_at_call 97; refine (HS.out _).mono ?_; rintro e w1 ⟨rfl, hb1⟩)
  go_ret
  exact ⟨rfl, (HB.out _).trans (hb1.mono (HB.out _).size)⟩
set_option maxHeartbeats 8000000 in
set_option maxRecDepth 100000 in
theorem litText_not (l : Lp) (w : World) (hi : l.In w w.heap.size) (hs : l.Short) (he : Env w) (h2 : l.kind = 2) :
    Calls Tryz.prog 99 #[l.agg] w fun e w' => e = .returned (.string (wdNotB ++ l.saidT)) ∧ Below w.heap.size w w' := by
  have HB := Lib.hid (below1 w)
  have HS := Lib.hid (show ∀ o, Calls Tryz.prog 97 #[l.agg] (w.alloc o) fun e w' => e = .returned (.string l.saidT) ∧ Below (w.alloc o).heap.size (w.alloc o) w' from fun o => saidText_any l _ (hi.grow (below1 w o)) hs (he.on (below1 w o)))
  have hsz := saidT_size l hs
  have hpz := hi.pred
  unfold Lp.agg at HS ⊢
  rw [h2] at HS ⊢
  generalize l.saidT = tx at *
  clear hi hs he h2
  go_enter Tryz.func99, Tryz.ntmps99
  go_wp2_with (go_at_call 97; refine (HS.out _).mono ?_; rintro e w1 ⟨rfl, hb1⟩)
  go_ret
  exact ⟨rfl, (HB.out _).trans (hb1.mono (HB.out _).size)⟩

set_option maxHeartbeats 8000000 in
set_option maxRecDepth 100000 in
theorem litText_less (l : Lp) (w : World) (a b : Tm) (hi : l.In w w.heap.size) (hs : l.Short) (he : Env w) (h2 : l.kind = 3) (ha : l.args = [a, b]) :
    Calls Tryz.prog 99 #[l.agg] w fun e w' => e = .returned (.string ((a.txt ++ wdLessB) ++ b.txt)) ∧ Below w.heap.size w w' := by
  have HB := Lib.hid (below1 w)
  obtain ⟨kd, wh, p, q, c, xs⟩ := l
  obtain rfl : kd = 3 := h2
  obtain rfl : xs = [a, b] := ha
  obtain ⟨bb, o, rfl, hbb, x0, x1, x2⟩ := rdM_at hi.args 0 (by simp)
  obtain ⟨b2, o2, hq2, _, x3, x4, x5⟩ := rdM_at hi.args 1 (by simp)
  cases hq2
  have HT := Lib.hid (show ∀ (O : Obj) (t : Tm), t ∈ [a, b] → ∀ X, Below (w.alloc O).heap.size (w.alloc O) X → Calls Tryz.prog 124 #[.agg #[.string t.v, .string t.s, .int .i64 t.n]] X fun e w' => e = .returned (.string t.txt) ∧ Below (w.alloc O).heap.size (w.alloc O) w' from fun O t ht X hX => (termText_any t X (hi.sz t ht) (hs.nb.args t ht) ((he.on (below1 w O)).on hX)).mono fun e w' ⟨h1, h2⟩ => ⟨h1, hX.trans (h2.mono hX.size)⟩)
  have hza := hs.args a (by simp)
  have hzb := hs.args b (by simp)
  have HK := Lib.hid (show ∀ O X, Below (w.alloc O).heap.size (w.alloc O) X → Below w.heap.size w X from fun O X h => (below1 w O).trans (h.mono (below1 w O).size))
  have HC := Lib.hid (show ∀ X, Below w.heap.size w X → X.cell? ⟨bb, o, none⟩ = some (.string a.v) ∧ X.cell? ⟨bb, o + 1, none⟩ = some (.string a.s) ∧ X.cell? ⟨bb, o + 2, none⟩ = some (.int .i64 a.n) ∧ X.cell? ⟨bb, o + 3, none⟩ = some (.string b.v) ∧ X.cell? ⟨bb, o + 3 + 1, none⟩ = some (.string b.s) ∧ X.cell? ⟨bb, o + 3 + 2, none⟩ = some (.int .i64 b.n) from
    fun X hX => by
      simp only [Nat.zero_mul, Nat.add_zero, Nat.one_mul, List.getElem_cons_zero, List.getElem_cons_succ] at x0 x1 x2 x3 x4 x5
      exact ⟨(hX.cell (p := ⟨bb, o, none⟩) hbb).trans x0, (hX.cell (p := ⟨bb, o + 1, none⟩) hbb).trans x1, (hX.cell (p := ⟨bb, o + 2, none⟩) hbb).trans x2, (hX.cell (p := ⟨bb, o + 3, none⟩) hbb).trans x3, (hX.cell (p := ⟨bb, o + 3 + 1, none⟩) hbb).trans x4, (hX.cell (p := ⟨bb, o + 3 + 2, none⟩) hbb).trans x5⟩)
  obtain ⟨va, sa, na⟩ := a
  obtain ⟨vb, sb, nb⟩ := b
  have HTU := Lib.hid (show ∀ v s n, (⟨v, s, n⟩ : Tm) ∈ [(⟨va, sa, na⟩ : Tm), ⟨vb, sb, nb⟩] → ∀ X, Below (w.alloc (.cells #[.int .u8 3, .string wh.v, .string wh.s, .int .i64 wh.n, .string p, .slice (some ⟨bb, o, none⟩) 2 c] 28)).heap.size (w.alloc (.cells #[.int .u8 3, .string wh.v, .string wh.s, .int .i64 wh.n, .string p, .slice (some ⟨bb, o, none⟩) 2 c] 28)) X → Calls Tryz.prog 124 #[.agg #[.string v, .string s, .int .i64 n]] X fun e w' => e = .returned (.string (Tm.txt ⟨v, s, n⟩)) ∧ Below (w.alloc (.cells #[.int .u8 3, .string wh.v, .string wh.s, .int .i64 wh.n, .string p, .slice (some ⟨bb, o, none⟩) 2 c] 28)).heap.size (w.alloc (.cells #[.int .u8 3, .string wh.v, .string wh.s, .int .i64 wh.n, .string p, .slice (some ⟨bb, o, none⟩) 2 c] 28)) w' from fun v s n h => HT.out (.cells #[.int .u8 3, .string wh.v, .string wh.s, .int .i64 wh.n, .string p, .slice (some ⟨bb, o, none⟩) 2 c] 28) ⟨v, s, n⟩ h)
  have hk1 : ¬ 9223372036854775807 < (Tm.txt ⟨va, sa, na⟩).size + 3 := by omega
  have hk2 : ¬ 9223372036854775807 < (Tm.txt ⟨va, sa, na⟩).size + 3 + (Tm.txt ⟨vb, sb, nb⟩).size := by omega
  unfold Lp.agg
  simp only [List.length_cons, List.length_nil] at HC ⊢
  clear hi hs he HT x0 x1 x2 x3 x4 x5
  go_enter Tryz.func99, Tryz.ntmps99
  go_wp2_with fail
  have HSS := Lib.hid (show ∀ X, Below (w.alloc (.cells #[.int .u8 3, .string wh.v, .string wh.s, .int .i64 wh.n, .string p, .slice (some ⟨bb, o, none⟩) 2 c] 28)).heap.size (w.alloc (.cells #[.int .u8 3, .string wh.v, .string wh.s, .int .i64 wh.n, .string p, .slice (some ⟨bb, o, none⟩) 2 c] 28)) X → X.cell? ⟨w.heap.size, 5, none⟩ = some (.slice (some ⟨bb, o, none⟩) 2 c) ∧ X.cell? ⟨bb, o, none⟩ = some (.string va) ∧ X.cell? ⟨bb, o + 1, none⟩ = some (.string sa) ∧ X.cell? ⟨bb, o + 2, none⟩ = some (.int .i64 na) ∧ X.cell? ⟨bb, o + 3, none⟩ = some (.string vb) ∧ X.cell? ⟨bb, o + 3 + 1, none⟩ = some (.string sb) ∧ X.cell? ⟨bb, o + 3 + 2, none⟩ = some (.int .i64 nb) ∧ Hid (Below (w.alloc (.cells #[.int .u8 3, .string wh.v, .string wh.s, .int .i64 wh.n, .string p, .slice (some ⟨bb, o, none⟩) 2 c] 28)).heap.size (w.alloc (.cells #[.int .u8 3, .string wh.v, .string wh.s, .int .i64 wh.n, .string p, .slice (some ⟨bb, o, none⟩) 2 c] 28)) X) from
    fun X hX => by
      obtain ⟨c0, c1, c2, c3, c4, c5⟩ := HC.out X (HK.out _ X hX)
      exact ⟨box_cell hX 5 _ rfl, c0, c1, c2, c3, c4, c5, Lib.hid hX⟩)
  have HDB := Lib.hid (show Below (w.alloc (.cells #[.int .u8 3, .string wh.v, .string wh.s, .int .i64 wh.n, .string p, .slice (some ⟨bb, o, none⟩) 2 c] 28)).heap.size (w.alloc (.cells #[.int .u8 3, .string wh.v, .string wh.s, .int .i64 wh.n, .string p, .slice (some ⟨bb, o, none⟩) 2 c] 28)) (w.alloc (.cells #[.int .u8 3, .string wh.v, .string wh.s, .int .i64 wh.n, .string p, .slice (some ⟨bb, o, none⟩) 2 c] 28)).drew from (Below.refl _ _).drew)
  have hI := Lib.hid (show Below (w.alloc (.cells #[.int .u8 3, .string wh.v, .string wh.s, .int .i64 wh.n, .string p, .slice (some ⟨bb, o, none⟩) 2 c] 28)).heap.size (w.alloc (.cells #[.int .u8 3, .string wh.v, .string wh.s, .int .i64 wh.n, .string p, .slice (some ⟨bb, o, none⟩) 2 c] 28)) (w.alloc (.cells #[.int .u8 3, .string wh.v, .string wh.s, .int .i64 wh.n, .string p, .slice (some ⟨bb, o, none⟩) 2 c] 28)) from Below.refl _ _)
  have HDR := Lib.hid (HSS.out _ HDB.out)
  obtain ⟨y0, y1, y2, y3, y4, y5, y6, _⟩ := HSS.out _ hI.out
  go_region_held3 (fun X => X.cell? ⟨w.heap.size, 5, none⟩ = some (.slice (some ⟨bb, o, none⟩) 2 c) ∧ X.cell? ⟨bb, o, none⟩ = some (.string va) ∧ X.cell? ⟨bb, o + 1, none⟩ = some (.string sa) ∧ X.cell? ⟨bb, o + 2, none⟩ = some (.int .i64 na) ∧ X.cell? ⟨bb, o + 3, none⟩ = some (.string vb) ∧ X.cell? ⟨bb, o + 3 + 1, none⟩ = some (.string sb) ∧ X.cell? ⟨bb, o + 3 + 2, none⟩ = some (.int .i64 nb) ∧ Hid (Below (w.alloc (.cells #[.int .u8 3, .string wh.v, .string wh.s, .int .i64 wh.n, .string p, .slice (some ⟨bb, o, none⟩) 2 c] 28)).heap.size (w.alloc (.cells #[.int .u8 3, .string wh.v, .string wh.s, .int .i64 wh.n, .string p, .slice (some ⟨bb, o, none⟩) 2 c] 28)) X))
    (first
      | (exact HSS.out _ (Hid.out hI))
      | (exact HDR.out)
      | go_keep)
    (first
      | (go_at_call 124; refine (HTU.out _ _ _ (by simp) _ (by first | exact Hid.out hI | exact HDB.out)).mono ?_; rintro e wn ⟨rfl, hI'⟩; have hI := Lib.hid hI'; clear hI'))
  all_goals
    go_wp2_with fail
    go_ret
    exact ⟨rfl, HK.out _ _ (Hid.out hI)⟩
set_option maxHeartbeats 8000000 in
set_option maxRecDepth 100000 in
theorem litText_unlike (l : Lp) (w : World) (a b : Tm) (hi : l.In w w.heap.size) (hs : l.Short) (he : Env w) (h2 : l.kind = 4) (ha : l.args = [a, b]) :
    Calls Tryz.prog 99 #[l.agg] w fun e w' => e = .returned (.string ((a.txt ++ wdUnlikeB) ++ b.txt)) ∧ Below w.heap.size w w' := by
  have HB := Lib.hid (below1 w)
  obtain ⟨kd, wh, p, q, c, xs⟩ := l
  obtain rfl : kd = 4 := h2
  obtain rfl : xs = [a, b] := ha
  obtain ⟨bb, o, rfl, hbb, x0, x1, x2⟩ := rdM_at hi.args 0 (by simp)
  obtain ⟨b2, o2, hq2, _, x3, x4, x5⟩ := rdM_at hi.args 1 (by simp)
  cases hq2
  have HT := Lib.hid (show ∀ (O : Obj) (t : Tm), t ∈ [a, b] → ∀ X, Below (w.alloc O).heap.size (w.alloc O) X → Calls Tryz.prog 124 #[.agg #[.string t.v, .string t.s, .int .i64 t.n]] X fun e w' => e = .returned (.string t.txt) ∧ Below (w.alloc O).heap.size (w.alloc O) w' from fun O t ht X hX => (termText_any t X (hi.sz t ht) (hs.nb.args t ht) ((he.on (below1 w O)).on hX)).mono fun e w' ⟨h1, h2⟩ => ⟨h1, hX.trans (h2.mono hX.size)⟩)
  have hza := hs.args a (by simp)
  have hzb := hs.args b (by simp)
  have HK := Lib.hid (show ∀ O X, Below (w.alloc O).heap.size (w.alloc O) X → Below w.heap.size w X from fun O X h => (below1 w O).trans (h.mono (below1 w O).size))
  have HC := Lib.hid (show ∀ X, Below w.heap.size w X → X.cell? ⟨bb, o, none⟩ = some (.string a.v) ∧ X.cell? ⟨bb, o + 1, none⟩ = some (.string a.s) ∧ X.cell? ⟨bb, o + 2, none⟩ = some (.int .i64 a.n) ∧ X.cell? ⟨bb, o + 3, none⟩ = some (.string b.v) ∧ X.cell? ⟨bb, o + 3 + 1, none⟩ = some (.string b.s) ∧ X.cell? ⟨bb, o + 3 + 2, none⟩ = some (.int .i64 b.n) from
    fun X hX => by
      simp only [Nat.zero_mul, Nat.add_zero, Nat.one_mul, List.getElem_cons_zero, List.getElem_cons_succ] at x0 x1 x2 x3 x4 x5
      exact ⟨(hX.cell (p := ⟨bb, o, none⟩) hbb).trans x0, (hX.cell (p := ⟨bb, o + 1, none⟩) hbb).trans x1, (hX.cell (p := ⟨bb, o + 2, none⟩) hbb).trans x2, (hX.cell (p := ⟨bb, o + 3, none⟩) hbb).trans x3, (hX.cell (p := ⟨bb, o + 3 + 1, none⟩) hbb).trans x4, (hX.cell (p := ⟨bb, o + 3 + 2, none⟩) hbb).trans x5⟩)
  obtain ⟨va, sa, na⟩ := a
  obtain ⟨vb, sb, nb⟩ := b
  have HTU := Lib.hid (show ∀ v s n, (⟨v, s, n⟩ : Tm) ∈ [(⟨va, sa, na⟩ : Tm), ⟨vb, sb, nb⟩] → ∀ X, Below (w.alloc (.cells #[.int .u8 4, .string wh.v, .string wh.s, .int .i64 wh.n, .string p, .slice (some ⟨bb, o, none⟩) 2 c] 28)).heap.size (w.alloc (.cells #[.int .u8 4, .string wh.v, .string wh.s, .int .i64 wh.n, .string p, .slice (some ⟨bb, o, none⟩) 2 c] 28)) X → Calls Tryz.prog 124 #[.agg #[.string v, .string s, .int .i64 n]] X fun e w' => e = .returned (.string (Tm.txt ⟨v, s, n⟩)) ∧ Below (w.alloc (.cells #[.int .u8 4, .string wh.v, .string wh.s, .int .i64 wh.n, .string p, .slice (some ⟨bb, o, none⟩) 2 c] 28)).heap.size (w.alloc (.cells #[.int .u8 4, .string wh.v, .string wh.s, .int .i64 wh.n, .string p, .slice (some ⟨bb, o, none⟩) 2 c] 28)) w' from fun v s n h => HT.out (.cells #[.int .u8 4, .string wh.v, .string wh.s, .int .i64 wh.n, .string p, .slice (some ⟨bb, o, none⟩) 2 c] 28) ⟨v, s, n⟩ h)
  have hk1 : ¬ 9223372036854775807 < (Tm.txt ⟨va, sa, na⟩).size + 4 := by omega
  have hk2 : ¬ 9223372036854775807 < (Tm.txt ⟨va, sa, na⟩).size + 4 + (Tm.txt ⟨vb, sb, nb⟩).size := by omega
  unfold Lp.agg
  simp only [List.length_cons, List.length_nil] at HC ⊢
  clear hi hs he HT x0 x1 x2 x3 x4 x5
  go_enter Tryz.func99, Tryz.ntmps99
  go_wp2_with fail
  have HSS := Lib.hid (show ∀ X, Below (w.alloc (.cells #[.int .u8 4, .string wh.v, .string wh.s, .int .i64 wh.n, .string p, .slice (some ⟨bb, o, none⟩) 2 c] 28)).heap.size (w.alloc (.cells #[.int .u8 4, .string wh.v, .string wh.s, .int .i64 wh.n, .string p, .slice (some ⟨bb, o, none⟩) 2 c] 28)) X → X.cell? ⟨w.heap.size, 5, none⟩ = some (.slice (some ⟨bb, o, none⟩) 2 c) ∧ X.cell? ⟨bb, o, none⟩ = some (.string va) ∧ X.cell? ⟨bb, o + 1, none⟩ = some (.string sa) ∧ X.cell? ⟨bb, o + 2, none⟩ = some (.int .i64 na) ∧ X.cell? ⟨bb, o + 3, none⟩ = some (.string vb) ∧ X.cell? ⟨bb, o + 3 + 1, none⟩ = some (.string sb) ∧ X.cell? ⟨bb, o + 3 + 2, none⟩ = some (.int .i64 nb) ∧ Hid (Below (w.alloc (.cells #[.int .u8 4, .string wh.v, .string wh.s, .int .i64 wh.n, .string p, .slice (some ⟨bb, o, none⟩) 2 c] 28)).heap.size (w.alloc (.cells #[.int .u8 4, .string wh.v, .string wh.s, .int .i64 wh.n, .string p, .slice (some ⟨bb, o, none⟩) 2 c] 28)) X) from
    fun X hX => by
      obtain ⟨c0, c1, c2, c3, c4, c5⟩ := HC.out X (HK.out _ X hX)
      exact ⟨box_cell hX 5 _ rfl, c0, c1, c2, c3, c4, c5, Lib.hid hX⟩)
  have HDB := Lib.hid (show Below (w.alloc (.cells #[.int .u8 4, .string wh.v, .string wh.s, .int .i64 wh.n, .string p, .slice (some ⟨bb, o, none⟩) 2 c] 28)).heap.size (w.alloc (.cells #[.int .u8 4, .string wh.v, .string wh.s, .int .i64 wh.n, .string p, .slice (some ⟨bb, o, none⟩) 2 c] 28)) (w.alloc (.cells #[.int .u8 4, .string wh.v, .string wh.s, .int .i64 wh.n, .string p, .slice (some ⟨bb, o, none⟩) 2 c] 28)).drew from (Below.refl _ _).drew)
  have hI := Lib.hid (show Below (w.alloc (.cells #[.int .u8 4, .string wh.v, .string wh.s, .int .i64 wh.n, .string p, .slice (some ⟨bb, o, none⟩) 2 c] 28)).heap.size (w.alloc (.cells #[.int .u8 4, .string wh.v, .string wh.s, .int .i64 wh.n, .string p, .slice (some ⟨bb, o, none⟩) 2 c] 28)) (w.alloc (.cells #[.int .u8 4, .string wh.v, .string wh.s, .int .i64 wh.n, .string p, .slice (some ⟨bb, o, none⟩) 2 c] 28)) from Below.refl _ _)
  have HDR := Lib.hid (HSS.out _ HDB.out)
  obtain ⟨y0, y1, y2, y3, y4, y5, y6, _⟩ := HSS.out _ hI.out
  go_region_held3 (fun X => X.cell? ⟨w.heap.size, 5, none⟩ = some (.slice (some ⟨bb, o, none⟩) 2 c) ∧ X.cell? ⟨bb, o, none⟩ = some (.string va) ∧ X.cell? ⟨bb, o + 1, none⟩ = some (.string sa) ∧ X.cell? ⟨bb, o + 2, none⟩ = some (.int .i64 na) ∧ X.cell? ⟨bb, o + 3, none⟩ = some (.string vb) ∧ X.cell? ⟨bb, o + 3 + 1, none⟩ = some (.string sb) ∧ X.cell? ⟨bb, o + 3 + 2, none⟩ = some (.int .i64 nb) ∧ Hid (Below (w.alloc (.cells #[.int .u8 4, .string wh.v, .string wh.s, .int .i64 wh.n, .string p, .slice (some ⟨bb, o, none⟩) 2 c] 28)).heap.size (w.alloc (.cells #[.int .u8 4, .string wh.v, .string wh.s, .int .i64 wh.n, .string p, .slice (some ⟨bb, o, none⟩) 2 c] 28)) X))
    (first
      | (exact HSS.out _ (Hid.out hI))
      | (exact HDR.out)
      | go_keep)
    (first
      | (go_at_call 124; refine (HTU.out _ _ _ (by simp) _ (by first | exact Hid.out hI | exact HDB.out)).mono ?_; rintro e wn ⟨rfl, hI'⟩; have hI := Lib.hid hI'; clear hI'))
  all_goals
    go_wp2_with fail
    go_ret
    exact ⟨rfl, HK.out _ _ (Hid.out hI)⟩
theorem two_of {l : List Tm} (h : l.length = 2) : ∃ a b, l = [a, b] := by
  match l, h with
  | [a, b], _ => exact ⟨a, b, rfl⟩
theorem comp_two {l : Lp} (h : l.lit = true) (hk : l.kind = 3 ∨ l.kind = 4) : l.args.length = 2 := by
  unfold Lp.lit at h
  have e1 : (l.kind == 1 || l.kind == 2) = false := by rcases hk with h | h <;> simp [h]
  have e2 : (l.kind == 3 || l.kind == 4) = true := by rcases hk with h | h <;> simp [h]
  rw [if_neg (by rw [e1]; decide), if_pos e2] at h
  unfold Lp.comp at h
  simp only [Bool.and_eq_true, decide_eq_true_eq] at h
  exact h.2.2.1
theorem litText_any (l : Lp) (w : World) (hi : l.In w w.heap.size) (hs : l.Short) (hl : l.lit = true) (he : Env w) :
    Calls Tryz.prog 99 #[l.agg] w fun e w' => e = .returned (.string l.litT) ∧ Below w.heap.size w w' := by
  unfold Lp.litT
  by_cases h2 : l.kind = 2
  · rw [if_pos h2]; exact litText_not l w hi hs he h2
  · rw [if_neg h2]
    by_cases h3 : l.kind = 3
    · rw [if_pos h3]
      obtain ⟨a, b, hab⟩ := two_of (comp_two hl (.inl h3))
      rw [hab]
      exact litText_less l w a b hi hs he h3 hab
    · rw [if_neg h3]
      by_cases h4 : l.kind = 4
      · rw [if_pos h4]
        obtain ⟨a, b, hab⟩ := two_of (comp_two hl (.inr h4))
        rw [hab]
        exact litText_unlike l w a b hi hs he h4 hab
      · rw [if_neg h4]; exact litText_said l w hi hs he h2 h3 h4
end Go.Proofs.YtfmkfabbiifolaaGreatDoor

/-
  Contracts: clause.listText of literals, clause.Print, clause.PrintLit.
-/
namespace Go.Proofs.YtfmkfabbiifolaaGreatDoor
open Go.RowKit

theorem short_of_said {l : Lp} (h : l.said = true) (hn : l.Nb) : l.Short := by
  unfold Lp.said at h
  simp only [Bool.and_eq_true, decide_eq_true_eq, List.all_eq_true] at h
  obtain ⟨h1, h2, h3, h4⟩ := h
  refine ⟨hn, fun hw => ?_, fun t ht => Nat.le_trans (txt_size (h4 t ht) (hn.args t ht)) (by decide), by omega⟩
  unfold Tm.spk at h1
  rw [hw] at h1
  simp only [Bool.false_or, Bool.and_eq_true] at h1
  exact Nat.le_trans (txt_size h1.1 hn.who) (by decide)
theorem short_of_lit {l : Lp} (h : l.lit = true) (hn : l.Nb) : l.Short := by
  unfold Lp.lit at h
  split at h
  · exact short_of_said h hn
  · split at h
    · unfold Lp.comp at h
      simp only [Bool.and_eq_true, decide_eq_true_eq, List.all_eq_true] at h
      obtain ⟨h1, h2, h3, h4⟩ := h
      exact ⟨hn, fun hw => by rw [hw] at h1; exact absurd h1 (by decide), fun t ht => Nat.le_trans (txt_size (h4 t ht) (hn.args t ht)) (by decide), by omega⟩
    · exact absurd h (by decide)
theorem litT_size {l : Lp} (h : l.lit = true) (hs : l.Short) : l.litT.size ≤ 2000000 := by
  unfold Lp.litT
  have hsz := saidT_size l hs
  have hp : l.kind = 1 ∨ l.kind = 2 → l.pred.size ≤ 16 := fun hk => by
    unfold Lp.lit at h
    rw [if_pos (by rcases hk with h | h <;> simp [h])] at h
    unfold Lp.said at h
    simp only [Bool.and_eq_true] at h
    exact name_size h.2.1
  split
  · rename_i h2
    have := hp (.inr h2)
    rw [ByteArray.size_append]
    have e : wdNotB.size = 4 := rfl
    omega
  · split
    · rename_i h3
      obtain ⟨a, b, hab⟩ := two_of (comp_two h (.inl h3))
      have ha := hs.args a (by rw [hab]; simp)
      have hb := hs.args b (by rw [hab]; simp)
      rw [hab]
      unfold cmpT
      rw [ByteArray.size_append, ByteArray.size_append]
      have e : wdLessB.size = 3 := rfl
      omega
    · split
      · rename_i h4
        obtain ⟨a, b, hab⟩ := two_of (comp_two h (.inr h4))
        have ha := hs.args a (by rw [hab]; simp)
        have hb := hs.args b (by rw [hab]; simp)
        rw [hab]
        unfold cmpT
        rw [ByteArray.size_append, ByteArray.size_append]
        have e : wdUnlikeB.size = 4 := rfl
        omega
      · rename_i h2 h3 h4
        have h1 : l.kind = 1 := by
          unfold Lp.lit at h
          split at h
          · rename_i hk; simp at hk; omega
          · split at h
            · rename_i hk; simp at hk; omega
            · exact absurd h (by decide)
        have := hp (.inl h1)
        omega

set_option maxHeartbeats 8000000 in
set_option maxRecDepth 100000 in
theorem listLit_any (q : Option Addr) (c : Nat) (l : List Lp) (w : World) (hi : Lits w w.heap.size q l) (hz : ∀ t ∈ l, t.Short ∧ t.lit = true ∧ t.litT.size ≤ 2000000) (hl : l.length ≤ 1000) (he : Env w) :
    Calls Tryz.prog 98 #[.slice q l.length c, .func (.func 99) #[] #[]] w fun e w' => e = .returned (.string (joinB (l.map Lp.litT))) ∧ Below w.heap.size w w' := by
  have HE := Lib.hid he
  have HI := Lib.hid hi
  have HZ := Lib.hid hz
  obtain ⟨i0, hii, hz0, hz1, hzb⟩ := info_parts infoStr
  clear he hi hz
  go_enter Tryz.func98, Tryz.ntmps98
  go_wp2_with fail
  go_loopw [5, 10] (fun v i wr => ∃ j : Nat, j ≤ l.length ∧ i = .int .i64 j ∧ Hid (wr.ownsRow w.heap.size 9 1 v j (flatE encS ((l.take j).map Lp.litT))) ∧ Below w.heap.size w wr) (fun _ i _ => l.length - (intOf i).toNat)
  case atStart => exact ⟨0, Nat.zero_le _, rfl, Lib.hid (World.ownsRow_nil _ _ _ _), Below.refl _ _⟩
  case round =>
    obtain ⟨j, hj, rfl, HO, hb⟩ := hrel
    have HB := Lib.hid hb
    clear hb
    by_cases hlt : j < l.length
    · obtain ⟨b, o, rfl, hbb, x0, x1, x2, x3, x4, x5⟩ := rdL_at (HI.out.on HB.out (Nat.le_refl _)).rd j hlt
      have hb' : b < wr.heap.size := Nat.lt_of_lt_of_le hbb HB.out.size
      have HT := Lib.hid (show ∀ o, Calls Tryz.prog 99 #[.agg #[.int .u8 l[j].kind, .string l[j].who.v, .string l[j].who.s, .int .i64 l[j].who.n, .string l[j].pred, .slice l[j].ptr l[j].args.length l[j].cap]] (wr.alloc o) fun e w' => e = .returned (.string l[j].litT) ∧ Below (wr.alloc o).heap.size (wr.alloc o) w' from fun o => litText_any l[j] _ (((HI.out.each _ (List.getElem_mem hlt)).on (HB.out.alloc HB.out.size o) (Nat.le_refl _)).mono (HB.out.alloc HB.out.size o).size) (HZ.out _ (List.getElem_mem hlt)).1 (HZ.out _ (List.getElem_mem hlt)).2.1 (HE.out.on (HB.out.alloc HB.out.size o)))
      have HX := Lib.hid (show (l.take (j + 1)).map Lp.litT = (l.take j).map Lp.litT ++ [l[j].litT] by rw [List.take_succ_eq_append_getElem hlt, List.map_append]; rfl)
      have HL1 := Lib.hid (show j + 1 ≤ maxLen by unfold maxLen; omega)
      have HL2 := Lib.hid (show (j + 1) * 16 ≤ 140737488355328 by omega)
      generalize l[j].litT = tx at *
      go_wp2_with (first
        | (go_at_call 99; refine (HT.out _).mono ?_; rintro e w1 ⟨rfl, hb1⟩; have HB1 := Lib.hid ((HB.out.alloc HB.out.size _).trans (hb1.mono (HB.out.alloc HB.out.size _).size)); have HO1 := Lib.hid (own_below (own_below HO.out (below1 wr _)) hb1); have h65 := HB1.out.size; clear hb1)
        | (at_builtin; refine wpList_append_lies _ rfl _ _ 75 rfl w.heap.size 9 i0 (.string ⟨#[]⟩) 1 16 underSs hii hz0 hz1 hzb rfl (by decide) _ _ _ rfl (own_below HO1.out (below1 _ _)) ⟨w1.heap.size, 0, none⟩ 1 1 [.string tx] rfl rfl (news_alloc _ _ _) (ES.one tx) (by decide) HL1.out HL2.out (Nat.le_trans h65 (below1 w1 _).size) _ rfl ?_; intro g cap w2 hown hgrow hat hlt2; have HOW := Lib.hid hown; have HG := Lib.hid ((HB1.out.trans ((below1 w1 _).mono HB1.out.size)).grown hgrow (Nat.le_trans h65 (below1 w1 _).size) (fun x hx => (HO1.out.lt x hx).1)); clear hown hgrow hat))
      go_roundw
      case rel => exact ⟨j + 1, by omega, by go_num, Lib.hid (by rw [HX.out, flatE_snoc]; exact HOW.out), HG.out⟩
      case measure => simp [intOf]; omega
    · have hje : j = l.length := by omega
      have HX := Lib.hid (show (l.take j).map Lp.litT = l.map Lp.litT by rw [hje, List.take_length])
      have hsz := joinB_size (l.map Lp.litT) 2000000 (fun x hx => by obtain ⟨t, ht, rfl⟩ := List.mem_map.1 hx; exact (HZ.out t ht).2.2)
      have hml : (l.map Lp.litT).length = j := by rw [List.length_map]; omega
      rw [hml] at hsz
      have HJ := Lib.hid (join_own (l.map Lp.litT) (base := w.heap.size) (by rw [hml, ← HX.out]; exact HO.out) (by omega) (by omega))
      clear hsz hml
      go_wp2_with (go_at_call 28; refine (HJ.out).mono ?_; rintro e w1 ⟨rfl, hb1⟩)
      go_ret
      exact ⟨rfl, HB.out.trans (hb1.mono HB.out.size)⟩

def wdIfB : ByteArray := ⟨#[32, 58, 45, 32]⟩
/-- a clause's text -/
def Kp.txt (c : Kp) : ByteArray := (if c.body.isEmpty then c.head.saidT else c.head.saidT ++ (wdIfB ++ joinB (c.body.map Lp.litT))) ++ ⟨#[46]⟩
structure Kp.Nb (c : Kp) : Prop where
  head : c.head.Nb
  body : ∀ l ∈ c.body, l.Nb

set_option maxHeartbeats 8000000 in
set_option maxRecDepth 100000 in
theorem printLit_any (l : Lp) (w : World) (hi : l.In w w.heap.size) (hn : l.Nb) (he : Env w) :
    Calls Tryz.prog 71 #[l.agg] w fun e w' => e = .returned (if l.ask then .tuple #[.string l.saidT, .int .i64 0] else .tuple #[.string ⟨#[]⟩, .int .i64 1]) ∧ Below w.heap.size w w' := by
  have HB := Lib.hid (below1 w)
  have HK := Lib.hid (show ∀ o, Calls Tryz.prog 41 #[l.agg] (w.alloc o) fun e w' => e = .returned (.bool l.ask) ∧ Below (w.alloc o).heap.size (w.alloc o) w' from fun o => checkLit_any l _ (hi.grow (below1 w o)) (he.on (below1 w o)))
  cases hk : l.ask with
  | false =>
    rw [hk] at HK
    unfold Lp.agg at HK ⊢
    clear hi hn he hk
    go_enter Tryz.func71, Tryz.ntmps71
    go_wp2_with (go_at_call 41; refine (HK.out _).mono ?_; rintro e w1 ⟨rfl, hb1⟩)
    go_ret2
    exact ⟨rfl, (HB.out _).trans (hb1.mono (HB.out _).size)⟩
  | true =>
    have hsd : l.said = true := by unfold Lp.ask at hk; simp at hk; exact hk.2
    have HS := Lib.hid (show ∀ X, Below w.heap.size w X → Calls Tryz.prog 97 #[l.agg] X fun e w' => e = .returned (.string l.saidT) ∧ Below X.heap.size X w' from fun X hX => saidText_any l X (hi.grow hX) (short_of_said hsd hn) (he.on hX))
    rw [hk] at HK
    unfold Lp.agg at HK HS ⊢
    generalize l.saidT = tx at *
    clear hi hn he hk hsd
    go_enter Tryz.func71, Tryz.ntmps71
    go_wp2_with (first
      | (go_at_call 41; refine (HK.out _).mono ?_; rintro e w1 ⟨rfl, hb1⟩; have e0 := box_cell hb1 0 _ rfl; have e1 := box_cell hb1 1 _ rfl; have e2 := box_cell hb1 2 _ rfl; have e3 := box_cell hb1 3 _ rfl; have e4 := box_cell hb1 4 _ rfl; have e5 := box_cell hb1 5 _ rfl; have HB1 := Lib.hid ((HB.out _).trans (hb1.mono (HB.out _).size)); clear hb1)
      | (go_at_call 97; refine (HS.out _ HB1.out).mono ?_; rintro e w2 ⟨rfl, hb2⟩))
    go_ret2
    exact ⟨rfl, HB1.out.trans (hb2.mono HB1.out.size)⟩

set_option maxHeartbeats 8000000 in
set_option maxRecDepth 100000 in
theorem print_any (c : Kp) (w : World) (hi : c.In w w.heap.size) (hn : c.Nb) (he : Env w) :
    Calls Tryz.prog 70 #[c.agg] w fun e w' => e = .returned (if c.check then .tuple #[.string c.txt, .int .i64 0] else .tuple #[.string ⟨#[]⟩, .int .i64 1]) ∧ Below w.heap.size w w' := by
  have HB := Lib.hid (below1 w)
  have HK := Lib.hid (show ∀ o, Calls Tryz.prog 40 #[c.agg] (w.alloc o) fun e w' => e = .returned (.bool c.check) ∧ Below (w.alloc o).heap.size (w.alloc o) w' from fun o => check_any c _ (hi.grow (below1 w o)) (he.on (below1 w o)))
  cases hk : c.check with
  | false =>
    rw [hk] at HK
    unfold Kp.agg at HK ⊢
    clear hi hn he hk
    go_enter Tryz.func70, Tryz.ntmps70
    go_wp2_with (go_at_call 40; refine (HK.out _).mono ?_; rintro e w1 ⟨rfl, hb1⟩)
    go_ret2
    exact ⟨rfl, (HB.out _).trans (hb1.mono (HB.out _).size)⟩
  | true =>
    obtain ⟨hlen, _, hask, hbody⟩ : c.body.length ≤ 6 ∧ c.head.who.none = true ∧ c.head.ask = true ∧ ∀ l ∈ c.body, l.lit = true := by
      unfold Kp.check at hk
      simp only [Bool.and_eq_true, decide_eq_true_eq, List.all_eq_true] at hk
      exact hk
    have hsd : c.head.said = true := by unfold Lp.ask at hask; simp at hask; exact hask.2
    have hsh := short_of_said hsd hn.head
    have HS := Lib.hid (show ∀ X, Below w.heap.size w X → Calls Tryz.prog 97 #[c.head.agg] X fun e w' => e = .returned (.string c.head.saidT) ∧ Below X.heap.size X w' from fun X hX => saidText_any c.head X (hi.head.grow hX) hsh (he.on hX))
    have HL := Lib.hid (show ∀ X, Below w.heap.size w X → Calls Tryz.prog 98 #[.slice c.ptr c.body.length c.cap, .func (.func 99) #[] #[]] X fun e w' => e = .returned (.string (joinB (c.body.map Lp.litT))) ∧ Below X.heap.size X w' from fun X hX => listLit_any c.ptr c.cap c.body X ((hi.body.on hX (Nat.le_refl _)).mono hX.size) (fun l hl => ⟨short_of_lit (hbody l hl) (hn.body l hl), hbody l hl, litT_size (hbody l hl) (short_of_lit (hbody l hl) (hn.body l hl))⟩) (by omega) (he.on hX))
    have hz1 : c.head.saidT.size ≤ 2000000 := by
      have h1 := saidT_size c.head hsh
      have h2 : c.head.pred.size ≤ 16 := by unfold Lp.said at hsd; simp only [Bool.and_eq_true] at hsd; exact name_size hsd.2.1
      omega
    have hz2 : (joinB (c.body.map Lp.litT)).size ≤ 20000000 := by
      have := (joinB_size (c.body.map Lp.litT) 2000000 (fun x hx => by obtain ⟨t, ht, rfl⟩ := List.mem_map.1 hx; exact litT_size (hbody t ht) (short_of_lit (hbody t ht) (hn.body t ht)))).1
      rw [List.length_map] at this
      have := Nat.mul_le_mul_right 2000002 hlen
      omega
    have HX := Lib.hid (show c.txt = (if c.body.length = 0 then c.head.saidT else c.head.saidT ++ (wdIfB ++ joinB (c.body.map Lp.litT))) ++ ⟨#[46]⟩ by unfold Kp.txt; cases c.body <;> simp)
    rw [hk] at HK
    unfold Kp.agg at HK ⊢
    unfold Lp.agg at HS
    generalize c.txt = ct at *
    generalize c.head.saidT = tx at *
    generalize joinB (c.body.map Lp.litT) = jn at *
    generalize c.body.length = m at *
    clear hi hn he hk hsd hsh hask hbody
    by_cases hm : m = 0
    · subst hm
      have HX2 := Lib.hid (HX.out.trans (by rw [if_pos rfl]))
      go_enter Tryz.func70, Tryz.ntmps70
      go_wp2_with (first
        | (go_at_call 40; refine (HK.out _).mono ?_; rintro e w1 ⟨rfl, hb1⟩; have e0 := box_cell hb1 0 _ rfl; have e1 := box_cell hb1 1 _ rfl; have e2 := box_cell hb1 2 _ rfl; have e3 := box_cell hb1 3 _ rfl; have e4 := box_cell hb1 4 _ rfl; have e5 := box_cell hb1 5 _ rfl; have e6 := box_cell hb1 6 _ rfl; have HBX := Lib.hid hb1; have HB1 := Lib.hid ((HB.out _).trans (hb1.mono (HB.out _).size)); clear hb1)
        | (go_at_call 97; refine (HS.out _ HB1.out).mono ?_; rintro e w2 ⟨rfl, hb2⟩; have i6 := box_cell (HBX.out.trans (hb2.mono HBX.out.size)) 6 _ rfl; have HB2 := Lib.hid (HB1.out.trans (hb2.mono HB1.out.size)); clear hb2))
      go_ret2
      exact ⟨by rw [HX2.out]; rfl, HB2.out⟩
    · have HX2 := Lib.hid (HX.out.trans (by rw [if_neg hm]))
      have hm1 : (m : Int) > 0 := by omega
      go_enter Tryz.func70, Tryz.ntmps70
      go_wp2_with (first
        | (go_at_call 40; refine (HK.out _).mono ?_; rintro e w1 ⟨rfl, hb1⟩; have e0 := box_cell hb1 0 _ rfl; have e1 := box_cell hb1 1 _ rfl; have e2 := box_cell hb1 2 _ rfl; have e3 := box_cell hb1 3 _ rfl; have e4 := box_cell hb1 4 _ rfl; have e5 := box_cell hb1 5 _ rfl; have e6 := box_cell hb1 6 _ rfl; have HBX := Lib.hid hb1; have HB1 := Lib.hid ((HB.out _).trans (hb1.mono (HB.out _).size)); clear hb1)
        | (go_at_call 97; refine (HS.out _ HB1.out).mono ?_; rintro e w2 ⟨rfl, hb2⟩; have i6 := box_cell (HBX.out.trans (hb2.mono HBX.out.size)) 6 _ rfl; have HB2 := Lib.hid (HB1.out.trans (hb2.mono HB1.out.size)); clear hb2)
        | (go_at_call 98; refine (HL.out _ HB2.out).mono ?_; rintro e w3 ⟨rfl, hb3⟩; have HB3 := Lib.hid (HB2.out.trans (hb3.mono HB2.out.size)); clear hb3))
      go_ret2
      exact ⟨by rw [HX2.out]; rfl, HB3.out⟩
end Go.Proofs.YtfmkfabbiifolaaGreatDoor
