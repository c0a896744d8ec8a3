/-
  Contract: mandatelaw01.fixed answers true.
-/
import Derived.Test.YtdoadclblloddaaDoorSort
import Derived.Test.YtdoadclblloddaaDoorRightR
namespace Go.Proofs.YtdoadclblloddaaDoor
open Go.RowKit Go.Sort

def nameL (l : List UInt8) : Bool := !l.isEmpty && decide (l.length ≤ 16) && !(l == [110, 111, 116] || l == [115, 97, 121, 115]) && letB (l.headD 0).toNat && l.all fun c => lowB (c.toNat : Int)
theorem nameB_eq (s : ByteArray) : nameB s = nameL s.data.toList := by
  unfold nameB nameL wordB hdB allB
  rw [ByteArray.toList_eq]; rfl
theorem goodB_sym (s : ByteArray) (h : nameL s.data.toList = true) : goodB s 0 = true := by
  unfold goodB; rw [nameB_eq, h]; simp

def bA : ByteArray := ⟨#[97]⟩
def bB : ByteArray := ⟨#[98]⟩
def bP : ByteArray := ⟨#[112]⟩
theorem itoa12 : itoaS (-12) = ⟨#[45, 49, 50]⟩ := by
  unfold itoaS
  have : Lib.itoa (-12) = [45, 49, 50] := by simp [Lib.itoa, Lib.decDigits]
  rw [this]
theorem empty_isEmpty : (⟨#[]⟩ : ByteArray).toList.isEmpty = true := by rw [ByteArray.toList_eq]; rfl
theorem text12 : textS ⟨#[]⟩ (-12) = ⟨#[45, 49, 50]⟩ := by
  unfold textS goodB; rw [empty_isEmpty]; simp [itoa12]
theorem good12 : goodB ⟨#[]⟩ (-12) = true := by unfold goodB; rw [empty_isEmpty]; rfl

def tB (p : Nat) : Tp := ⟨⟨#[112]⟩, some ⟨p, 0, none⟩, 1, [(⟨#[98]⟩, 0)]⟩
def tA (q : Nat) : Tp := ⟨⟨#[112]⟩, some ⟨q, 0, none⟩, 1, [(⟨#[97]⟩, 0)]⟩
theorem cmpAB (p q : Nat) : cmpT (tA q) (tB p) = -1 := rfl
theorem ins_two (p q : Nat) : insertionSort ltT #[tB p, tA q] 0 2 = #[tA q, tB p] := by
  unfold insertionSort
  rw [insOuter_go' _ _ _ _ _ (by omega), insOuter_stop' _ _ _ _ _ (by omega), insInner_go' _ _ _ _ (by omega) (by show ltT (tA q) (tB p) = true; unfold ltT; rw [cmpAB]; rfl), insInner_stop' _ _ _ _ (.inl (by omega))]
  rfl
theorem inbB (B p : Nat) (W : World) (hp : p < B) (c0 : W.cell? ⟨p, 0, none⟩ = some (.string ⟨#[98]⟩)) (c1 : W.cell? ⟨p, 1, none⟩ = some (.int .i64 0)) : (tB p).Inb B W :=
  ⟨.inr ⟨p, 0, rfl, hp, fun i hi => by
    obtain rfl : i = 0 := by simp [tB] at hi; exact hi
    exact ⟨c0, c1⟩⟩, by show 1 ≤ maxLen; decide⟩
theorem inbA (B p : Nat) (W : World) (hp : p < B) (c0 : W.cell? ⟨p, 0, none⟩ = some (.string ⟨#[97]⟩)) (c1 : W.cell? ⟨p, 1, none⟩ = some (.int .i64 0)) : (tA p).Inb B W :=
  ⟨.inr ⟨p, 0, rfl, hp, fun i hi => by
    obtain rfl : i = 0 := by simp [tA] at hi; exact hi
    exact ⟨c0, c1⟩⟩, by show 1 ≤ maxLen; decide⟩

/-- what the answer's rows hold -/
structure Two2 (w : World) (g : Nat) (x y : Tp) : Prop where
  x0 : w.cell? ⟨g, 0, none⟩ = some (.string ⟨#[112]⟩)
  x1 : ∃ b o, w.cell? ⟨g, 1, none⟩ = some (.slice (some ⟨b, o, none⟩) 1 x.cap) ∧ x.ptr = some ⟨b, o, none⟩ ∧ b < w.heap.size ∧ w.cell? ⟨b, o, none⟩ = some (.string ⟨#[97]⟩) ∧ w.cell? ⟨b, o + 1, none⟩ = some (.int .i64 0)
  y0 : w.cell? ⟨g, 2, none⟩ = some (.string ⟨#[112]⟩)
  y1 : ∃ b o, w.cell? ⟨g, 3, none⟩ = some (.slice (some ⟨b, o, none⟩) 1 y.cap) ∧ y.ptr = some ⟨b, o, none⟩ ∧ b < w.heap.size
  xi : x.In w
  yi : y.In w
  xp : x.pred = ⟨#[112]⟩
  yp : y.pred = ⟨#[112]⟩
  xa : x.args = [(⟨#[97]⟩, 0)]
  ya : y.args = [(⟨#[98]⟩, 0)]
  lt : g < w.heap.size

theorem resok_cell {w : World} {v : Value} {x t : Tp} (h : ResOk w v x t) (hl : 1 ≤ t.args.length) : ∃ b o, x.ptr = some ⟨b, o, none⟩ ∧ b < w.heap.size ∧ (∀ i (hi : i < t.args.length), w.cell? ⟨b, o + i * 2, none⟩ = some (.string t.args[i].1) ∧ w.cell? ⟨b, o + i * 2 + 1, none⟩ = some (.int .i64 t.args[i].2)) := by
  obtain ⟨h1, h2, b, o, hp, _, hb, hv⟩ := h
  refine ⟨b, o, hp, hb, ?_⟩
  rw [hp, h2] at hv
  rcases hv with h | ⟨b', o', he, _, hc⟩
  · rw [h] at hl; simp at hl
  · cases he; exact hc

theorem sort_two (r p q : Nat) (W : World) (hr : r < W.heap.size) (hp : p < W.heap.size) (hq : q < W.heap.size)
    (c0 : W.cell? ⟨r, 0, none⟩ = some (.string ⟨#[112]⟩)) (c1 : W.cell? ⟨r, 1, none⟩ = some (.slice (some ⟨p, 0, none⟩) 1 1)) (c2 : W.cell? ⟨r, 2, none⟩ = some (.string ⟨#[112]⟩)) (c3 : W.cell? ⟨r, 3, none⟩ = some (.slice (some ⟨q, 0, none⟩) 1 1))
    (f : ∀ i, W.frozen? ⟨r, i, none⟩ = false) (p0 : W.cell? ⟨p, 0, none⟩ = some (.string ⟨#[98]⟩)) (p1 : W.cell? ⟨p, 1, none⟩ = some (.int .i64 0)) (q0 : W.cell? ⟨q, 0, none⟩ = some (.string ⟨#[97]⟩)) (q1 : W.cell? ⟨q, 1, none⟩ = some (.int .i64 0)) :
    Calls Tryd.prog 28 #[.slice (some ⟨r, 0, none⟩) 2 2] W fun e w' => ∃ g cap x y, e = .returned (.slice (some ⟨g, 0, none⟩) 2 cap) ∧ Two2 w' g x y ∧ Below W.heap.size W w' := by
  have hR : Rw W r 0 #[tB p, tA q] := by
    intro j hj
    rw [size_flatK] at hj
    have hj4 : j < 4 := hj
    rw [Nat.zero_add, get_flatK _ _ _ _ hj]
    refine ⟨?_, f j⟩
    rcases (show j = 0 ∨ j = 1 ∨ j = 2 ∨ j = 3 by omega) with rfl | rfl | rfl | rfl
    · exact c0
    · exact c1
    · exact c2
    · exact c3
  have iB := inbB W.heap.size p W hp p0 p1
  have iA := inbA W.heap.size q W hq q0 q1
  have two : ∀ (P : Tp → Prop) (x y : Tp), P x → P y → ∀ i, i < 2 → P (#[x, y] : Array Tp)[i]! := fun P x y h1 h2 i hi => by
    rcases (show i = 0 ∨ i = 1 by omega) with rfl | rfl
    · exact h1
    · exact h2
  refine (sort_small r 0 2 W.heap.size #[tB p, tA q] #[tA q, tB p] W (show 2 ≤ 2 by decide) (show 2 ≤ 12 by decide) hR hr (Nat.le_refl _) (two (fun t => t.Inb W.heap.size W) _ _ iB iA) (ins_two p q) rfl (two (fun t => t.Inb W.heap.size W) _ _ iA iB)
    (two (fun t => 1 ≤ t.args.length ∧ t.args.length * 24 ≤ 140737488355328) (tA q) (tB p) (show 1 ≤ 1 ∧ 1 * 24 ≤ 140737488355328 by decide) (show 1 ≤ 1 ∧ 1 * 24 ≤ 140737488355328 by decide)) (fun i h1 h2 => by
      obtain rfl : i = 1 := by have : i < 2 := h2; omega
      show cmpT (tA q) (tB p) ≠ 0
      rw [cmpAB]; decide)).mono ?_
  rintro e w' ⟨v, res, rfl, ho, hs, hres, hb⟩
  obtain ⟨g, cap, rfl, hg1, hg2⟩ := owned_form ho (show 1 ≤ 2 by decide)
  have hRr : Rw w' g 0 res := by
    have ho2 := ho
    rw [← hs] at ho2
    exact rw_of_owns ho2
  have a0 := hRr.at (i := 0) (by rw [hs]; show _ < 2; decide)
  have a1 := hRr.at (i := 1) (by rw [hs]; show _ < 2; decide)
  have r0 := hres 0 (show 0 < 2 by decide)
  have r1 := hres 1 (show 1 < 2 by decide)
  have r0' : ResOk w' _ res[0]! (tA q) := r0
  have r1' : ResOk w' _ res[1]! (tB p) := r1
  obtain ⟨b0, o0, e0, hb0, hc0⟩ := resok_cell r0' (show 1 ≤ 1 by decide)
  obtain ⟨b1, o1, e1, hb1, hc1⟩ := resok_cell r1' (show 1 ≤ 1 by decide)
  refine ⟨g, cap, res[0]!, res[1]!, rfl, ⟨?_, ⟨b0, o0, ?_, e0, hb0, (hc0 0 (show 0 < 1 by decide)).1, (hc0 0 (show 0 < 1 by decide)).2⟩, ?_, ⟨b1, o1, ?_, e1, hb1⟩, ⟨r0'.2.2.choose_spec.choose_spec.2.2.2, by rw [r0'.2.1]; show 1 ≤ maxLen; decide⟩, ⟨r1'.2.2.choose_spec.choose_spec.2.2.2, by rw [r1'.2.1]; show 1 ≤ maxLen; decide⟩, r0'.1, r1'.1, r0'.2.1, r1'.2.1, hg2⟩, hb⟩
  · rw [show (⟨g, 0, none⟩ : Addr) = ⟨g, 0 + 0 * 2, none⟩ from rfl, a0.c0, r0'.1]; rfl
  · rw [show (⟨g, 1, none⟩ : Addr) = ⟨g, 0 + 0 * 2 + 1, none⟩ from rfl, a0.c1, r0'.2.1, e0]; rfl
  · rw [show (⟨g, 2, none⟩ : Addr) = ⟨g, 0 + 1 * 2, none⟩ from rfl, a1.c0, r1'.1]; rfl
  · rw [show (⟨g, 3, none⟩ : Addr) = ⟨g, 0 + 1 * 2 + 1, none⟩ from rfl, a1.c1, r1'.2.1, e1]; rfl

theorem ret_bool {a b : Bool} (h : a = b) : Ending.returned (.bool a) = .returned (.bool b) := by rw [h]
theorem name_a1 (w : World) : Calls Tryd.prog 13 #[.string ⟨#[97, 95, 49]⟩] w fun e w' => e = .returned (.bool true) ∧ Below w.heap.size w w' := by
  refine (name_any ⟨#[97, 95, 49]⟩ w (by decide)).mono ?_
  rintro e w' ⟨rfl, rfl⟩
  exact ⟨ret_bool (by rw [nameB_eq]; decide), Below.refl _ _⟩
theorem name_not (w : World) : Calls Tryd.prog 13 #[.string ⟨#[110, 111, 116]⟩] w fun e w' => e = .returned (.bool false) ∧ Below w.heap.size w w' := by
  refine (name_any ⟨#[110, 111, 116]⟩ w (by decide)).mono ?_
  rintro e w' ⟨rfl, rfl⟩
  exact ⟨ret_bool (by rw [nameB_eq]; decide), Below.refl _ _⟩
theorem compare_9a (w : World) : Calls Tryd.prog 23 #[.agg #[.string ⟨#[]⟩, .int .i64 9], .agg #[.string ⟨#[97]⟩, .int .i64 0]] w fun e w' => e = .returned (.int .i64 (-1)) ∧ Below w.heap.size w w' :=
  compare_any ⟨#[]⟩ ⟨#[97]⟩ 9 0 w
theorem good_ann (w : World) : Calls Tryd.prog 15 #[.agg #[.string ⟨#[97, 110, 110]⟩, .int .i64 0]] w fun e w' => e = .returned (.bool true) ∧ Below w.heap.size w w' := by
  refine (good_any ⟨#[97, 110, 110]⟩ 0 w (by decide)).mono ?_
  rintro e w' ⟨rfl, h⟩
  exact ⟨by rw [goodB_sym _ (by decide)], h⟩
theorem order_ab (w : World) (b0 o0 b1 o1 c0 c1 : Nat) (ha : Vals w w.heap.size (some ⟨b0, o0, none⟩) [(⟨#[97]⟩, 0)]) (hb : Vals w w.heap.size (some ⟨b1, o1, none⟩) [(⟨#[98]⟩, 0)]) :
    Calls Tryd.prog 25 #[.agg #[.string ⟨#[112]⟩, .slice (some ⟨b0, o0, none⟩) 1 c0], .agg #[.string ⟨#[112]⟩, .slice (some ⟨b1, o1, none⟩) 1 c1]] w fun e w' => e = .returned (.int .i64 (-1)) ∧ Below w.heap.size w w' :=
  order_any ⟨⟨#[112]⟩, some ⟨b0, o0, none⟩, c0, [(⟨#[97]⟩, 0)]⟩ ⟨⟨#[112]⟩, some ⟨b1, o1, none⟩, c1, [(⟨#[98]⟩, 0)]⟩ w ⟨ha, by show 1 ≤ maxLen; decide⟩ ⟨hb, by show 1 ≤ maxLen; decide⟩
theorem right_a (w : World) (b0 o0 c0 : Nat) (ha : Vals w w.heap.size (some ⟨b0, o0, none⟩) [(⟨#[97]⟩, 0)]) :
    Calls Tryd.prog 17 #[.agg #[.string ⟨#[112]⟩, .slice (some ⟨b0, o0, none⟩) 1 c0]] w fun e w' => e = .returned (.bool true) ∧ Below w.heap.size w w' := by
  refine (right_any ⟨#[112]⟩ (some ⟨b0, o0, none⟩) c0 [(⟨#[97]⟩, 0)] w ha (by show 1 ≤ maxLen; decide) (by decide) (fun i hi => ?_)).mono ?_
  · obtain rfl : i = 0 := by simp at hi; exact hi
    show (⟨#[97]⟩ : ByteArray).size ≤ maxLen
    decide
  rintro e w' ⟨rfl, h⟩
  refine ⟨?_, h⟩
  have e1 : goodB ⟨#[97]⟩ 0 = true := goodB_sym _ (by decide)
  have e2 : nameB ⟨#[112]⟩ = true := by rw [nameB_eq]; decide
  simp [rightB, goodAll, hdS, e1, e2]

/-- what the last statement reads stays, whatever is made beside it -/
theorem keepS {w3 X w' : World} {m g b0 o0 b1 o1 c0 c1 : Nat} (hm : m < w3.heap.size) (hg : g < w3.heap.size) (hb0 : b0 < w3.heap.size)
    (F : w3.cell? ⟨m, 0, none⟩ = some (.string ⟨#[97, 110, 110]⟩) ∧ w3.cell? ⟨m, 1, none⟩ = some (.int .i64 0) ∧ w3.cell? ⟨g, 0, none⟩ = some (.string ⟨#[112]⟩) ∧ w3.cell? ⟨g, 1, none⟩ = some (.slice (some ⟨b0, o0, none⟩) 1 c0) ∧ w3.cell? ⟨g, 2, none⟩ = some (.string ⟨#[112]⟩) ∧ w3.cell? ⟨g, 3, none⟩ = some (.slice (some ⟨b1, o1, none⟩) 1 c1) ∧ w3.cell? ⟨b0, o0, none⟩ = some (.string ⟨#[97]⟩)) (h : Below w3.heap.size w3 X) (hn : Below X.heap.size X w') : w'.cell? ⟨m, 0, none⟩ = some (.string ⟨#[97, 110, 110]⟩) ∧ w'.cell? ⟨m, 1, none⟩ = some (.int .i64 0) ∧ w'.cell? ⟨g, 0, none⟩ = some (.string ⟨#[112]⟩) ∧ w'.cell? ⟨g, 1, none⟩ = some (.slice (some ⟨b0, o0, none⟩) 1 c0) ∧ w'.cell? ⟨g, 2, none⟩ = some (.string ⟨#[112]⟩) ∧ w'.cell? ⟨g, 3, none⟩ = some (.slice (some ⟨b1, o1, none⟩) 1 c1) ∧ w'.cell? ⟨b0, o0, none⟩ = some (.string ⟨#[97]⟩) ∧ Below w3.heap.size w3 w' := by
  obtain ⟨f1, f2, f3, f4, f5, f6, f7⟩ := F
  have hk : Below w3.heap.size w3 w' := h.trans (hn.mono h.size)
  refine ⟨?_, ?_, ?_, ?_, ?_, ?_, ?_, hk⟩
  · rw [hk.cell (p := ⟨m, 0, none⟩) hm]; exact f1
  · rw [hk.cell (p := ⟨m, 1, none⟩) hm]; exact f2
  · rw [hk.cell (p := ⟨g, 0, none⟩) hg]; exact f3
  · rw [hk.cell (p := ⟨g, 1, none⟩) hg]; exact f4
  · rw [hk.cell (p := ⟨g, 2, none⟩) hg]; exact f5
  · rw [hk.cell (p := ⟨g, 3, none⟩) hg]; exact f6
  · rw [hk.cell (p := ⟨b0, o0, none⟩) hb0]; exact f7

set_option maxHeartbeats 4000000 in
set_option maxRecDepth 100000 in
theorem fixed_any (w : World) (he : Env w) :
    Calls Tryd.prog 12 #[] w fun e w' => e = .returned (.bool true) ∧ Below w.heap.size w w' := by
  have HE := Lib.hid he
  clear he
  go_enter Tryd.func12, Tryd.ntmps12
  go_wp2_with fail
  refine (text_any ⟨#[]⟩ (-12) _ (by decide) (by decide) (by decide) HE.out).mono ?_
  rintro e w1 ⟨rfl, hb1⟩
  rw [text12, good12]
  go_wp2_with fail
  refine (read_name ⟨#[97, 110, 110]⟩ _ (by decide) (by rw [nameB_eq]; decide)).mono ?_
  rintro e w2 ⟨rfl, hb2⟩
  have hb3 : Below w.heap.size w w2 := hb1.trans (hb2.mono hb1.size)
  clear hb1 hb2
  go_wp2_with fail
  refine (sort_two (w2.heap.size + 1 + 1 + 1) (w2.heap.size + 1) (w2.heap.size + 1 + 1) _ ?a1 ?a2 ?a3 ?a4 ?a5 ?a6 ?a7 ?a8 ?a9 ?b1 ?b2 ?b3).mono ?z
  case a1 => simp
  case a2 => simp; try omega
  case a3 => simp
  case a4 => simp [go_sem]
  case a5 => simp [go_sem]
  case a6 => simp [go_sem]
  case a7 => simp [go_sem]
  case a8 => intro i; simp [go_sem]
  case a9 => simp [go_sem]
  case b1 => simp [go_sem]
  case b2 => simp [go_sem]
  case b3 => simp [go_sem]
  case z =>
    rintro e w3 ⟨g, cap, x, y, rfl, h2, hb4⟩
    have hb5 := hb3.mono (Nat.le_refl _)
    obtain ⟨x0, ⟨b0, o0, x1, x2, x3, x4, x5⟩, y0, ⟨b1, o1, y1, y2, y3⟩, xi, yi, xp, yp, xa, ya, hg⟩ := h2
    have hxv := xi.vals
    have hyv := yi.vals
    rw [x2, xa] at hxv
    rw [y2, ya] at hyv
    clear xi yi x2 y2 xp yp xa ya x5
    generalize hcx : x.cap = cx at *
    generalize hcy : y.cap = cy at *
    clear hcx hcy
    have hm : w2.heap.size < w3.heap.size := by have := hb4.size; simp at this; omega
    have m0 : w3.cell? ⟨w2.heap.size, 0, none⟩ = some (.string ⟨#[97, 110, 110]⟩) := by rw [hb4.cell (p := ⟨w2.heap.size, 0, none⟩) (by simp; omega)]; simp [go_sem]
    have m1 : w3.cell? ⟨w2.heap.size, 1, none⟩ = some (.int .i64 0) := by rw [hb4.cell (p := ⟨w2.heap.size, 1, none⟩) (by simp; omega)]; simp [go_sem]
    have HX := Lib.hid hxv
    have HYv := Lib.hid hyv
    have HF := Lib.hid (show w3.cell? ⟨w2.heap.size, 0, none⟩ = some (.string ⟨#[97, 110, 110]⟩) ∧ w3.cell? ⟨w2.heap.size, 1, none⟩ = some (.int .i64 0) ∧ w3.cell? ⟨g, 0, none⟩ = some (.string ⟨#[112]⟩) ∧ w3.cell? ⟨g, 1, none⟩ = some (.slice (some ⟨b0, o0, none⟩) 1 cx) ∧ w3.cell? ⟨g, 2, none⟩ = some (.string ⟨#[112]⟩) ∧ w3.cell? ⟨g, 3, none⟩ = some (.slice (some ⟨b1, o1, none⟩) 1 cy) ∧ w3.cell? ⟨b0, o0, none⟩ = some (.string ⟨#[97]⟩) from ⟨m0, m1, x0, x1, y0, y1, x4⟩)
    have HB := Lib.hid (show Below w.heap.size w w3 from hb3.trans (((((Below.refl w2.heap.size w2).alloc (Nat.le_refl _) _).alloc (by simp) _ |>.alloc (by simp; omega) _).alloc (by simp; omega) _).trans (hb4.mono (by simp; omega)) |>.mono hb3.size))
    have HR := Lib.hid (Below.refl w3.heap.size w3)
    clear hxv hyv hb3 hb4 hb5 HE y3
    generalize w2.heap.size = m at *
    have hR0 : Below w3.heap.size w3 w3.drew := HR.out.drew
    clear w1 w2
    go_wp2_with fail
    have HM := Lib.hid (show ∀ X w', Below w3.heap.size w3 X → Below X.heap.size X w' → w'.cell? ⟨m, 0, none⟩ = some (.string ⟨#[97, 110, 110]⟩) ∧ w'.cell? ⟨m, 1, none⟩ = some (.int .i64 0) ∧ w'.cell? ⟨g, 0, none⟩ = some (.string ⟨#[112]⟩) ∧ w'.cell? ⟨g, 1, none⟩ = some (.slice (some ⟨b0, o0, none⟩) 1 cx) ∧ w'.cell? ⟨g, 2, none⟩ = some (.string ⟨#[112]⟩) ∧ w'.cell? ⟨g, 3, none⟩ = some (.slice (some ⟨b1, o1, none⟩) 1 cy) ∧ w'.cell? ⟨b0, o0, none⟩ = some (.string ⟨#[97]⟩) ∧ Below w3.heap.size w3 w' from fun X w' h hn => keepS hm hg x3 HF.out h hn)
    go_region_held3 (fun w' => w'.cell? ⟨m, 0, none⟩ = some (.string ⟨#[97, 110, 110]⟩) ∧ w'.cell? ⟨m, 1, none⟩ = some (.int .i64 0) ∧ w'.cell? ⟨g, 0, none⟩ = some (.string ⟨#[112]⟩) ∧ w'.cell? ⟨g, 1, none⟩ = some (.slice (some ⟨b0, o0, none⟩) 1 cx) ∧ w'.cell? ⟨g, 2, none⟩ = some (.string ⟨#[112]⟩) ∧ w'.cell? ⟨g, 3, none⟩ = some (.slice (some ⟨b1, o1, none⟩) 1 cy) ∧ w'.cell? ⟨b0, o0, none⟩ = some (.string ⟨#[97]⟩) ∧ Below w3.heap.size w3 w')
      (first
        | (go_split_ands; exact HM.out _ _ (by assumption) hbn)
        | go_keep)
      (first
        | (go_at_call_of 13 (Value.string ⟨#[97, 95, 49]⟩); refine (name_a1 _).mono ?_; rintro e wn ⟨rfl, hbn⟩)
        | (go_at_call_of 13 (Value.string ⟨#[110, 111, 116]⟩); refine (name_not _).mono ?_; rintro e wn ⟨rfl, hbn⟩)
        | (go_at_call 23; refine (compare_9a _).mono ?_; rintro e wn ⟨rfl, hbn⟩)
        | (go_at_call 25; refine (order_ab _ b0 o0 b1 o1 cx cy (vals_grow HX.out (by go_split_ands; assumption)) (vals_grow HYv.out (by go_split_ands; assumption))).mono ?_; rintro e wn ⟨rfl, hbn⟩)
        | (go_at_call 15; refine (good_ann _).mono ?_; rintro e wn ⟨rfl, hbn⟩)
        | (go_at_call 17; refine (right_a _ b0 o0 cx (vals_grow HX.out (by go_split_ands; assumption))).mono ?_; rintro e wn ⟨rfl, hbn⟩))
    all_goals
      go_wp2_with fail
      go_ret
      refine ⟨rfl, HB.out.trans (Below.mono (B := w3.heap.size) ?_ HB.out.size)⟩
      go_split_ands
      assumption
end Go.Proofs.YtdoadclblloddaaDoor
