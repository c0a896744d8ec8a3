/-
  Contracts: slices.CompareFunc at lists of values of one length, value.Order.
-/
import Derived.Test.YtdoadclblloddaaDoorCmp
namespace Go.Proofs.YtdoadclblloddaaDoor
open Go.RowKit

abbrev Vl := ByteArray × Int
def cmpVs : List Vl → List Vl → Int
  | a :: x, b :: y => lexI (cmpW a.1 a.2 b.1 b.2) (cmpVs x y)
  | _, _ => 0
/-- A slice of values in memory, below block B. -/
def Vals (w : World) (B : Nat) (p : Option Addr) (vs : List Vl) : Prop :=
  vs = [] ∨ ∃ b off, p = some ⟨b, off, none⟩ ∧ b < B ∧ ∀ i (h : i < vs.length), w.cell? ⟨b, off + i * 2, none⟩ = some (.string vs[i].1) ∧ w.cell? ⟨b, off + i * 2 + 1, none⟩ = some (.int .i64 vs[i].2)

theorem Vals.below {w w' : World} {B : Nat} {p : Option Addr} {vs : List Vl} (h : Vals w B p vs) {B' : Nat} (hb : Below B' w w') (hB : B ≤ B') : Vals w' B p vs := by
  rcases h with h | ⟨b, off, rfl, hl, hc⟩
  · exact .inl h
  · refine .inr ⟨b, off, rfl, hl, fun i hi => ?_⟩
    have hl' : b < B' := Nat.lt_of_lt_of_le hl hB
    rw [hb.cell (p := ⟨b, off + i * 2, none⟩) hl', hb.cell (p := ⟨b, off + i * 2 + 1, none⟩) hl']
    exact hc i hi

theorem cmpVs_drop (l1 l2 : List Vl) (k : Nat) (h1 : k < l1.length) (h2 : k < l2.length) :
    cmpVs (l1.drop k) (l2.drop k) = lexI (cmpW l1[k].1 l1[k].2 l2[k].1 l2[k].2) (cmpVs (l1.drop (k + 1)) (l2.drop (k + 1))) := by
  rw [List.drop_eq_getElem_cons h1, List.drop_eq_getElem_cons h2]; rfl
theorem cmpVs_end (l1 l2 : List Vl) (k : Nat) (h1 : k = l1.length) : cmpVs (l1.drop k) (l2.drop k) = 0 := by
  subst h1; rw [List.drop_length]; rfl

set_option maxHeartbeats 1000000 in
theorem compareFunc_any (p1 p2 : Option Addr) (l1 l2 : List Vl) (c1 c2 : Nat) (w : World) (h1 : Vals w w.heap.size p1 l1) (h2 : Vals w w.heap.size p2 l2) (hl : l1.length = l2.length) (hm : l1.length ≤ maxLen) :
    Calls Tryd.prog 40 #[.slice p1 l1.length c1, .slice p2 l2.length c2, .func (.func 23) #[] #[]] w fun e w' => e = .returned (.int .i64 (cmpVs l1 l2)) ∧ Below w.heap.size w w' := by
  unfold maxLen at hm
  have HL := Lib.hid hl
  have hl1 : l1.length ≤ l2.length := by omega
  have hl2 : l2.length ≤ l1.length := by omega
  have H1 := Lib.hid h1
  have H2 := Lib.hid h2
  clear hl h1 h2
  go_enter Tryd.func40, Tryd.ntmps40
  go_wp2_with fail
  go_loopw [13] (fun i wr => ∃ k : Nat, k ≤ l1.length ∧ i = .int .i64 k ∧ cmpVs l1 l2 = cmpVs (l1.drop k) (l2.drop k) ∧ Below w.heap.size w wr) (fun i _ => l1.length - (intOf i).toNat)
  case atStart => exact ⟨0, Nat.zero_le _, rfl, rfl, Below.refl _ _⟩
  case round =>
    obtain ⟨k, hk, rfl, he, hb⟩ := hrel
    have HE := Lib.hid he
    clear he
    by_cases hlt : k < l1.length
    · obtain ⟨b1, o1, rfl, hb1, hc1⟩ : ∃ b off, p1 = some ⟨b, off, none⟩ ∧ b < w.heap.size ∧ ∀ i (h : i < l1.length), w.cell? ⟨b, off + i * 2, none⟩ = some (.string l1[i].1) ∧ w.cell? ⟨b, off + i * 2 + 1, none⟩ = some (.int .i64 l1[i].2) := by
        rcases H1.out with h | h
        · subst h; simp at hlt
        · exact h
      obtain ⟨b2, o2, rfl, hb2, hc2⟩ : ∃ b off, p2 = some ⟨b, off, none⟩ ∧ b < w.heap.size ∧ ∀ i (h : i < l2.length), w.cell? ⟨b, off + i * 2, none⟩ = some (.string l2[i].1) ∧ w.cell? ⟨b, off + i * 2 + 1, none⟩ = some (.int .i64 l2[i].2) := by
        rcases H2.out with h | h
        · subst h; simp at hl1; subst hl1; simp at hlt
        · exact h
      have hlt2 : k < l2.length := by omega
      have x1 : wr.cell? ⟨b1, o1 + k * 2, none⟩ = some (.string l1[k].1) := by rw [hb.cell hb1]; exact (hc1 k hlt).1
      have x2 : wr.cell? ⟨b1, o1 + k * 2 + 1, none⟩ = some (.int .i64 l1[k].2) := by rw [hb.cell hb1]; exact (hc1 k hlt).2
      have y1 : wr.cell? ⟨b2, o2 + k * 2, none⟩ = some (.string l2[k].1) := by rw [hb.cell hb2]; exact (hc2 k hlt2).1
      have y2 : wr.cell? ⟨b2, o2 + k * 2 + 1, none⟩ = some (.int .i64 l2[k].2) := by rw [hb.cell hb2]; exact (hc2 k hlt2).2
      clear hc1 hc2
      have hsz := hb.size
      have z1 : b1 < wr.heap.size := by omega
      have z2 : b2 < wr.heap.size := by omega
      have z3 : b2 < wr.heap.size + 1 := by omega
      by_cases hc : cmpW l1[k].1 l1[k].2 l2[k].1 l2[k].2 = 0
      · have hcb : (cmpW l1[k].1 l1[k].2 l2[k].1 l2[k].2 != 0) = false := by simp [hc]
        have HC := Lib.hid (show cmpVs l1 l2 = cmpVs (l1.drop (k + 1)) (l2.drop (k + 1)) by rw [HE.out, cmpVs_drop l1 l2 k hlt hlt2]; simp [lexI, hc])
        clear hc
        go_wp2_with (go_at_call 23; refine (compare_any _ _ _ _ _).mono ?_; rintro e w1 ⟨rfl, hb3⟩)
        go_roundw
        case rel => exact ⟨k + 1, by omega, by go_num, HC.out, ((hb.alloc hsz _).alloc (by simp; omega) _).trans (hb3.mono (by simp; omega))⟩
        case measure => simp [intOf]; omega
      · have hcb : (cmpW l1[k].1 l1[k].2 l2[k].1 l2[k].2 != 0) = true := by simp [hc]
        have HC := Lib.hid (show cmpVs l1 l2 = cmpW l1[k].1 l1[k].2 l2[k].1 l2[k].2 by rw [HE.out, cmpVs_drop l1 l2 k hlt hlt2]; simp [lexI, hc])
        clear hc
        go_wp2_with (go_at_call 23; refine (compare_any _ _ _ _ _).mono ?_; rintro e w1 ⟨rfl, hb3⟩)
        go_ret
        exact ⟨by rw [HC.out]; rfl, ((hb.alloc hsz _).alloc (by simp; omega) _).trans (hb3.mono (by simp; omega))⟩
    · go_wp2_with fail
      go_ret
      obtain rfl : k = l1.length := by omega
      exact ⟨by rw [HE.out, cmpVs_end l1 l2 _ rfl]; rfl, hb⟩

structure Tp where
  pred : ByteArray
  ptr : Option Addr
  cap : Nat
  args : List Vl
def Tp.agg (t : Tp) : Value := .agg #[.string t.pred, .slice t.ptr t.args.length t.cap]
def cmpT (a b : Tp) : Int := lexI (cmpS a.pred b.pred) (lexI (cmpI a.args.length b.args.length) (if a.args.length = b.args.length then cmpVs a.args b.args else 0))
structure Tp.In (t : Tp) (w : World) : Prop where
  vals : Vals w w.heap.size t.ptr t.args
  len : t.args.length ≤ maxLen

theorem vals_grow {w w' : World} {p : Option Addr} {vs : List Vl} (h : Vals w w.heap.size p vs) (hb : Below w.heap.size w w') : Vals w' w'.heap.size p vs := by
  rcases h with h | ⟨b, off, rfl, hl, hc⟩
  · exact .inl h
  · refine .inr ⟨b, off, rfl, Nat.lt_of_lt_of_le hl hb.size, fun i hi => ?_⟩
    rw [hb.cell (p := ⟨b, off + i * 2, none⟩) hl, hb.cell (p := ⟨b, off + i * 2 + 1, none⟩) hl]
    exact hc i hi
theorem Tp.In.grow {t : Tp} {w w' : World} (h : t.In w) (hb : Below w.heap.size w w') : t.In w' := ⟨vals_grow h.vals hb, h.len⟩

set_option maxHeartbeats 1000000 in
theorem order_any (a b : Tp) (w : World) (ha : a.In w) (hb : b.In w) :
    Calls Tryd.prog 25 #[a.agg, b.agg] w fun e w' => e = .returned (.int .i64 (cmpT a b)) ∧ Below w.heap.size w w' := by
  obtain ⟨p, x, c, l⟩ := a
  obtain ⟨q, y, d, m⟩ := b
  obtain ⟨v1, n1⟩ := ha
  obtain ⟨v2, n2⟩ := hb
  simp only at v1 n1 v2 n2
  unfold Tp.agg
  have V1 := Lib.hid v1
  have V2 := Lib.hid v2
  unfold maxLen at n1 n2
  clear v1 v2
  have B2 := below2 w
  have HB := Lib.hid B2
  clear B2
  by_cases h : cmpS p q = 0
  · have h1 : (cmpS p q != 0) = false := by simp [h]
    by_cases g : l.length = m.length
    · have g1 : (cmpI l.length m.length != 0) = false := by simp [(cmpI_zero _ _).2, g]
      have h3 := Lib.hid (show cmpT ⟨p, x, c, l⟩ ⟨q, y, d, m⟩ = cmpVs l m by simp [cmpT, lexI, h, (cmpI_zero _ _).2, g])
      have G := Lib.hid g
      clear h g
      go_enter Tryd.func25, Tryd.ntmps25
      go_wp2_with (first
        | (go_at_call 36; refine (againstS_any _ _ _).mono ?_; rintro e w' ⟨rfl, rfl⟩)
        | (go_at_call 39; refine (againstN_any _ _ _).mono ?_; rintro e w' ⟨rfl, rfl⟩))
      refine (compareFunc_any x y l m c d _ (vals_grow V1.out (HB.out _ _)) (vals_grow V2.out (HB.out _ _)) G.out n1).mono ?_
      rintro e w1 ⟨rfl, hb3⟩
      go_wp2_with fail
      go_ret
      exact ⟨by rw [h3.out]; rfl, (HB.out _ _).trans (hb3.mono (by simp; omega))⟩
    · have g1 : (cmpI l.length m.length != 0) = true := by simp [cmpI_zero]; omega
      have h3 := Lib.hid (show cmpT ⟨p, x, c, l⟩ ⟨q, y, d, m⟩ = cmpI l.length m.length by simp [cmpT, lexI, h, cmpI_zero, g]; omega)
      clear h g
      go_enter Tryd.func25, Tryd.ntmps25
      go_wp2_with (first
        | (go_at_call 36; refine (againstS_any _ _ _).mono ?_; rintro e w' ⟨rfl, rfl⟩)
        | (go_at_call 39; refine (againstN_any _ _ _).mono ?_; rintro e w' ⟨rfl, rfl⟩))
      go_ret
      exact ⟨by rw [h3.out]; rfl, HB.out _ _⟩
  · have h1 : (cmpS p q != 0) = true := by simp [h]
    have h3 := Lib.hid (show cmpT ⟨p, x, c, l⟩ ⟨q, y, d, m⟩ = cmpS p q by simp [cmpT, lexI, h])
    clear h
    go_enter Tryd.func25, Tryd.ntmps25
    go_wp2_with (go_at_call 36; refine (againstS_any _ _ _).mono ?_; rintro e w' ⟨rfl, rfl⟩)
    go_ret
    exact ⟨by rw [h3.out]; rfl, HB.out _ _⟩
end Go.Proofs.YtdoadclblloddaaDoor
