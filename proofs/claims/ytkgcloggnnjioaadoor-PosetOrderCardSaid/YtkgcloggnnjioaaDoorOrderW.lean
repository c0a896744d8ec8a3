/-
  The walk of mandatelaw04.PosetOrder.
-/
import Derived.Test.YtkgcloggnnjioaaDoorFixed
import Derived.Test.YtkgcloggnnjioaaDoorCopy
import Derived.Test.YtkgcloggnnjioaaDoorOrderA
import Derived.Deep.RegionHeld3
import Derived.Deep.DeepCutAuto
namespace Go.Proofs.YtkgcloggnnjioaaDoor
open Go.RowKit

/-- what stays known: the law's own box, the list -/
structure OI (w : World) (p : Option Addr) (ms : List Nat) (c : Nat) (a b d : Int) (g : Nat) (W : World) : Prop where
  box : W.heap[w.heap.size]? = some (.cells #[.slice p ms.length c, .int .i64 a, .int .i64 b, .int .i64 d] 46 (0, 0))
  us : Us W W.heap.size (some ⟨g, 0, none⟩) ms
  below : Below w.heap.size w W
theorem OI.step {w W W' : World} {p : Option Addr} {ms : List Nat} {c : Nat} {a b d : Int} {g : Nat} (h : OI w p ms c a b d g W) (hb : Below W.heap.size W W') : OI w p ms c a b d g W' :=
  ⟨(hb.block _ (Array.getElem?_eq_some_iff.1 h.box).1).trans h.box, (h.us.below hb (Nat.le_refl _)).up hb.size, h.below.trans (hb.mono h.below.size)⟩
theorem OI.drew {w W : World} {p : Option Addr} {ms : List Nat} {c : Nat} {a b d : Int} {g : Nat} (h : OI w p ms c a b d g W) : OI w p ms c a b d g W.drew := ⟨h.box, h.us, h.below.drew⟩
theorem OI.drewN {w W : World} {p : Option Addr} {ms : List Nat} {c : Nat} {a b d : Int} {g : Nat} (h : OI w p ms c a b d g W) (n : Nat) : OI w p ms c a b d g (W.drewN n) := ⟨h.box, h.us, belowN h.below n⟩
theorem OI.cells {w W : World} {p : Option Addr} {ms : List Nat} {c : Nat} {a b d : Int} {g : Nat} (h : OI w p ms c a b d g W) :
    W.cell? ⟨w.heap.size, 0, none⟩ = some (.slice p ms.length c) ∧ W.cell? ⟨w.heap.size, 1, none⟩ = some (.int .i64 a) ∧ W.cell? ⟨w.heap.size, 2, none⟩ = some (.int .i64 b) ∧ W.cell? ⟨w.heap.size, 3, none⟩ = some (.int .i64 d) := by
  refine ⟨?_, ?_, ?_, ?_⟩ <;> simp [World.cell?, h.box]
theorem OI.at {w W : World} {p : Option Addr} {ms : List Nat} {c : Nat} {a b d : Int} {g : Nat} (h : OI w p ms c a b d g W) (hT : Tab w) (hg : 0 < w.heap.size) (hz : ms.length ≤ maxLen) (hs : Small ms) (cap : Nat) (x y : Int) :
    Calls Tryd.prog 19 #[.slice (some ⟨g, 0, none⟩) ms.length cap, .int .i64 x, .int .i64 y] W fun e W' => e = .returned (.bool (atB ms x y)) ∧ Below W.heap.size W W' :=
  at_any ms _ cap x y W hz hs h.us (hT.below h.below hg) (by have := h.below.size; omega)

set_option maxRecDepth 100000 in
set_option maxHeartbeats 16000000 in
theorem order_walk (ms : List Nat) (p : Option Addr) (c : Nat) (a b d : Int) (w : World) (hz : ms.length * 8 ≤ 140737488355328) (hs : Small ms) (hp : Us w w.heap.size p ms) (hT : Tab w) (hg : 0 < w.heap.size)
    (ba1 : -9223372036854775808 ≤ a) (ba2 : a ≤ 9223372036854775807) (bb1 : -9223372036854775808 ≤ b) (bb2 : b ≤ 9223372036854775807) :
    Calls Tryd.prog 9 #[.agg #[.slice p ms.length c, .int .i64 a, .int .i64 b, .int .i64 d]] w fun e W' => e = .returned (.bool true) ∧ Below w.heap.size w W' := by
  have hzl : ms.length ≤ maxLen := by unfold maxLen; omega
  have HP := Lib.hid hp
  have HT := Lib.hid hT
  have HS := Lib.hid hs
  have HZ := Lib.hid hzl
  have hb0 := (Below.refl w.heap.size w).alloc (Nat.le_refl _) (.cells #[.slice p ms.length c, .int .i64 a, .int .i64 b, .int .i64 d] 46)
  have HB0 := Lib.hid hb0
  have HX0 := Lib.hid (World.alloc_heap_new w (.cells #[.slice p ms.length c, .int .i64 a, .int .i64 b, .int .i64 d] 46))
  have HF := Lib.hid (fixed_any _ (HT.out.below hb0 hg) (by simp))
  clear hp hT hs hzl hb0
  go_enter Tryd.func9, Tryd.ntmps9
  go_wp2_with fail
  refine HF.out.mono ?_
  rintro e W1 ⟨rfl, hb⟩
  have hx1 := (hb.block w.heap.size (by simp)).trans HX0.out
  have HB1 := Lib.hid (HB0.out.trans (hb.mono HB0.out.size))
  have HA1 := Lib.hid (HB1.out.alloc HB1.out.size (.cells #[] 36))
  have HK := Lib.hid (World.alloc_heap_new W1 (.cells #[] 36))
  have HP1 := Lib.hid (HP.out.below HA1.out (Nat.le_refl _))
  have HX1 := Lib.hid hx1
  have y0 : (W1.alloc (.cells #[] 36)).cell? ⟨w.heap.size, 0, none⟩ = some (.slice p ms.length c) := cellOn _ (by simp [World.cell?, hx1])
  clear hb hx1 HF
  go_wp2_with (at_builtin; refine wpList_copyM (by rfl) (.tmp 12) (.tmp 14) rfl W1.heap.size rfl HK.out p ms c rfl HP1.out hz ?_)
  intro g cap W2 _ hus hb2
  have HO := Lib.hid (show OI w p ms c a b d g W2 from ⟨by
      have h1 : w.heap.size < W1.heap.size := (Array.getElem?_eq_some_iff.1 HX1.out).1
      rw [hb2.block _ h1, Below.heap_alloc _ _ _ h1]; exact HX1.out, hus, HA1.out.trans (hb2.mono HB1.out.size)⟩)
  clear hb2 hus y0
  have HAT := Lib.hid (show ∀ (X : World) (x y : Int), OI w p ms c a b d g X → Calls Tryd.prog 19 #[.slice (some ⟨g, 0, none⟩) ms.length cap, .int .i64 x, .int .i64 y] X fun e W' => e = .returned (.bool (atB ms x y)) ∧ OI w p ms c a b d g W' from
    fun X x y h => (h.at HT.out hg HZ.out HS.out cap x y).mono fun e W' ⟨h1, h2⟩ => ⟨h1, h.step h2⟩)
  go_wp2_with fail
  go_cut [4, 5, 6, 7] (fun s4 s5 s6 s7 wx => s4 = .bool (atB ms a b) ∧ s5 = .bool (atB ms b d) ∧ s6 = .bool (atB ms a d) ∧ s7 = .bool (atB ms b a) ∧ Hid (OI w p ms c a b d g wx))
  case first =>
    obtain ⟨y0, y1, y2, y3⟩ := HO.out.cells
    have HOD := Lib.hid HO.out.drew
    go_region_held3 (fun w' => w'.cell? ⟨w.heap.size, 1, none⟩ = some (.int .i64 a) ∧ w'.cell? ⟨w.heap.size, 2, none⟩ = some (.int .i64 b) ∧ w'.cell? ⟨w.heap.size, 3, none⟩ = some (.int .i64 d) ∧ Hid (OI w p ms c a b d g w'))
      (first
        | (go_split_ands; exact ⟨hbn.cells.2.1, hbn.cells.2.2.1, hbn.cells.2.2.2, Lib.hid hbn⟩)
        | go_keep)
      (first
        | (go_at_call 19; refine (HAT.out _ _ _ (by go_split_ands; (first | exact Hid.out (by assumption) | assumption))).mono ?_; rintro e wn ⟨rfl, hbn⟩))
    all_goals
      go_wp2_with fail
      go_meet
      exact ⟨rfl, rfl, rfl, rfl, Lib.hid hbn⟩
  case rest =>
    obtain ⟨rfl, rfl, rfl, rfl, HI⟩ := hcut
    have HTR := Lib.hid (show atB ms a b = true → atB ms b d = true → atB ms a d = true from at_trans)
    have HAN := Lib.hid (show atB ms a b = true → atB ms b a = true → a = b from at_anti)
    have HAB := Lib.hid (show ∀ b' : Nat, b = b' → (aboveM ms a).testBit b' = atB ms a b from fun b' e => by rw [e]; exact above_bit ms HS.out a b')
    have HBB := Lib.hid (show ∀ a' : Nat, a = a' → (belowM ms b).testBit a' = atB ms a b from fun a' e => by rw [e]; exact below_bit ms a' b)
    have HAL := Lib.hid (above_lt ms HS.out a)
    have HBL := Lib.hid (below_lt ms b)
    clear HO
    obtain ⟨y0, y1, y2, y3⟩ := HI.out.cells
    have HAD := Lib.hid (show ∀ x y, atB ms x y = atB ms x y from fun _ _ => rfl)
    generalize hr1 : atB ms a b = ab at *
    generalize hr2 : atB ms b d = bd at *
    generalize hr3 : atB ms a d = ad at *
    generalize hr4 : atB ms b a = ba at *
    have HR1 := Lib.hid hr1
    have HR2 := Lib.hid hr2
    have HR3 := Lib.hid hr3
    have HR4 := Lib.hid hr4
    clear hr1 hr2 hr3 hr4
    go_upto_region 5 with (fail)
    go_cut [60] (fun s wx => s = .bool false ∧ wx = wc)
    case first =>
      have hway : (ab = false) ∨ (ab = true ∧ bd = true ∧ ad = true ∧ ba = true ∧ (a != b) = false) ∨ (ab = true ∧ bd = true ∧ ad = true ∧ ba = false) ∨ (ab = true ∧ bd = false ∧ ba = true ∧ (a != b) = false) ∨ (ab = true ∧ bd = false ∧ ba = false) := by
        have h1 := HTR.out
        have h2 := HAN.out
        have h3 : ab = true → ba = true → (a != b) = false := fun x y => by rw [h2 x y]; simp
        revert h1 h3
        clear h2
        cases ab <;> cases bd <;> cases ad <;> cases ba <;> simp
      rcases hway with e1 | ⟨e1, e2, e3, e4, e5⟩ | ⟨e1, e2, e3, e4⟩ | ⟨e1, e2, e4, e5⟩ | ⟨e1, e2, e4⟩
      all_goals
        subst e1
        try subst e2
        try subst e3
        try subst e4
        go_wp2_with fail
        go_meet
        exact ⟨rfl, rfl⟩
    case rest =>
      obtain ⟨rfl, rfl⟩ := hcut
      have HABV := Lib.hid (show ∀ X, OI w p ms c a b d g X → Calls Tryd.prog 21 #[.slice (some ⟨g, 0, none⟩) ms.length cap, .int .i64 a] X fun e W' => e = .returned (.int .u64 (aboveM ms a : Nat)) ∧ OI w p ms c a b d g W' from
        fun X h => (above_any ms _ cap a X HZ.out HS.out h.us (HT.out.below h.below hg) (by have := h.below.size; omega)).mono fun e W' ⟨h1, h2⟩ => ⟨h1, h.step h2⟩)
      have HBLW := Lib.hid (show ∀ X, OI w p ms c a b d g X → Calls Tryd.prog 23 #[.slice (some ⟨g, 0, none⟩) ms.length cap, .int .i64 b] X fun e W' => e = .returned (.int .u64 (belowM ms b : Nat)) ∧ OI w p ms c a b d g W' from
        fun X h => (below_any ms _ cap b X HZ.out HS.out h.us (HT.out.below h.below hg) (by have := h.below.size; omega)).mono fun e W' ⟨h1, h2⟩ => ⟨h1, h.step h2⟩)
      have HJN := Lib.hid (show ∀ X, OI w p ms c a b d g X → Calls Tryd.prog 17 #[.slice (some ⟨g, 0, none⟩) ms.length cap, .int .i64 a, .int .i64 b] X fun e W' => e = .returned (joinV ms a b) ∧ OI w p ms c a b d g W' from
        fun X h => (join_any ms _ cap a b X HZ.out HS.out h.us (HT.out.below h.below hg) (by have := h.below.size; omega)).mono fun e W' ⟨h1, h2⟩ => ⟨h1, h.step h2⟩)
      go_wp2_with fail
      go_cut [100] (fun s wx => s = .bool false ∧ Hid (OI w p ms c a b d g wx))
      case first =>
        generalize aboveM ms a = MA at *
        generalize belowM ms b = MB at *
        have hway : (decide (0 ≤ b) = false) ∨ (0 ≤ b ∧ decide (b < 64) = false) ∨ (0 ≤ b ∧ b < 64 ∧ decide (0 ≤ a) = false) ∨ (0 ≤ b ∧ b < 64 ∧ 0 ≤ a ∧ decide (a < 64) = false) ∨ (0 ≤ b ∧ b < 64 ∧ 0 ≤ a ∧ a < 64) := by
          simp only [decide_eq_false_iff_not]; omega
        rcases hway with e1 | ⟨e1, e2⟩ | ⟨e1, e2, e3⟩ | ⟨e1, e2, e3, e4⟩ | ⟨e1, e2, e3, e4⟩
        · go_quiet (fail)
          go_wp2_with fail
          go_meet
          exact ⟨rfl, Lib.hid (HI.out.drewN nq)⟩
        · go_quiet (fail)
          go_wp2_with fail
          go_meet
          exact ⟨rfl, Lib.hid (HI.out.drewN nq)⟩
        · go_quiet (fail)
          go_wp2_with fail
          go_meet
          exact ⟨rfl, Lib.hid (HI.out.drewN nq)⟩
        · go_quiet (fail)
          go_wp2_with fail
          go_meet
          exact ⟨rfl, Lib.hid (HI.out.drewN nq)⟩
        · obtain ⟨b', rfl⟩ : ∃ b' : Nat, b = b' := ⟨b.toNat, by omega⟩
          obtain ⟨a', rfl⟩ : ∃ a' : Nat, a = a' := ⟨a.toNat, by omega⟩
          have HBA := Lib.hid (show ∀ X, OI w p ms c a' b' d g X → Calls Tryd.prog 29 #[.int .u64 MA, .int .i64 b'] X fun e W' => e = .returned (.bool ab) ∧ OI w p ms c a' b' d g W' from
            fun X h => (Bit_ref MA b' HAL.out (by omega) X).mono fun e W' ⟨h1, h2⟩ => ⟨by rw [h1, HAB.out b' rfl], h2 ▸ h⟩)
          have HBB2 := Lib.hid (show ∀ X, OI w p ms c a' b' d g X → Calls Tryd.prog 29 #[.int .u64 MB, .int .i64 a'] X fun e W' => e = .returned (.bool ab) ∧ OI w p ms c a' b' d g W' from
            fun X h => (Bit_ref MB a' HBL.out (by omega) X).mono fun e W' ⟨h1, h2⟩ => ⟨by rw [h1, HBB.out a' rfl], h2 ▸ h⟩)
          have HOD := Lib.hid HI.out.drew
          have hnn : (ab != ab) = false := by simp
          go_region_held3 (fun w' => w'.cell? ⟨w.heap.size, 1, none⟩ = some (.int .i64 a') ∧ w'.cell? ⟨w.heap.size, 2, none⟩ = some (.int .i64 b') ∧ Hid (OI w p ms c a' b' d g w'))
            (first
              | (go_split_ands; exact ⟨hbn.cells.2.1, hbn.cells.2.2.1, Lib.hid hbn⟩)
              | go_keep)
            (first
              | (go_at_call 21; refine (HABV.out _ (by go_split_ands; (first | exact Hid.out (by assumption) | assumption))).mono ?_; rintro e wn ⟨rfl, hbn⟩)
              | (go_at_call 23; refine (HBLW.out _ (by go_split_ands; (first | exact Hid.out (by assumption) | assumption))).mono ?_; rintro e wn ⟨rfl, hbn⟩)
              | (go_at_call_of 29 (Value.int IntKind.u64 (MA : Int)); refine (HBA.out _ (by go_split_ands; (first | exact Hid.out (by assumption) | assumption))).mono ?_; rintro e wn ⟨rfl, hbn⟩)
              | (go_at_call_of 29 (Value.int IntKind.u64 (MB : Int)); refine (HBB2.out _ (by go_split_ands; (first | exact Hid.out (by assumption) | assumption))).mono ?_; rintro e wn ⟨rfl, hbn⟩))
          all_goals
            go_wp2_with fail
            go_meet
            exact ⟨rfl, Lib.hid (by assumption)⟩
      case rest =>
        obtain ⟨rfl, HI2⟩ := hcut
        clear HI HABV HBLW HAB HBB HAL HBL y0 y1 y2 y3
        obtain ⟨z0, z1, z2, z3⟩ := HI2.out.cells
        have HA3 := Lib.hid (show ∀ X, OI w p ms c a b d g X → Calls Tryd.prog 19 #[.slice (some ⟨g, 0, none⟩) ms.length cap, .int .i64 a, .int .i64 d] X fun e W' => e = .returned (.bool ad) ∧ OI w p ms c a b d g W' from fun X h => HR3.out ▸ HAT.out X a d h)
        have HA4 := Lib.hid (show ∀ X, OI w p ms c a b d g X → Calls Tryd.prog 19 #[.slice (some ⟨g, 0, none⟩) ms.length cap, .int .i64 b, .int .i64 d] X fun e W' => e = .returned (.bool bd) ∧ OI w p ms c a b d g W' from fun X h => HR2.out ▸ HAT.out X b d h)
        cases hj : joinR ms a b with
        | none =>
          rw [joinV_none hj] at HJN
          clear hj
          go_wp2_with fail
          refine (HJN.out _ HI2.out).mono ?_
          rintro e W5 ⟨rfl, hI5⟩
          have HI5 := Lib.hid hI5
          clear hI5 z0 z1 z2 z3
          go_wp2_with fail
          go_ret
          exact ⟨rfl, HI5.out.below⟩
        | some k =>
          rw [joinV_some hj] at HJN
          obtain ⟨f1, f2, f3⟩ := join_facts hj
          have HA1 := Lib.hid (show ∀ X, OI w p ms c a b d g X → Calls Tryd.prog 19 #[.slice (some ⟨g, 0, none⟩) ms.length cap, .int .i64 a, .int .i64 k] X fun e W' => e = .returned (.bool true) ∧ OI w p ms c a b d g W' from fun X h => f1 ▸ HAT.out X a k h)
          have HA2 := Lib.hid (show ∀ X, OI w p ms c a b d g X → Calls Tryd.prog 19 #[.slice (some ⟨g, 0, none⟩) ms.length cap, .int .i64 b, .int .i64 k] X fun e W' => e = .returned (.bool true) ∧ OI w p ms c a b d g W' from fun X h => f2 ▸ HAT.out X b k h)
          have HA5 := Lib.hid (show ad = true → bd = true → ∀ X, OI w p ms c a b d g X → Calls Tryd.prog 19 #[.slice (some ⟨g, 0, none⟩) ms.length cap, .int .i64 k, .int .i64 d] X fun e W' => e = .returned (.bool true) ∧ OI w p ms c a b d g W' from
            fun h1 h2 X h => (f3 d (HR3.out.trans h1) (HR2.out.trans h2)) ▸ HAT.out X k d h)
          clear hj f1 f2 f3
          go_wp2_with fail
          refine (HJN.out _ HI2.out).mono ?_
          rintro e W5 ⟨rfl, hI5⟩
          have HI5 := Lib.hid hI5
          clear hI5 z0 z1 z2 z3
          obtain ⟨z0, z1, z2, z3⟩ := HI5.out.cells
          go_wp2_with fail
          refine (HA1.out _ HI5.out).mono ?_
          rintro e W6 ⟨rfl, hI6⟩
          have HI6 := Lib.hid hI6
          clear hI6 z0 z1 z2 z3
          obtain ⟨z0, z1, z2, z3⟩ := HI6.out.cells
          go_wp2_with fail
          refine (HA2.out _ HI6.out).mono ?_
          rintro e W7 ⟨rfl, hI7⟩
          have HI7 := Lib.hid hI7
          clear hI7 z0 z1 z2 z3
          obtain ⟨z0, z1, z2, z3⟩ := HI7.out.cells
          go_wp2_with fail
          refine (HA3.out _ HI7.out).mono ?_
          rintro e W8 ⟨rfl, hI8⟩
          have HI8 := Lib.hid hI8
          clear hI8 z0 z1 z2 z3
          obtain ⟨z0, z1, z2, z3⟩ := HI8.out.cells
          cases ad with
          | false =>
            go_wp2_with fail
            go_ret
            exact ⟨rfl, HI8.out.below⟩
          | true =>
            go_wp2_with fail
            refine (HA4.out _ HI8.out).mono ?_
            rintro e W9 ⟨rfl, hI9⟩
            have HI9 := Lib.hid hI9
            clear hI9 z0 z1 z2 z3
            obtain ⟨z0, z1, z2, z3⟩ := HI9.out.cells
            cases bd with
            | false =>
              go_wp2_with fail
              go_ret
              exact ⟨rfl, HI9.out.below⟩
            | true =>
              go_wp2_with fail
              refine (HA5.out (by trivial) (by trivial) _ HI9.out).mono ?_
              rintro e WA ⟨rfl, hIA⟩
              have HIA := Lib.hid hIA
              clear hIA z0 z1 z2 z3
              go_wp2_with fail
              go_ret
              exact ⟨rfl, HIA.out.below⟩
end Go.Proofs.YtkgcloggnnjioaaDoor
