/-
  The walk of mandatelaw04.PosetBits.
-/
import Derived.Test.YtkgcloggnnjioaaDoorFixed
import Derived.Test.YtkgcloggnnjioaaDoorRefR
namespace Go.Proofs.YtkgcloggnnjioaaDoor
open Go.RowKit Go.Shelf

attribute [local go_sem] Oper.semAt_some

/-- the boxes of the law: the mask, how many, the result, the place, the count -/
structure BW (w : World) (q m : Nat) (most : Int) (a k : Nat) (r : Bool) (W : World) : Prop where
  b0 : Boxed W w.heap.size 36 (.int .u64 m)
  b1 : Boxed W (w.heap.size + 1) 3 (.int .i64 most)
  b2 : Boxed W (w.heap.size + 1 + 1) 4 (.bool r)
  b5 : Boxed W q 3 (.int .i64 a)
  b6 : Boxed W (q + 1) 3 (.int .i64 k)
  below : Below w.heap.size w W
  hq : w.heap.size + 3 ≤ q
theorem boxed_other {W : World} {B b : Nat} {t : TypeId} {v : Value} (h : Boxed W B t v) (hne : B ≠ b) (u : Value) : Boxed (W.setCell ⟨b, 0, none⟩ u) B t v := h.kept (grownBy_setCell' W b u) (by simp; omega)
theorem BW.set5 {w W : World} {q m : Nat} {most : Int} {a k : Nat} {r : Bool} (h : BW w q m most a k r W) (a' : Nat) : BW w q m most a' k r (W.setCell ⟨q, 0, none⟩ (.int .i64 a')) := by
  have := h.hq
  exact ⟨boxed_other h.b0 (by omega) _, boxed_other h.b1 (by omega) _, boxed_other h.b2 (by omega) _, h.b5.set _, boxed_other h.b6 (by omega) _, h.below.setCell (p := ⟨q, 0, none⟩) (by simp; omega) _, h.hq⟩
theorem BW.set6 {w W : World} {q m : Nat} {most : Int} {a k : Nat} {r : Bool} (h : BW w q m most a k r W) (k' : Nat) : BW w q m most a k' r (W.setCell ⟨q + 1, 0, none⟩ (.int .i64 k')) := by
  have := h.hq
  exact ⟨boxed_other h.b0 (by omega) _, boxed_other h.b1 (by omega) _, boxed_other h.b2 (by omega) _, boxed_other h.b5 (by omega) _, h.b6.set _, h.below.setCell (p := ⟨q + 1, 0, none⟩) (by simp; omega) _, h.hq⟩
theorem BW.set2 {w W : World} {q m : Nat} {most : Int} {a k : Nat} {r : Bool} (h : BW w q m most a k r W) (r' : Bool) : BW w q m most a k r' (W.setCell ⟨w.heap.size + 1 + 1, 0, none⟩ (.bool r')) := by
  have := h.hq
  exact ⟨boxed_other h.b0 (by omega) _, boxed_other h.b1 (by omega) _, h.b2.set _, boxed_other h.b5 (by omega) _, boxed_other h.b6 (by omega) _, h.below.setCell (p := ⟨w.heap.size + 1 + 1, 0, none⟩) (by simp; omega) _, h.hq⟩
theorem BW.own {w W W' : World} {q m : Nat} {most : Int} {a k : Nat} {r : Bool} {row : Option Nat} (h : BW w q m most a k r W) (hg : W.grownBy W' row) (hr : ∀ x, row = some x → w.heap.size ≤ x ∧ ∃ o : Obj, W.heap[x]? = some o ∧ o.isCells = false) : BW w q m most a k r W' := by
  have nb : ∀ {B t v}, Boxed W B t v → Boxed W' B t v := fun {B t v} hb => hb.kept hg (fun e' => by obtain ⟨_, o, ho, hc⟩ := hr _ e'.symm; rw [show W.heap[B]? = _ from hb] at ho; cases ho; cases hc)
  exact ⟨nb h.b0, nb h.b1, nb h.b2, nb h.b5, nb h.b6, h.below.grown hg h.below.size (fun x e => (hr x e).1), h.hq⟩
theorem BW.cells {w W : World} {q m : Nat} {most : Int} {a k : Nat} {r : Bool} (h : BW w q m most a k r W) : W.cell? ⟨w.heap.size, 0, none⟩ = some (.int .u64 m) ∧ W.cell? ⟨w.heap.size + 1, 0, none⟩ = some (.int .i64 most) ∧ W.cell? ⟨w.heap.size + 1 + 1, 0, none⟩ = some (.bool r) ∧
    W.cell? ⟨q, 0, none⟩ = some (.int .i64 a) ∧ W.cell? ⟨q + 1, 0, none⟩ = some (.int .i64 k) ∧ W.frozen? ⟨w.heap.size + 1 + 1, 0, none⟩ = false ∧ W.frozen? ⟨q, 0, none⟩ = false ∧ W.frozen? ⟨q + 1, 0, none⟩ = false :=
  ⟨h.b0.cell, h.b1.cell, h.b2.cell, h.b5.cell, h.b6.cell, h.b2.frozen, h.b5.frozen, h.b6.frozen⟩
/-- how far the place is from the end -/
def muB (q : Nat) (wr : World) : Nat := 64 - (intOf ((wr.cell? ⟨q, 0, none⟩).getD undef)).toNat
theorem muB_at {w W : World} {q m : Nat} {most : Int} {a k : Nat} {r : Bool} (h : BW w q m most a k r W) : muB q W = 64 - a := by unfold muB; rw [h.b5.cell]; simp [intOf]

/-- the next bit behind a prefix -/
theorem prefix_next {m a x : Nat} {l : List Nat} (h : (l ++ [x]) <+: bitsOf m) (ha : l <+: bitsOf m → ∃ t, bitsOf m = l ++ t ∧ ∀ y ∈ t, a ≤ y) : a ≤ x ∧ (∀ i, a ≤ i → i < x → m.testBit i = true → i ∈ l) := by
  obtain ⟨t, ht⟩ := h
  have hl : l <+: bitsOf m := ⟨[x] ++ t, by rw [← ht, List.append_assoc]⟩
  obtain ⟨t2, h2, h3⟩ := ha hl
  have he : t2 = x :: t := by
    rw [List.append_assoc] at ht
    exact (List.append_cancel_left (ht.trans h2)).symm
  subst he
  refine ⟨h3 x (by simp), fun i _ hi hb => ?_⟩
  have hx64 : i ∈ bitsOf m := by
    have hx : x ∈ bitsOf m := by rw [h2]; simp
    exact mem_bitsOf.2 ⟨by have := (mem_bitsOf.1 hx).1; omega, hb⟩
  rw [h2, List.mem_append] at hx64
  rcases hx64 with h4 | h4
  · exact h4
  · exfalso
    have hsort : (bitsOf m).Pairwise (· < ·) := by unfold bitsOf; exact List.Pairwise.filter _ List.pairwise_lt_range
    rw [h2] at hsort
    have := (List.pairwise_append.1 hsort).2.1
    rcases List.mem_cons.1 h4 with e | e
    · omega
    · have := (List.pairwise_cons.1 this).1 i e
      omega
/-- what holds of the place behind the bits l -/
def After (m a : Nat) (l : List Nat) : Prop := (∀ y ∈ l, y < a) ∧ (l <+: bitsOf m → ∃ t, bitsOf m = l ++ t ∧ ∀ y ∈ t, a ≤ y)
theorem after_nil (m : Nat) : After m 0 [] := ⟨by simp, fun _ => ⟨bitsOf m, rfl, fun _ _ => Nat.zero_le _⟩⟩
theorem after_gap {m a x : Nat} {l : List Nat} (h : After m a l) (hp : (l ++ [x]) <+: bitsOf m) : a ≤ x ∧ ∀ i, a ≤ i → i < x → m.testBit i = false := by
  obtain ⟨h1, h2⟩ := prefix_next hp h.2
  refine ⟨h1, fun i hi hx => ?_⟩
  cases hb : m.testBit i with
  | false => rfl
  | true => have := h.1 i (h2 i hi hx hb); omega
theorem after_step {m a x : Nat} {l : List Nat} (h : After m a l) (hax : a ≤ x) : After m (x + 1) (l ++ [x]) := by
  refine ⟨fun y hy => ?_, fun hp => ?_⟩
  · rcases List.mem_append.1 hy with h1 | h1
    · have := h.1 y h1; omega
    · simp at h1; omega
  · obtain ⟨t, ht⟩ := hp
    refine ⟨t, ht.symm, fun y hy => ?_⟩
    have hsort : (bitsOf m).Pairwise (· < ·) := by unfold bitsOf; exact List.Pairwise.filter _ List.pairwise_lt_range
    rw [← ht, List.append_assoc] at hsort
    have := (List.pairwise_append.1 hsort).2.1
    exact (List.pairwise_cons.1 this).1 y hy
theorem after_end {m a : Nat} {l : List Nat} (_hm : m < 18446744073709551616) (h : After m a l) (he : l = bitsOf m) : ∀ i, a ≤ i → i < 64 → m.testBit i = false := by
  intro i hi h64
  cases hb : m.testBit i with
  | false => rfl
  | true =>
    have hx := mem_bitsOf.2 ⟨h64, hb⟩
    rw [← he] at hx
    have := h.1 i hx
    omega

/-- what the law's loop keeps, and how it stops -/
def JB (w : World) (q m : Nat) (most : Int) (pre : List (BitT m)) (W : World) : Prop := ∃ a, a ≤ 64 ∧ After m a (pre.map (·.1)) ∧ BW w q m most a pre.length false W
def XB (w : World) (q m : Nat) (most : Int) (c' : Code) (pre : List (BitT m)) (W : World) : Prop := c' = .ret ∧ ∃ a k r, (pre.map (·.1) <+: bitsOf m → r = true) ∧ BW w q m most a k r W

set_option maxRecDepth 100000 in
set_option maxHeartbeats 8000000 in
theorem bits_walk (m : Nat) (most : Int) (w : World) (hm : m < 18446744073709551616) (hT : Tab w) (hg : 0 < w.heap.size) :
    Calls Tryd.prog 7 #[.int .u64 m, .int .i64 most] w fun e W' => e = .returned (.bool true) ∧ Below w.heap.size w W' := by
  refine (callsIn_wide (n := 12)).1 ?_
  have HT := Lib.hid hT
  clear hT
  have c0 := ((Boxed.new w 36 (.int .u64 m)).alloc (.cells #[.int .i64 most] 3)).alloc (.cells #[.bool false] 4)
  have c1 := (Boxed.new (w.alloc (.cells #[.int .u64 m] 36)) 3 (.int .i64 most)).alloc (.cells #[.bool false] 4)
  have c2 := Boxed.new ((w.alloc (.cells #[.int .u64 m] 36)).alloc (.cells #[.int .i64 most] 3)) 4 (.bool false)
  simp only [World.size_alloc] at c1 c2
  have hb3 := (((Below.refl w.heap.size w).alloc (Nat.le_refl _) (.cells #[.int .u64 m] 36)).alloc (by simp) (.cells #[.int .i64 most] 3)).alloc (by simp; omega) (.cells #[.bool false] 4)
  have hs3 : (((w.alloc (.cells #[.int .u64 m] 36)).alloc (.cells #[.int .i64 most] 3)).alloc (.cells #[.bool false] 4)).heap.size = w.heap.size + 3 := by simp
  have HC0 := Lib.hid c0
  have HC1 := Lib.hid c1
  have HC2 := Lib.hid c2
  have HB3 := Lib.hid hb3
  have HS3 := Lib.hid hs3
  have HF := Lib.hid (fixed_any _ (HT.out.below hb3 hg) (by rw [hs3]; omega))
  clear c0 c1 c2 hb3 hs3
  refine callsIn_of_wp_marks Tryd.func7 rfl trivial ?_ rfl
  simp only [Tryd.ntmps7, List.size_toArray, List.length_cons, List.length_nil, Nat.reduceAdd, Nat.reduceSub, Array.replicate_succ, Array.replicate_zero, List.push_toArray, List.append_toArray, List.nil_append, List.cons_append]
  gi_wp2
  refine ⟨trivial, (callsIn_wide.2 HF.out).mono ?_⟩
  rintro e W1 ⟨rfl, hb⟩
  have hsz1 := hb.size
  rw [HS3.out] at hsz1
  have kb : ∀ {B t v}, Boxed (((w.alloc (.cells #[.int .u64 m] 36)).alloc (.cells #[.int .i64 most] 3)).alloc (.cells #[.bool false] 4)) B t v → Boxed W1 B t v := fun {B t v} h => (hb.block B h.lt).trans h
  have HW := Lib.hid (show BW w W1.heap.size m most 0 0 false (((W1.alloc (.cells #[.int .i64 0] 3)).alloc (.cells #[.int .i64 0] 3)).alloc (.cells #[.int .u64 m] 36)) from
    ⟨(((kb HC0.out).alloc _).alloc _).alloc _, (((kb HC1.out).alloc _).alloc _).alloc _, (((kb HC2.out).alloc _).alloc _).alloc _, ((Boxed.new W1 3 (.int .i64 0)).alloc _).alloc _, (by have := (Boxed.new (W1.alloc (.cells #[.int .i64 0] 3)) 3 (.int .i64 0)).alloc (.cells #[.int .u64 m] 36); simpa using this),
      (((HB3.out.trans (hb.mono HB3.out.size)).alloc (by omega) _).alloc (by simp; omega) _).alloc (by simp; omega) _, hsz1⟩)
  have x0 := (kb HC0.out).cell
  have x0' := cellOn (.cells #[.int .i64 0] 3) (cellOn (.cells #[.int .i64 0] 3) x0)
  clear hb HF kb x0
  gi_wp2
  refine ⟨trivial, (callsIn_wide.2 (bits_any _ _)).mono ?_⟩
  rintro e w' ⟨rfl, rfl⟩
  have e5 := (cellNew ((W1.alloc (.cells #[.int .i64 0] 3)).alloc (.cells #[.int .i64 0] 3)) (.int .u64 m) 36).1
  have hsL : (((W1.alloc (.cells #[.int .i64 0] 3)).alloc (.cells #[.int .i64 0] 3)).alloc (.cells #[.int .u64 m] 36)).heap.size = W1.heap.size + 3 := by simp
  simp only [World.size_alloc] at e5 ⊢
  clear x0'
  generalize (((W1.alloc (.cells #[.int .i64 0] 3)).alloc (.cells #[.int .i64 0] 3)).alloc (.cells #[.int .u64 m] 36)) = WL at *
  generalize W1.heap.size = q at *
  clear W1 HC0 HC1 HC2 HB3 HS3
  have HSL := Lib.hid hsL
  clear hsL
  gi_wp2
  refine wpIn_rangeFunc_ownF rfl (by omega) (gf := 39) (lb := #[.pointer (some ⟨q + 1 + 1, 0, none⟩)]) rfl trivial (enters_of Tryd.func39 (by kernel_rfl) rfl)
    (bits_stops 11 (by omega) (q + 1 + 1) w.heap.size m hm (by omega) WL (by have := HSL.out; omega) (by have := HSL.out; omega) e5 (HT.out.below HW.out.below (by omega))) belowK_t (belowK_b (by have := HSL.out; omega)) (Below.refl _ _) (fun _ => rfl)
    (JB w q m most) (XB w q m most)
    (fun s A B row hs hg hr => by
      obtain ⟨a, h1, h2, h3⟩ := hs
      exact ⟨a, h1, h2, h3.own hg (fun x e => ⟨by have := (hr x e).1; have := HSL.out; omega, (hr x e).2⟩)⟩)
    (fun c' s A B row hs hg hr => by
      obtain ⟨h0, a, k, r, h1, h3⟩ := hs
      exact ⟨h0, a, k, r, h1, h3.own hg (fun x e => ⟨by have := (hr x e).1; have := HSL.out; omega, (hr x e).2⟩)⟩)
    ⟨0, by omega, after_nil m, HW.out⟩ ?a1 ?assign ?body ?done ?stop
  case assign =>
    intro l x W K hK
    gi_wp2
    exact hK
  case body =>
    rintro l pre ⟨x, hx⟩ W ⟨a, ha, haf, hbw⟩ hpl
    obtain ⟨hx64, hxb⟩ := mem_bitsOf.1 hx
    have hmap : (pre ++ [(⟨x, hx⟩ : BitT m)]).map (·.1) = pre.map (·.1) ++ [x] := by simp
    have hlen : (pre ++ [(⟨x, hx⟩ : BitT m)]).length = pre.length + 1 := by simp
    -- the ends
    have HFALSE := Lib.hid (show ∀ wr a' k', ¬ (pre.map (·.1) ++ [x]) <+: bitsOf m → KeepsOthers W wr → BW w q m most a' k' false wr → ownPostK (Below w.heap.size) (JB w q m most) (XB w q m most) (pre ++ [(⟨x, hx⟩ : BitT m)]) W Exit.ret { tmps := #[], defers := [] } (wr.setCell ⟨w.heap.size + 1 + 1, 0, none⟩ (.bool false)) from
      fun wr a' k' hn hk hbw => ⟨hk.trans (KeepsOthers.setCell wr ⟨w.heap.size + 1 + 1, 0, none⟩ _), rfl, a', k', false, fun h => absurd (by rw [hmap] at h; exact h) hn, hbw.set2 false⟩)
    have HTRUE := Lib.hid (show ∀ wr a' k', KeepsOthers W wr → BW w q m most a' k' false wr → ownPostK (Below w.heap.size) (JB w q m most) (XB w q m most) (pre ++ [(⟨x, hx⟩ : BitT m)]) W Exit.ret { tmps := #[], defers := [] } (wr.setCell ⟨w.heap.size + 1 + 1, 0, none⟩ (.bool true)) from
      fun wr a' k' hk hbw => ⟨hk.trans (KeepsOthers.setCell wr ⟨w.heap.size + 1 + 1, 0, none⟩ _), rfl, a', k', true, fun _ => rfl, hbw.set2 true⟩)
    have HON := Lib.hid (show ∀ wr, a ≤ x → KeepsOthers W wr → Below w.heap.size W wr → BW w q m most (x + 1) (pre.length + 1) false wr → ownPostK (Below w.heap.size) (JB w q m most) (XB w q m most) (pre ++ [(⟨x, hx⟩ : BitT m)]) W Exit.normal { tmps := #[], defers := [] } wr from
      fun wr hax hk hb hbw => ⟨hk, hb, x + 1, by omega, by rw [hmap]; exact after_step haf hax, by rw [hlen]; exact hbw⟩)
    have HGAP := Lib.hid (show (pre.map (·.1) ++ [x]) <+: bitsOf m → a ≤ x ∧ ∀ i, a ≤ i → i < x → m.testBit i = false from fun h => after_gap haf h)
    have HBWh := Lib.hid hbw
    have hpl64 : pre.length < 64 := hpl
    clear hmap hlen haf
    generalize pre.map (·.1) = L at *
    generalize pre.length = K0 at *
    obtain ⟨y0, y1, y2, y5, y6, z2, z5, z6⟩ := hbw.cells
    clear hbw hpl
    by_cases hax : a ≤ x
    · gi_wp2
      gi_loopw [] (fun wr => ∃ j : Nat, a ≤ j ∧ j ≤ x ∧ Hid (∀ i, a ≤ i → i < j → m.testBit i = false) ∧ Hid (BW w q m most j K0 false wr ∧ KeepsOthers W wr ∧ Below w.heap.size W wr)) (fun wr => muB q wr)
      case atStart => exact ⟨a, Nat.le_refl _, hax, Lib.hid (fun i h1 h2 => by omega), Lib.hid ⟨HBWh.out, KeepsOthers.refl W, Below.refl _ W⟩⟩
      case round =>
        clear y0 y1 y2 y5 y6 z2 z5 z6
        obtain ⟨j, hj1, hj2, HG, HB⟩ := hrel
        obtain ⟨y0, y1, y2, y5, y6, z2, z5, z6⟩ := HB.out.1.cells
        by_cases hlt : j < x
        · have HBI := Lib.hid (Bit_ref m j hm (by omega) wr)
          cases hb : m.testBit j with
          | true =>
            rw [hb] at HBI
            have HE := Lib.hid (HFALSE.out wr _ _ (fun h => by have := (HGAP.out h).2 j hj1 hlt; rw [hb] at this; cases this) HB.out.2.1 HB.out.1)
            clear hb
            gi_wp2
            refine ⟨trivial, (CallsIn.inRound l (callsIn_wide.2 HBI.out)).mono ?_⟩
            rintro e w' ⟨rfl, rfl⟩
            gi_wp2
            exact HE.out
          | false =>
            rw [hb] at HBI
            have HG2 := Lib.hid (show ∀ i, a ≤ i → i < j + 1 → m.testBit i = false from fun i h1 h2 => by
              by_cases e : i = j
              · subst e; exact hb
              · exact HG.out i h1 (by omega))
            have HE := Lib.hid (show BW w q m most (j + 1) K0 false (wr.setCell ⟨q, 0, none⟩ (.int .i64 (j + 1 : Nat))) ∧ KeepsOthers W (wr.setCell ⟨q, 0, none⟩ (.int .i64 (j + 1 : Nat))) ∧ Below w.heap.size W (wr.setCell ⟨q, 0, none⟩ (.int .i64 (j + 1 : Nat))) from
              ⟨HB.out.1.set5 (j + 1), HB.out.2.1.trans (KeepsOthers.setCell wr ⟨q, 0, none⟩ _), HB.out.2.2.setCell (p := ⟨q, 0, none⟩) (by have := HB.out.1.hq; simp; omega) _⟩)
            have HMU := Lib.hid (muB_at HB.out.1)
            clear hb
            gi_wp2
            refine ⟨trivial, (CallsIn.inRound l (callsIn_wide.2 HBI.out)).mono ?_⟩
            rintro e w' ⟨rfl, rfl⟩
            gi_wp2
            exact ⟨⟨j + 1, by omega, by omega, HG2, HE⟩, by rw [HMU.out]; have := muB_at HE.out.1; have e : ((j + 1 : Nat) : Int) = (j : Int) + 1 := rfl; rw [e] at this; rw [this]; omega⟩
        · obtain rfl : j = x := by omega
          have d1 : decide ((j : Int) < 0) = false := by simp
          have d2 : decide ((63 : Int) < (j : Int)) = false := by simp; omega
          have HBI := Bit_ref m j hm (by omega) wr
          rw [hxb] at HBI
          have HBI := Lib.hid HBI
          have hw1 : BW w q m most (j + 1) K0 false (wr.setCell ⟨q, 0, none⟩ (.int .i64 ((j : Int) + 1))) := HB.out.1.set5 (j + 1)
          have hw2 : BW w q m most (j + 1) (K0 + 1) false ((wr.setCell ⟨q, 0, none⟩ (.int .i64 ((j : Int) + 1))).setCell ⟨q + 1, 0, none⟩ (.int .i64 ((K0 : Int) + 1))) := hw1.set6 (K0 + 1)
          have hk2 : KeepsOthers W ((wr.setCell ⟨q, 0, none⟩ (.int .i64 ((j : Int) + 1))).setCell ⟨q + 1, 0, none⟩ (.int .i64 ((K0 : Int) + 1))) := (HB.out.2.1.trans (KeepsOthers.setCell wr ⟨q, 0, none⟩ _)).trans (KeepsOthers.setCell _ ⟨q + 1, 0, none⟩ _)
          have hb2 : Below w.heap.size W ((wr.setCell ⟨q, 0, none⟩ (.int .i64 ((j : Int) + 1))).setCell ⟨q + 1, 0, none⟩ (.int .i64 ((K0 : Int) + 1))) := (HB.out.2.2.setCell (p := ⟨q, 0, none⟩) (by have := HB.out.1.hq; simp; omega) _).setCell (p := ⟨q + 1, 0, none⟩) (by have := HB.out.1.hq; simp; omega) _
          have HEN := Lib.hid (HON.out _ hj1 hk2 hb2 hw2)
          have HET := Lib.hid (HTRUE.out _ _ _ hk2 hw2)
          obtain ⟨t0, t1, t2, t5, t6, v2, v5, v6⟩ := hw1.cells
          obtain ⟨r0, r1, r2, r5, r6, s2, s5, s6⟩ := hw2.cells
          have h61 : (K0 : Int) + 1 ≤ 100 := by omega
          clear hw1 hw2 hk2 hb2 hxb
          by_cases h1 : most ≤ (K0 : Int) + 1
          · by_cases h2 : 0 < most
            · gi_wp2
              refine ⟨trivial, (CallsIn.inRound l (callsIn_wide.2 HBI.out)).mono ?_⟩
              rintro e w' ⟨rfl, rfl⟩
              gi_wp2
              exact HET.out
            · have d3 : decide (0 < most) = false := by simpa using h2
              gi_wp2
              refine ⟨trivial, (CallsIn.inRound l (callsIn_wide.2 HBI.out)).mono ?_⟩
              rintro e w' ⟨rfl, rfl⟩
              gi_wp2
              exact HEN.out
          · have d3 : decide (most ≤ (K0 : Int) + 1) = false := by simpa using h1
            gi_wp2
            refine ⟨trivial, (CallsIn.inRound l (callsIn_wide.2 HBI.out)).mono ?_⟩
            rintro e w' ⟨rfl, rfl⟩
            gi_wp2
            exact HEN.out
    · have HE := Lib.hid (HFALSE.out W _ _ (fun h => hax (HGAP.out h).1) (KeepsOthers.refl W) HBWh.out)
      have d1 : decide ((x : Int) < 0) = false := by simp
      have d2 : decide ((63 : Int) < (x : Int)) = false := by simp; omega
      have d3 : ((a : Int) != (x : Int)) = true := by simp; omega
      have d4 : decide ((a : Int) < (x : Int)) = false := by simp; omega
      gi_wp2
      refine wpIn_loop_rounds 1 ?_
      rw [roundsIn_succ]
      gi_wp2
      refine ⟨trivial, ?_⟩
      gi_wp2
      exact HE.out
  case done =>
    rintro D ys W hD hys ⟨a, ha, haf, hbw⟩ hK
    have HZ := Lib.hid (after_end hm haf hys)
    have HI := Lib.hid hbw
    obtain ⟨y0, y1, y2, y5, y6, z2, z5, z6⟩ := hbw.cells
    clear haf hys hbw
    gi_wp2
    gi_loopw [] (fun wr => ∃ j : Nat, a ≤ j ∧ j ≤ 64 ∧ Hid (BW w q m most j ys.length false wr ∧ KeepsOthers W wr)) (fun wr => muB q wr)
    case atStart => exact ⟨a, Nat.le_refl _, ha, Lib.hid ⟨HI.out, KeepsOthers.refl W⟩⟩
    case round =>
      clear y0 y1 y2 y5 y6 z2 z5 z6
      obtain ⟨j, hj1, hj2, HB⟩ := hrel
      obtain ⟨y0, y1, y2, y5, y6, z2, z5, z6⟩ := HB.out.1.cells
      by_cases hlt : j < 64
      · have HBI := Bit_ref m j hm hlt wr
        rw [HZ.out j hj1 hlt] at HBI
        have HBI := Lib.hid HBI
        have HE := Lib.hid (show BW w q m most (j + 1) ys.length false (wr.setCell ⟨q, 0, none⟩ (.int .i64 ((j : Int) + 1))) ∧ KeepsOthers W (wr.setCell ⟨q, 0, none⟩ (.int .i64 ((j : Int) + 1))) from
          ⟨HB.out.1.set5 (j + 1), HB.out.2.trans (KeepsOthers.setCell wr ⟨q, 0, none⟩ _)⟩)
        have HMU := Lib.hid (muB_at HB.out.1)
        gi_wp2
        refine ⟨trivial, (callsIn_wide.2 HBI.out).mono ?_⟩
        rintro e w' ⟨rfl, rfl⟩
        gi_wp2
        exact ⟨⟨j + 1, by omega, by omega, HE⟩, by rw [HMU.out, muB_at HE.out.1]; omega⟩
      · have HE := Lib.hid (HB.out.1.set2 true)
        have HK2 := Lib.hid ((HB.out.2.trans (KeepsOthers.setCell wr ⟨w.heap.size + 1 + 1, 0, none⟩ (.bool true))).same D _ hK rfl)
        gi_wp2
        refine ⟨by simp, .inl ⟨_, _, rfl, run_takeDeferred HK2.out, ?_⟩⟩
        have hc5 := cell_kept HE.out.b2.cell (grownBy_putObj' _ D (.deferred none)) (fun r e => by cases e; exact ⟨_, HK2.out, rfl⟩)
        refine ⟨.bool true, ?_, rfl, HE.out.below.trans (belowK_b (w := w) (Nat.le_refl _) _ D _ _ (by have := HSL.out; have := HE.out.hq; omega) HK2.out rfl rfl)⟩
        simp [results, Tryd.f7, go_sem, hc5]
  case stop =>
    rintro D c' pre W hD hpre ⟨rfl, a, k, r, h1, hbw⟩ hK
    obtain rfl := h1 hpre
    gi_wp2
    refine ⟨by simp, .inl ⟨_, _, rfl, run_takeDeferred hK, ?_⟩⟩
    have hc5 := cell_kept hbw.b2.cell (grownBy_putObj' _ D (.deferred none)) (fun r e => by cases e; exact ⟨_, hK, rfl⟩)
    refine ⟨.bool true, ?_, rfl, hbw.below.trans (belowK_b (w := w) (Nat.le_refl _) _ D _ _ (by have := HSL.out; have := hbw.hq; omega) hK rfl rfl)⟩
    simp [results, Tryd.f7, go_sem, hc5]
end Go.Proofs.YtkgcloggnnjioaaDoor
