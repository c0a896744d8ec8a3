/-
  Contracts: math/bits.TrailingZeros64; poset.Bits and its iterator.
-/
import Derived.Test.YtmaonifhimgcjaaDoorBitsA
import Derived.Test.YtmaonifhimgcjaaDoorBas
import Derived.Laws.Bits64b
import Derived.RangeFuncNested
import Derived.RangeFuncBound
import Derived.RangeFuncCalls
import Derived.RangeFuncLeaves
import Derived.RangeFuncFrom
import Derived.Shelf.Abstract
import Derived.Shelf.RegionOpen
import Derived.OwnWalkIn
import Derived.TacticsInMore
import Derived.LoopNIn
import Derived.LoopIn
import Derived.Shelf.Spec.TrailingZeros
namespace Go.Proofs.YtmaonifhimgcjaaDoor
open Go.RowKit Go.Shelf

/-- the library's table, in its variable -/
def Tab (w : World) : Prop := ∀ j, j < Lib.deBruijn64tab.length → w.cell? ⟨1, j, none⟩ = some (.int .u8 (Lib.deBruijn64tab.getD j 0))
theorem tz_core (x k idx : Nat) (w : World) (hx0 : ((x : Int) == 0) = false)
    (key : IntKind.u64.wrap (bits BinOp.and IntKind.u64 (x : Int) (IntKind.u64.wrap (-(x : Int))) * 285870213051353865) / 288230376151711744 = (idx : Int))
    (hi : idx < 64) (hk : k < 64) (hcell : w.cell? ⟨1, idx, none⟩ = some (.int .u8 k)) :
    Calls Tryd.prog 59 #[.int .u64 x] w fun e w' => e = .returned (.int .i64 k) ∧ w = w' := by
  go_enter Tryd.func59, Tryd.ntmps59
  go_wp2_with (simp only [key])
  go_ret
  exact ⟨rfl, rfl⟩
theorem tz_any (x : Nat) (h0 : x ≠ 0) (hx : x < 18446744073709551616) (w : World) (hT : Tab w) :
    Calls Tryd.prog 59 #[.int .u64 x] w fun e w' => e = .returned (.int .i64 (Lib.ctz 64 x)) ∧ w = w' := by
  obtain ⟨hlow, hk⟩ := Lib.lowest_bit 64 x h0 hx
  obtain ⟨hi, htab⟩ := Lib.deBruijn64_at _ hk
  have hcell := hT _ hi
  rw [htab] at hcell
  exact tz_core x _ _ w (by rw [beq_eq_false_iff_ne]; omega) (tz64_key x _ hx h0 hlow) hi hk hcell

/-- Bits hands back a function value that has boxed the mask -/
theorem bits_any (m : Int) (w : World) : Calls Tryd.prog 47 #[.int .u64 m] w fun e w' => e = .returned (.func (.func 58) #[] #[.pointer (some ⟨w.heap.size, 0, none⟩)]) ∧ w' = w.alloc (.cells #[.int .u64 m] 48) := by
  go_enter Tryd.func47, Tryd.ntmps47
  go_wp2_with fail
  go_ret
  exact ⟨rfl, rfl⟩

/-- a bit of a mask -/
abbrev BitT (m : Nat) : Type := { x : Nat // x ∈ bitsOf m }
theorem Tab.below {w w' : World} {B : Nat} (h : Tab w) (hb : Below B w w') (hB : 1 < B) : Tab w' := fun j hj => by
  rw [hb.cell (p := ⟨1, j, none⟩) hB]; exact h j hj
theorem clr_val (r : Nat) (h0 : r ≠ 0) (h : r < 18446744073709551616) : bits .and .u64 (r : Int) ((r : Int) - 1) = ((clr r : Nat) : Int) := by
  rw [show (r : Int) - 1 = ((r - 1 : Nat) : Int) by omega, bits_and_u64_nat _ _ h (by omega)]; rfl

set_option maxRecDepth 100000 in
set_option maxHeartbeats 2000000 in
theorem bits1_in (n : Nat) (hn : 1 ≤ n) (l Bs n₀ m : Nat) (hm : m < 18446744073709551616) (hn0 : 1 < n₀) (J Jx : List (BitT m) → World → Prop)
    (hY : ∀ pre (x : BitT m) W, J pre W → pre.length < 64 → YieldAt Fence.wide (n - 1) Tryd.prog l #[.int .i64 x.1] W fun e W' =>
      (e = .returned (.bool true) ∧ J (pre ++ [x]) W' ∧ Below n₀ W W') ∨ (e = .returned (.bool false) ∧ Jx (pre ++ [x]) W'))
    (W : World) (hBs : W.cell? ⟨Bs, 0, none⟩ = some (.int .u64 m)) (hT : Tab W) (h0 : J [] W) :
    CallsIn Fence.wide n Tryd.prog 58 #[.func (.yield l) #[] #[], .pointer (some ⟨Bs, 0, none⟩)] W fun e W' => (∃ v, e = .returned v) ∧
      ((∃ ys : List (BitT m), ys.map (·.1) = bitsOf m ∧ J ys W') ∨ (∃ pre : List (BitT m), pre.map (·.1) <+: bitsOf m ∧ Jx pre W')) := by
  refine callsIn_of_wp Tryd.func58 rfl trivial ?_ rfl
  simp only [Tryd.ntmps58, List.size_toArray, List.length_cons, List.length_nil, Nat.reduceAdd, Nat.reduceSub, Array.replicate_succ, Array.replicate_zero, List.push_toArray, List.append_toArray, List.nil_append, List.cons_append]
  gi_wp2
  gi_loopw [3] (fun i wr => ∃ (r : Nat) (pre : List (BitT m)), i = .int .u64 r ∧ r < 18446744073709551616 ∧ Hid (bitsOf m = pre.map (·.1) ++ bitsOf r) ∧ J pre wr ∧ Below n₀ W wr)
    (fun i _ => (bitsOf (intOf i).toNat).length)
  case atStart => exact ⟨m, [], rfl, hm, Lib.hid rfl, h0, Below.refl _ _⟩
  case round =>
    obtain ⟨r, pre, rfl, hr, HB, hJs, hnx⟩ := hrel
    by_cases hz : r = 0
    · subst hz
      have hall : bitsOf m = pre.map (·.1) := by have := HB.out; rw [bitsOf_zero, List.append_nil] at this; exact this
      gi_wp2
      go_end0
      exact ⟨⟨_, rfl⟩, .inl ⟨pre, hall.symm, hJs⟩⟩
    · have hcons := bitsOf_cons r hz hr
      have hmem : Lib.ctz 64 r ∈ bitsOf m := by rw [HB.out, hcons]; simp
      have hlen : pre.length < 64 := by
        have h1 := bitsOf_len m
        have h2 := congrArg List.length HB.out
        rw [hcons] at h2; simp at h2; omega
      have HN := Lib.hid (show bitsOf m = (pre ++ [(⟨Lib.ctz 64 r, hmem⟩ : BitT m)]).map (·.1) ++ bitsOf (clr r) by refine HB.out.trans ?_; rw [hcons]; simp)
      have HM := Lib.hid (show (bitsOf (clr r)).length < (bitsOf r).length by rw [hcons]; simp)
      obtain ⟨fn, tmps, assign, body, hy, hR⟩ := hY pre ⟨Lib.ctz 64 r, hmem⟩ wr hJs hlen
      dsimp only at hy
      have HTZ := Lib.hid (fun wx hx => tz_any r hz hr wx hx)
      have hTr := hT.below hnx hn0
      have hr0 : ((r : Int) != 0) = true := by rw [bne_iff_ne]; omega
      have hcl := clr_val r hz hr
      have hlt := Nat.lt_of_le_of_lt (clr_le r) hr
      have g1 : 0 ≤ (r : Int) - 1 := by omega
      have g2 : (r : Int) - 1 ≤ 18446744073709551615 := by omega
      clear hcons hz
      generalize Lib.ctz 64 r = t at *
      gi_wp2
      refine ⟨trivial, (callsIn_wide.2 (HTZ.out _ hTr)).mono ?_⟩
      rintro e w' ⟨rfl, rfl⟩
      gi_wp2
      refine hR.mono ?_
      rintro e W3 (⟨rfl, hJ3, hk3⟩ | ⟨rfl, hJx3⟩)
      · gi_wp2
        go_roundw
        case rel => exact ⟨clr r, pre ++ [⟨t, hmem⟩], rfl, hlt, HN, hJ3, hnx.trans hk3⟩
        case measure => simp only [intOf]; exact HM.out
      · gi_wp2
        refine bodyPost_ret (results_none rfl _ _ _) rfl ?_
        exact ⟨⟨_, rfl⟩, .inr ⟨pre ++ [⟨t, hmem⟩], ⟨bitsOf (clr r), HN.out.symm⟩, hJx3⟩⟩

theorem bits_stops (n : Nat) (hn : 1 ≤ n) (Bs n₀ m : Nat) (hm : m < 18446744073709551616) (hn0 : 1 < n₀) (w : World) (hBs : Bs < w.heap.size) (_hn₀ : n₀ ≤ w.heap.size) (hc : w.cell? ⟨Bs, 0, none⟩ = some (.int .u64 m)) (hT : Tab w) :
    SeqStopsK Fence.wide n Tryd.prog 58 #[.pointer (some ⟨Bs, 0, none⟩)] (fun x : BitT m => #[.int .i64 x.1]) (Below n₀) (fun ys => ys.map (·.1) = bitsOf m) (fun pre => pre.map (·.1) <+: bitsOf m) 64 w :=
  fun l J Jx W hW _ _ hY h0 => bits1_in n hn l Bs n₀ m hm hn0 J Jx hY W ((hW.cell (p := ⟨Bs, 0, none⟩) hBs).trans hc) (hT.below hW (Nat.lt_of_lt_of_le hn0 _hn₀)) h0
end Go.Proofs.YtmaonifhimgcjaaDoor
