/-
  A log that isn't there: what it answers; the walk of ChainNil.
-/
import Derived.Test.YtmaonifhimgcjaaDoorBits
set_option linter.unusedVariables false
set_option linter.unusedSimpArgs false
namespace Go.Proofs.YtmaonifhimgcjaaDoor
open Go.RowKit Go.Shelf

attribute [local go_sem] Oper.semAt_some

theorem at_nil (label : Int) (w : World) : Calls Tryd.prog 46 #[.pointer none, .int .i64 label] w fun e w' => e = .returned (.pointer none) ∧ w = w' := by
  go_enter Tryd.func46, Tryd.ntmps46
  go_wp2_with fail
  go_ret
  exact ⟨rfl, rfl⟩
theorem all_nil (w : World) : Calls Tryd.prog 48 #[.pointer none] w fun e w' => e = .returned (.func (.func 60) #[] #[.pointer (some ⟨w.heap.size, 0, none⟩)]) ∧ w' = w.alloc (.cells #[.pointer none] 87) := by
  go_enter Tryd.func48, Tryd.ntmps48
  go_wp2_with fail
  go_ret
  exact ⟨rfl, rfl⟩
theorem head_nil (label : Int) (w : World) : Calls Tryd.prog 24 #[.pointer none, .int .i64 label] w fun e w' => e = .returned (.tuple #[.slice none 0 0, .int .i64 1]) ∧ Below w.heap.size w w' := by
  go_enter Tryd.func24, Tryd.ntmps24
  go_wp2_with (go_at_call 46; refine (at_nil _ _).mono ?_; rintro r w1 ⟨rfl, rfl⟩)
  exact bodyPost_ret (results_tmp2 rfl _ _ _) rfl ⟨rfl, Below.refl _ _⟩
theorem len_nil (label : Int) (w : World) : Calls Tryd.prog 25 #[.pointer none, .int .i64 label] w fun e w' => e = .returned (.int .i64 0) ∧ Below w.heap.size w w' := by
  go_enter Tryd.func25, Tryd.ntmps25
  go_wp2_with (go_at_call 46; refine (at_nil _ _).mono ?_; rintro r w1 ⟨rfl, rfl⟩)
  go_ret
  exact ⟨rfl, Below.refl _ _⟩

/-- nil has none -/
theorem none_stops (n n₀ Bs : Nat) (w : World) (hBs : Bs < w.heap.size) (hc : w.cell? ⟨Bs, 0, none⟩ = some (.pointer none)) :
    SeqStopsK Fence.wide n Tryd.prog 60 #[.pointer (some ⟨Bs, 0, none⟩)] (fun _ : Empty => #[undef, undef]) (Below n₀) (fun ys => ys = []) (fun _ => False) 0 w := by
  intro l J Jx W hW _ _ hY h0
  have hc' := (hW.cell (p := ⟨Bs, 0, none⟩) hBs).trans hc
  clear hc
  show CallsIn Fence.wide n Tryd.prog 60 #[.func (.yield l) #[] #[], .pointer (some ⟨Bs, 0, none⟩)] W fun e W' => (∃ v, e = .returned v) ∧ ((∃ xs : List Empty, xs = [] ∧ J xs W') ∨ (∃ pre : List Empty, False ∧ Jx pre W'))
  refine callsIn_of_wp Tryd.func60 rfl trivial ?_ rfl
  simp only [Tryd.ntmps60, List.size_toArray, List.length_cons, List.length_nil, Nat.reduceAdd, Nat.reduceSub, Array.replicate_succ, Array.replicate_zero, List.push_toArray, List.append_toArray, List.nil_append, List.cons_append]
  gi_wp2
  refine bodyPost_ret (results_none rfl _ _ _) rfl ?_
  exact ⟨⟨_, rfl⟩, h0⟩

set_option maxRecDepth 100000 in
set_option maxHeartbeats 4000000 in
/-- the lines of a log that isn't there: none, whatever the mask -/
theorem lines_nil (m : Nat) (hm : m < 18446744073709551616) (w : World) (hT : Tab w) (hg : 1 < w.heap.size) :
    Calls Tryd.prog 26 #[.pointer none, .int .u64 m] w fun e W' => e = .returned (.slice none 0 0) ∧ Below w.heap.size w W' := by
  refine (callsIn_wide (n := 12)).1 ?_
  refine callsIn_of_wp_marks Tryd.func26 rfl trivial ?_ rfl
  simp only [Tryd.ntmps26, List.size_toArray, List.length_cons, List.length_nil, Nat.reduceAdd, Nat.reduceSub, Array.replicate_succ, Array.replicate_zero, List.push_toArray, List.append_toArray, List.nil_append, List.cons_append]
  gi_wp2
  refine ⟨trivial, (callsIn_wide.2 (bits_any _ _)).mono ?_⟩
  rintro e w' ⟨rfl, rfl⟩
  gi_wp2
  have bL := ((Boxed.new w 44 (.pointer none)).alloc (.cells #[.slice none 0 0] 54)).alloc (.cells #[.int .u64 m] 48)
  have bA := (Boxed.new (w.alloc (.cells #[.pointer none] 44)) 54 (.slice none 0 0)).alloc (.cells #[.int .u64 m] 48)
  have bM := Boxed.new ((w.alloc (.cells #[.pointer none] 44)).alloc (.cells #[.slice none 0 0] 54)) 48 (.int .u64 m)
  simp only [World.size_alloc] at bA bM
  have hB0 : Below w.heap.size w (((w.alloc (.cells #[.pointer none] 44)).alloc (.cells #[.slice none 0 0] 54)).alloc (.cells #[.int .u64 m] 48)) := (((Below.refl _ w).alloc (Nat.le_refl _) _).alloc (by simp) _).alloc (by simp; omega) _
  have hsz : (((w.alloc (.cells #[.pointer none] 44)).alloc (.cells #[.slice none 0 0] 54)).alloc (.cells #[.int .u64 m] 48)).heap.size = w.heap.size + 3 := by simp
  obtain ⟨W0, hW0⟩ : ∃ W0, (((w.alloc (.cells #[.pointer none] 44)).alloc (.cells #[.slice none 0 0] 54)).alloc (.cells #[.int .u64 m] 48)) = W0 := ⟨_, rfl⟩
  rw [hW0] at bL bA bM hB0 hsz ⊢
  clear hW0
  refine wpIn_rangeFunc_ownH rfl (by omega) (gf := 58) (lb := #[.pointer (some ⟨w.heap.size + 1 + 1, 0, none⟩)]) rfl trivial (enters_of Tryd.func58 (by kernel_rfl) rfl)
    (bits_stops 11 (by omega) (w.heap.size + 1 + 1) w.heap.size m hm hg W0 (by omega) (by omega) bM.cell (hT.below hB0 hg)) belowK_t (belowK_b (by omega)) (Below.refl _ _) (fun _ => rfl)
    (fun pre W => (Boxed W (w.heap.size + 1) 54 (.slice none 0 0) ∧ Boxed W w.heap.size 44 (.pointer none)) ∧ Below w.heap.size w W)
    (fun _ _ _ => False)
    (OwnFrom.and (OwnFrom.and (Own.from (boxed_own _ _ _) _) (Own.from (boxed_own _ _ _) _)) (ownFrom_below (Nat.le_refl _) (by omega)))
    (fun _ _ _ _ _ hs _ _ => hs)
    ⟨⟨bA, bL⟩, hB0⟩
    (fun x a' W => ∃ Bx, w.heap.size + 1 < Bx ∧ Boxed W Bx 3 (.int .i64 x.1) ∧ a' = { tmps := #[.pointer none, .int .u64 m, .pointer (some ⟨w.heap.size, 0, none⟩), undef, .slice none 0 0, .pointer (some ⟨w.heap.size + 1, 0, none⟩), .pointer (some ⟨Bx, 0, none⟩), undef, undef, .int .u64 m, .func (.func 58) #[] #[.pointer (some ⟨w.heap.size + 1 + 1, 0, none⟩)], .int .i64 x.1, undef, undef, undef, undef, undef, undef, undef, undef, undef, undef, undef, undef, undef, undef], defers := [] })
    (fun x a' _ X Y row hs hg hr => by obtain ⟨Bx, h1, h2, h3⟩ := hs; exact ⟨Bx, h1, boxed_own Bx 3 (fun (_ : Unit) => Value.int .i64 x.1) () X Y row h2 hg (fun r e => (hr r e).2), h3⟩)
    ?assign ?body ?done ?stop
  case assign =>
    rintro l pre x W K ⟨⟨bA1, bL1⟩, hB1⟩ hK
    gi_wp2
    exact hK _ _ ((KeepsOthers.alloc _ _).from _) ((Below.refl _ W).alloc hB1.size _) ⟨⟨bA1.alloc _, bL1.alloc _⟩, hB1.alloc hB1.size _⟩ ⟨W.heap.size, bA1.lt, Boxed.new W 3 _, rfl⟩
  case body =>
    rintro l pre x a' W hl ⟨r, hr⟩ ⟨⟨bA1, bL1⟩, hB1⟩ ⟨Bx, hBx, bX, rfl⟩ hlt
    have cL := bL1.cell
    have cX := bX.cell
    gi_wp2
    refine ⟨trivial, (CallsIn.inRound l (callsIn_wide.2 (at_nil _ _))).mono ?_⟩
    rintro e w' ⟨rfl, rfl⟩
    gi_wp2
    refine ⟨trivial, (CallsIn.inRound l (callsIn_wide.2 (all_nil _))).mono ?_⟩
    rintro e w' ⟨rfl, rfl⟩
    gi_wp2
    have hsW := hB1.size
    have bN := Boxed.new W 87 (.pointer none)
    have hr' : (W.alloc (.cells #[.pointer none] 87)).heap[l]? = some (.loop r) := (Below.heap_alloc W _ l (Array.getElem?_eq_some_iff.1 hr).1).trans hr
    refine wpIn_rangeFunc_ownN (l₀ := l) (r₀ := r) rfl hr' (by omega) (gf := 60) (lb := #[.pointer (some ⟨W.heap.size, 0, none⟩)]) rfl trivial (enters_of Tryd.func60 (by kernel_rfl) rfl)
      ((none_stops 9 w.heap.size W.heap.size _ (by simp) bN.cell).inRound l) belowK_t (belowK_b (by simp; omega)) (Below.refl _ _) (fun x => x.elim)
      (fun pre' W' => (Boxed W' (w.heap.size + 1) 54 (.slice none 0 0) ∧ Boxed W' w.heap.size 44 (.pointer none)) ∧ (Below w.heap.size W W' ∧ KeepsFrom W0.heap.size W W'))
      (fun _ _ _ => False)
      (OwnFrom.and (OwnFrom.and (Own.from (boxed_own _ _ _) _) (Own.from (boxed_own _ _ _) _)) (OwnFrom.and (ownFrom_below hsW (by simp; omega)) (ownFrom_keepsFrom (by simp))))
      (fun _ _ _ _ _ hs _ _ => hs)
      ⟨⟨bA1.alloc _, bL1.alloc _⟩, (Below.refl _ W).alloc hsW _, (KeepsOthers.alloc _ _).from _⟩
      (fun y _ _ => y.elim)
      (fun y _ => y.elim)
      ?assign2 ?body2 ?done2 ?stop2
    case assign2 =>
      intro l2 pre' y
      exact y.elim
    case body2 =>
      intro l2 pre' y
      exact y.elim
    case done2 =>
      rintro ys' W' rfl ⟨⟨bA2, bL2⟩, hBW, hKF⟩
      gi_wp2
      exact ⟨hKF, hBW, ⟨bA2, bL2⟩, hB1.trans hBW⟩
    case stop2 =>
      rintro c pre' W' h
      exact h.elim
  case done =>
    rintro D zs W hD _ ⟨⟨bA1, bL1⟩, hB1⟩ hK
    have cA := bA1.cell
    gi_wp2
    refine ⟨by simp, .inl ⟨_, _, rfl, run_takeDeferred hK, ?_⟩⟩
    exact ⟨_, results_tmp rfl _ _ _, rfl, hB1.trans (belowK_b (w := w) (Nat.le_refl _) W D _ _ (by omega) hK rfl rfl)⟩
  case stop =>
    rintro D c pre W _ _ h _
    exact h.elim
end Go.Proofs.YtmaonifhimgcjaaDoor
