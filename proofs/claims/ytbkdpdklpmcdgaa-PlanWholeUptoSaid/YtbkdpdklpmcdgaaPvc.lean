/-
  Contract: the reference's Vars of a flat literal.
-/
import Derived.Test.YtbkdpdklpmcdgaaRfn
set_option linter.unusedVariables false
set_option linter.unusedSimpArgs false
namespace Go.Proofs.Ytbkdpdklpmcdgaa
open Go.Maps Go.ChangeMaps Go.WideMaps Go.RowKit

/-- the reference's names so far, with the literal that is looked at -/
structure RV (w : World) (f : Fl) (xs : List ByteArray) (v : Value) (wn : World) : Prop where
  b : Below w.heap.size w wn
  x : Bk0 wn w.heap.size 24 #[.int .u8 f.kind, .string f.pred, .slice f.ptr f.args.length f.cap]
  row : wn.ownsRow (w.heap.size + 1) 9 1 v xs.length (flatE encS xs)
theorem Bk0.lt {w : World} {b : Nat} {T : TypeId} {cs : Array Value} (h : Bk0 w b T cs) : b < w.heap.size := (Array.getElem?_eq_some_iff.1 h).1
theorem Bk0.three {w : World} {b : Nat} {T : TypeId} {a0 a1 a2 : Value} (h : Bk0 w b T #[a0, a1, a2]) : w.cell? ⟨b, 0, none⟩ = some a0 ∧ w.cell? ⟨b, 1, none⟩ = some a1 ∧ w.cell? ⟨b, 2, none⟩ = some a2 := by
  refine ⟨?_, ?_, ?_⟩ <;> simp [World.cell?, show w.heap[b]? = _ from h]
theorem RV.put {w wn w' : World} {f : Fl} {xs ys : List ByteArray} {v v' : Value} (h : RV w f xs v wn) (hr : w'.ownsRow (w.heap.size + 1) 9 1 v' ys.length (flatE encS ys)) (hb : Below (w.heap.size + 1) wn w') : RV w f ys v' w' :=
  ⟨h.b.trans (hb.mono (Nat.le_succ _)), (hb.block w.heap.size (Nat.lt_succ_self _)).trans h.x, hr⟩

set_option maxHeartbeats 2000000 in
set_option maxRecDepth 100000 in
theorem rfvars_any (f : Fl) (w : World) (ha : Tms w w.heap.size f.ptr f.args) (hl : f.args.length * 16 ≤ 140737488355328) :
    Calls Try.prog 15 #[f.agg] w fun e w' => ∃ q c, e = .returned (.slice q (litN [] f).length c) ∧ Rd encS 1 w' w'.heap.size q (litN [] f) ∧ Below w.heap.size w w' := by
  have HS0 := Lib.hid (show RV w f [] (.slice none 0 0) (w.alloc (.cells #[.int .u8 f.kind, .string f.pred, .slice f.ptr f.args.length f.cap] 24)) from ⟨below1 w _, Bk0.new w _ _, World.ownsRow_nil _ _ _ _⟩)
  have HA := Lib.hid ha
  have hlen : f.args.length ≤ 9223372036854775806 := by omega
  have HR := Lib.hid (show litN [] f = f.args.foldl putT [] from rfl)
  generalize litN [] f = R at *
  unfold Fl.agg
  clear ha
  obtain ⟨kd, pr, p, cp, args⟩ := f
  simp only at HS0 HA hlen HR hl ⊢
  go_enter Try.func15, Try.ntmps15
  go_wp2_with fail
  go_loopw [3, 4] (fun v i wr => ∃ k : Nat, k ≤ args.length ∧ i = .int .i64 k ∧ ((args.take k).foldl putT []).length ≤ k ∧ Hid (RV w ⟨kd, pr, p, cp, args⟩ ((args.take k).foldl putT []) v wr)) (fun _ i _ => args.length - (intOf i).toNat)
  case atStart => exact ⟨0, Nat.zero_le _, rfl, Nat.zero_le _, HS0⟩
  case round =>
    obtain ⟨k, hk, rfl, hcnt, HW⟩ := hrel
    obtain ⟨z0, z1, z2⟩ := (Hid.out HW).x.three
    have hbs : w.heap.size + 1 ≤ wr.heap.size := (Hid.out HW).x.lt
    by_cases hlt : k < args.length
    · obtain ⟨b2, o2, rfl, hbb2, y0, y1, y2⟩ := rdM_at (HA.out.below (Hid.out HW).b (Nat.le_refl _)) k hlt
      have HX := Lib.hid (show (args.take (k + 1)).foldl putT [] = putT ((args.take k).foldl putT []) args[k] from fold_take putT [] args k hlt)
      have hj0 : (0 : Int) ≤ (k : Int) := by omega
      have hj1 : (k : Int) < (args.length : Int) := by omega
      generalize (args.take k).foldl putT [] = Y at *
      generalize args[k] = t at *
      obtain ⟨v, s, n⟩ := t
      simp only at y0 y1 y2
      by_cases hv : v.size = 0
      · have HP := Lib.hid (show putT Y ⟨v, s, n⟩ = Y from if_pos hv)
        have hv1 : ¬ (0 : Int) < (v.size : Int) := by omega
        go_wp2_with fail
        go_roundw
        case rel => exact ⟨k + 1, by omega, by go_num, by rw [HX.out, HP.out]; omega, by rw [HX.out, HP.out]; exact HW⟩
        case measure => simp [intOf]; omega
      · have HP := Lib.hid (show putT Y ⟨v, s, n⟩ = addS Y v from if_neg hv)
        have hv1 : (0 : Int) < (v.size : Int) := by omega
        have HLY := Lib.hid (show (addS Y v).length ≤ k + 1 from Nat.le_trans (by unfold addS; split; exact Nat.le_succ _; simp) (Nat.succ_le_succ hcnt))
        have HPT := Lib.hid (refput_any (w.heap.size + 1) _ Y v wr (Hid.out HW).row hbs (by omega))
        go_wp2_with (go_at_call 25; refine (HPT.out).mono ?_; rintro e w1 ⟨v1, rfl, hr1, hb1, _⟩; have HW1 := Lib.hid ((Hid.out HW).put hr1 hb1); clear hr1 hb1)
        go_roundw
        case rel => exact ⟨k + 1, by omega, by go_num, by rw [HX.out, HP.out]; exact HLY.out, by rw [HX.out, HP.out]; exact HW1⟩
        case measure => simp [intOf]; omega
    · have hke : args.take k = args := List.take_of_length_le (by omega)
      rw [hke, ← HR.out] at HW
      obtain ⟨q', c', rfl, hrd, _⟩ := grw_form ES (.inr (Hid.out HW).row) hbs
      have HRD := Lib.hid hrd
      clear hrd
      go_wp2_with fail
      go_ret
      exact ⟨q', ⟨c', rfl⟩, HRD.out, (Hid.out HW).b⟩
end Go.Proofs.Ytbkdpdklpmcdgaa
