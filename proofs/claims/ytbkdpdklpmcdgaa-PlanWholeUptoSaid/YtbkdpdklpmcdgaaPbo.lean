/-
  The reference's Vars with the row that it makes; what the reference's Bound keeps (RB, Fv).
-/
import Derived.Test.YtbkdpdklpmcdgaaPln
import Derived.Test.YtbkdpdklpmcdgaaPvc
import Derived.StillTailTactics
set_option linter.unusedVariables false
set_option linter.unusedSimpArgs false
namespace Go.Proofs.Ytbkdpdklpmcdgaa
open Go.Maps Go.ChangeMaps Go.WideMaps Go.RowKit

set_option maxHeartbeats 2000000 in
set_option maxRecDepth 100000 in
theorem rfvars_own (f : Fl) (w : World) (ha : Tms w w.heap.size f.ptr f.args) (hl : f.args.length * 16 ≤ 140737488355328) :
    Calls Try.prog 15 #[f.agg] w fun e w' => ∃ v, e = .returned v ∧ w'.ownsRow (w.heap.size + 1) 9 1 v (litN [] f).length (flatE encS (litN [] f)) ∧ w.heap.size + 1 ≤ w'.heap.size ∧ Below w.heap.size w w' := by
  have HS0 := Lib.hid (show RV w f [] (.slice none 0 0) (w.alloc (.cells #[.int .u8 f.kind, .string f.pred, .slice f.ptr f.args.length f.cap] 24)) from ⟨below1 w _, Bk0.new w _ _, World.ownsRow_nil _ _ _ _⟩)
  have HA := Lib.hid ha
  have hlen : f.args.length ≤ 9223372036854775806 := by omega
  have HR := Lib.hid (show litN [] f = f.args.foldl putT [] from rfl)
  generalize litN [] f = R at *
  unfold Fl.agg
  clear ha
  obtain ⟨kd, pr, p, cp, args⟩ := f
  simp only at HS0 HA hlen HR hl ⊢
  go_enter Try.func15, Try.ntmps15
  go_wp2_with fail
  go_loopw [3, 4] (fun v i wr => ∃ k : Nat, k ≤ args.length ∧ i = .int .i64 k ∧ ((args.take k).foldl putT []).length ≤ k ∧ Hid (RV w ⟨kd, pr, p, cp, args⟩ ((args.take k).foldl putT []) v wr)) (fun _ i _ => args.length - (intOf i).toNat)
  case atStart => exact ⟨0, Nat.zero_le _, rfl, Nat.zero_le _, HS0⟩
  case round =>
    obtain ⟨k, hk, rfl, hcnt, HW⟩ := hrel
    obtain ⟨z0, z1, z2⟩ := (Hid.out HW).x.three
    have hbs : w.heap.size + 1 ≤ wr.heap.size := (Hid.out HW).x.lt
    by_cases hlt : k < args.length
    · obtain ⟨b2, o2, rfl, hbb2, y0, y1, y2⟩ := rdM_at (HA.out.below (Hid.out HW).b (Nat.le_refl _)) k hlt
      have HX := Lib.hid (show (args.take (k + 1)).foldl putT [] = putT ((args.take k).foldl putT []) args[k] from fold_take putT [] args k hlt)
      have hj0 : (0 : Int) ≤ (k : Int) := by omega
      have hj1 : (k : Int) < (args.length : Int) := by omega
      generalize (args.take k).foldl putT [] = Y at *
      generalize args[k] = t at *
      obtain ⟨v, s, n⟩ := t
      simp only at y0 y1 y2
      by_cases hv : v.size = 0
      · have HP := Lib.hid (show putT Y ⟨v, s, n⟩ = Y from if_pos hv)
        have hv1 : ¬ (0 : Int) < (v.size : Int) := by omega
        go_wp2_with fail
        go_roundw
        case rel => exact ⟨k + 1, by omega, by go_num, by rw [HX.out, HP.out]; omega, by rw [HX.out, HP.out]; exact HW⟩
        case measure => simp [intOf]; omega
      · have HP := Lib.hid (show putT Y ⟨v, s, n⟩ = addS Y v from if_neg hv)
        have hv1 : (0 : Int) < (v.size : Int) := by omega
        have HLY := Lib.hid (show (addS Y v).length ≤ k + 1 from Nat.le_trans (by unfold addS; split; exact Nat.le_succ _; simp) (Nat.succ_le_succ hcnt))
        have HPT := Lib.hid (refput_any (w.heap.size + 1) _ Y v wr (Hid.out HW).row hbs (by omega))
        go_wp2_with (go_at_call 25; refine (HPT.out).mono ?_; rintro e w1 ⟨v1, rfl, hr1, hb1, _⟩; have HW1 := Lib.hid ((Hid.out HW).put hr1 hb1); clear hr1 hb1)
        go_roundw
        case rel => exact ⟨k + 1, by omega, by go_num, by rw [HX.out, HP.out]; exact HLY.out, by rw [HX.out, HP.out]; exact HW1⟩
        case measure => simp [intOf]; omega
    · have hke : args.take k = args := List.take_of_length_le (by omega)
      rw [hke, ← HR.out] at HW
      have HRW := Lib.hid (Hid.out HW).row
      go_wp2_with fail
      go_ret
      exact ⟨_, rfl, HRW.out, hbs, (Hid.out HW).b⟩

theorem addS_len (xs : List ByteArray) (v : ByteArray) : (addS xs v).length ≤ xs.length + 1 := by
  unfold addS
  split
  · exact Nat.le_succ _
  · simp
theorem adds_len : ∀ (ys xs : List ByteArray), (ys.foldl addS xs).length ≤ xs.length + ys.length
  | [], xs => by simp
  | y :: r, xs => by
    have := adds_len r (addS xs y)
    have := addS_len xs y
    simp only [List.foldl_cons, List.length_cons]
    omega
theorem litN_len : ∀ (args : List Tm) (xs : List ByteArray), (args.foldl putT xs).length ≤ xs.length + args.length
  | [], xs => by simp
  | t :: r, xs => by
    have := litN_len r (putT xs t)
    have := putT_len xs t
    simp only [List.foldl_cons, List.length_cons]
    omega

/-- the reference's names so far, with the rule that is looked at -/
structure RB (w : World) (r : Rl) (xs : List ByteArray) (v : Value) (wn : World) : Prop where
  b : Below w.heap.size w wn
  x : Bk0 wn w.heap.size 27 #[.int .u8 r.head.kind, .string r.head.pred, .slice r.head.ptr r.head.args.length r.head.cap, .slice r.ptr r.body.length r.cap]
  row : wn.ownsRow (w.heap.size + 1) 9 1 v xs.length (flatE encS xs)
theorem RB.on {w wn w' : World} {r : Rl} {xs : List ByteArray} {v : Value} (h : RB w r xs v wn) (hb : Below wn.heap.size wn w') : RB w r xs v w' :=
  ⟨h.b.trans (hb.mono h.b.size), (hb.block _ h.x.lt').trans h.x, own_below h.row hb⟩
theorem RB.put {w wn w' : World} {r : Rl} {xs ys : List ByteArray} {v v' : Value} (h : RB w r xs v wn) (hr : w'.ownsRow (w.heap.size + 1) 9 1 v' ys.length (flatE encS ys)) (hb : Below (w.heap.size + 1) wn w') : RB w r ys v' w' :=
  ⟨h.b.trans (hb.mono (Nat.le_succ _)), (hb.block w.heap.size (Nat.lt_succ_self _)).trans h.x, hr⟩
/-- a literal's names, in a block that is not the one that grows -/
def Fv (q : Option Addr) (V : List ByteArray) (v : Value) (w : World) : Prop :=
  V = [] ∨ ∃ b o, q = some ⟨b, o, none⟩ ∧ b < w.heap.size ∧ v.ownBlock ≠ some b ∧ ∀ i (h : i < V.length), w.cell? ⟨b, o + i, none⟩ = some (.string V[i])
theorem Fv.at {q : Option Addr} {V : List ByteArray} {v : Value} {w : World} (h : Fv q V v w) (i : Nat) (hi : i < V.length) : ∃ b o, q = some ⟨b, o, none⟩ ∧ w.cell? ⟨b, o + i, none⟩ = some (.string V[i]) := by
  rcases h with rfl | ⟨b, o, rfl, _, _, hc⟩
  · simp at hi
  · exact ⟨b, o, rfl, hc i hi⟩
theorem Fv.put {q : Option Addr} {V : List ByteArray} {v v' : Value} {w w' : World} (h : Fv q V v w) (hb : w.heap.size ≤ w'.heap.size) (hf : ∀ k, k < w.heap.size → v.ownBlock ≠ some k → w'.heap[k]? = w.heap[k]? ∧ v'.ownBlock ≠ some k) : Fv q V v' w' := by
  rcases h with h | ⟨b, o, rfl, h1, h2, hc⟩
  · exact .inl h
  · obtain ⟨h3, h4⟩ := hf b h1 h2
    refine .inr ⟨b, o, rfl, Nat.lt_of_lt_of_le h1 hb, h4, fun i hi => ?_⟩
    rw [← hc i hi]
    simp only [World.cell?, h3]
theorem Fv.of {base : Nat} {q : Option Addr} {V : List ByteArray} {c : Nat} {v : Value} {w w1 : World} {xs : List ByteArray} {e : Nat} (hv : w.ownsRow base 9 1 v xs.length (flatE encS xs)) (hr : w1.ownsRow e 9 1 (.slice q V.length c) V.length (flatE encS V)) (he : w.heap.size ≤ e) (hrd : Rd encS 1 w1 w1.heap.size q V) : Fv q V v w1 := by
  rcases Nat.eq_zero_or_pos V.length with h0 | h0
  · exact .inl (List.length_eq_zero_iff.1 h0)
  · obtain ⟨b, o, rfl, hb, hc⟩ := rdS_at hrd 0 h0
    refine .inr ⟨b, o, rfl, hb, fun hk => ?_, fun i hi => ?_⟩
    · have h1 := (hv.lt b hk).2
      have h2 := (hr.lt b rfl).1
      omega
    · obtain ⟨b', o', e', _, hc'⟩ := rdS_at hrd i hi
      cases e'
      exact hc'

end Go.Proofs.Ytbkdpdklpmcdgaa
