/-
  Contract: plan.onwards' closure that puts a literal behind the plan.
-/
import Derived.Test.YtbkdpdklpmcdgaaPow
set_option linter.unusedVariables false
set_option linter.unusedSimpArgs false
namespace Go.Proofs.Ytbkdpdklpmcdgaa
open Go.Maps Go.ChangeMaps Go.WideMaps Go.RowKit

theorem putTs_size : ∀ (args : List Tm) (xs : List ByteArray), (∀ v ∈ xs, v.size ≤ maxLen) → (∀ t ∈ args, t.v.size ≤ maxLen) → ∀ v ∈ args.foldl putT xs, v.size ≤ maxLen
  | [], xs, h, _ => h
  | t :: r, xs, h, ha => putTs_size r (putT xs t) (putT_size h (ha t List.mem_cons_self)) (fun u hu => ha u (List.mem_cons_of_mem _ hu))
/-- a map grows: names in memory are as they were -/
theorem rd_put {X X' : World} {q : Option Addr} {V l : List ByteArray} {mb : Nat} {u : Value} (h : Rd encS 1 X X.heap.size q V) (hm : MapS X mb u l) (hg : X.grownBy X' (some mb)) : Rd encS 1 X' X'.heap.size q V := by
  rcases Nat.eq_zero_or_pos V.length with h0 | h0
  · exact .inl (List.length_eq_zero_iff.1 h0)
  · rcases h with h | ⟨b, off, rfl, hb, hc⟩
    · exact .inl h
    · have hne : b ≠ mb := fun e => by
        subst e
        obtain ⟨c, hh⟩ := hm
        have := hc 0 h0 0 (.string V[0]) rfl
        simp [World.cell?, hh] at this
      exact .inr ⟨b, off, rfl, Nat.lt_of_lt_of_le hb hg.size, fun i hi r u hu => (show X'.cell? ⟨b, off + i * 1 + r, none⟩ = X.cell? ⟨b, off + i * 1 + r, none⟩ from World.cell?_of_block (w := X) (hg.block b hb (fun e => hne (Option.some.inj e)))).trans (hc i hi r u hu)⟩
set_option maxHeartbeats 8000000 in
set_option maxRecDepth 100000 in
theorem name_any (w : World) (s : Nat) (rq : Option Addr) (rc : Nat) (body : List Fl) (L : List Int) (M : List ByteArray) (v : Value) (X : World) (k : Nat) (hw : w.heap.size = s) (hO : OW w s rq rc body L L M v X) (hk : k < body.length) (hrd : Rd encF 3 w w.heap.size rq body) (ht : ∀ f ∈ body, Tms w w.heap.size f.ptr f.args) (hz : ∀ f ∈ body, ∀ t ∈ f.args, t.v.size ≤ maxLen) (hl : ∀ f ∈ body, f.args.length ≤ 1048576) (h1 : L.length ≤ 1000) (hbl : body.length ≤ 1048576) :
    Calls Try.prog 27 #[.int .i64 k, .pointer (some ⟨s + 1, 0, none⟩), .pointer (some ⟨s + 4, 0, none⟩), .pointer (some ⟨s, 0, none⟩), .pointer (some ⟨s + 5, 0, none⟩)] X fun e X' => ∃ v', e = .returned (.tuple #[]) ∧ OW w s rq rc body (L ++ [(k : Int)]) (L ++ [(k : Int)]) (if body[k].kind = 1 then litN M body[k] else M) v' X' := by
  obtain ⟨i0, hii, hz0, hz1, hzb⟩ := info_parts infoInt
  subst hw
  have HO := Lib.hid hO
  have HRD := Lib.hid (hrd.below hO.b (Nat.le_refl _))
  have HTM := Lib.hid (ht _ (List.getElem_mem hk))
  have HZ := Lib.hid (hz _ (List.getElem_mem hk))
  have HLN := Lib.hid (hl _ (List.getElem_mem hk))
  have hL1 : L.length + 1 ≤ maxLen := by unfold maxLen; omega
  have hL2 : (L.length + 1) * 8 ≤ 140737488355328 := by omega
  have x1 := hO.xp.cell 0 _ rfl
  have f1 := hO.xp.soft 0
  have hj0 : (0 : Int) ≤ (k : Int) := by omega
  have hj1 : (k : Int) < (body.length : Int) := by omega
  obtain ⟨b2, o2, rfl, hbb2, _, _, _⟩ := rdF_at hrd k hk
  have HYS := Lib.hid (show ∀ Y, Below w.heap.size w Y → Y.cell? ⟨b2, o2 + k * 3, none⟩ = some (.int .u8 body[k].kind) ∧ Y.cell? ⟨b2, o2 + k * 3 + 1, none⟩ = some (.string body[k].pred) ∧ Y.cell? ⟨b2, o2 + k * 3 + 2, none⟩ = some (.slice body[k].ptr body[k].args.length body[k].cap) from fun Y hY => by
    obtain ⟨b3, o3, e, _, h⟩ := rdF_at (hrd.below hY (Nat.le_refl _)) k hk
    cases e
    exact h)
  clear hrd ht hz hl hO HRD
  generalize body[k] = f at *
  go_enter Try.func27, Try.ntmps27
  go_upto_region 1 with (at_builtin; refine wpList_append_lies _ rfl _ _ 29 rfl (w.heap.size + 6) 3 i0 (.int .i64 0) 1 8 underIs hii hz0 hz1 hzb rfl (by decide) v L.length (flatE encI L) rfl (own_below HO.out.row (below1 _ _)) ⟨X.heap.size, 0, none⟩ 1 1 [.int .i64 k] rfl rfl (news_alloc _ _ _) (EI.one k) (by decide) hL1 hL2 (Nat.le_trans HO.out.hi (below1 X _).size) _ rfl ?_; intro g cap w7 ho7 hg7 hat7 _; have HO8 := Lib.hid (OW.push (k := (k : Int)) (HO.out.on (below1 X _)) hg7 ho7); have x7 := (OW.at (HO.out.on (below1 X _)) hg7).cell 0 _ rfl; have f7 := (OW.at (HO.out.on (below1 X _)) hg7).soft 0; clear hg7 hat7 ho7)
  generalize w7.setCell ⟨w.heap.size + 1, 0, none⟩ (.slice (some ⟨g, 0, none⟩) (L.length + 1) cap) = W8 at *
  clear x7 f7 x1 f1 HO
  have x4 := HO8.out.xq.cell 0 _ rfl
  have xn := HO8.out.xn.cell k _ (by rw [Array.getElem?_toList]; exact namedA_get hk)
  have fn := HO8.out.xn.soft k
  go_upto_region 2 with fail
  have HO9 := Lib.hid (OW.mark (k := k) HO8.out)
  generalize W8.setCell ⟨w.heap.size + 2, k, none⟩ (.bool true) = W9 at *
  clear x4 xn fn HO8
  have x0 := HO9.out.xb.cell 0 _ rfl
  obtain ⟨y0, y1, y2⟩ := HYS.out W9 HO9.out.b
  by_cases hk1 : f.kind = 1
  · have HPV := Lib.hid (plvars_any f W9 (HTM.out.grow HO9.out.b) HZ.out (by have := HLN.out; omega))
    have HVZ := Lib.hid (putTs_size f.args [] (fun v hv => by cases hv) HZ.out)
    have HMV := Lib.hid (show litN M f = (litN [] f).foldl addS M from litN_adds M f)
    have hvl : (litN [] f).length ≤ 1048576 := Nat.le_trans (litN_len f.args []) (by have := HLN.out; simpa using this)
    obtain ⟨fk, fpr, fq, fc, fa⟩ := f
    unfold Fl.agg at HPV
    simp only at hk1 y0 y1 y2 HPV HVZ
    subst hk1
    have HVZ := Lib.hid (show ∀ v ∈ litN [] (⟨1, fpr, fq, fc, fa⟩ : Fl), v.size ≤ maxLen from HVZ.out)
    clear HTM HZ HLN HYS
    generalize litN [] (⟨1, fpr, fq, fc, fa⟩ : Fl) = V at *
    go_wp2_with (go_at_call 14; refine (HPV.out).mono ?_; rintro e wa ⟨qa, ca, rfl, hra, hba⟩; have HOA := Lib.hid (HO9.out.on hba); have HRA := Lib.hid hra; clear hra hba)
    go_loopw [27] (fun i wr => ∃ t : Nat, t ≤ V.length ∧ i = .int .i64 t ∧ Hid (OW w w.heap.size (some ⟨b2, o2, none⟩) rc body (L ++ [(k : Int)]) (L ++ [(k : Int)]) ((V.take t).foldl addS M) (.slice (some ⟨g, 0, none⟩) (L.length + 1) cap) wr) ∧ Hid (Rd encS 1 wr wr.heap.size qa V)) (fun i _ => V.length - (intOf i).toNat)
    case atStart => exact ⟨0, Nat.zero_le _, rfl, HOA, HRA⟩
    case round =>
      obtain ⟨t, ht, rfl, HW, HR⟩ := hrel
      have x5 := (Hid.out HW).xk.cell 0 _ rfl
      by_cases hlt : t < V.length
      · obtain ⟨b3, o3, rfl, _, u0⟩ := rdS_at (Hid.out HR) t hlt
        have ht0 : (0 : Int) ≤ (t : Int) := by omega
        have ht1 : (t : Int) < (V.length : Int) := by omega
        have hvs := HVZ.out _ (List.getElem_mem hlt)
        have HX2 := Lib.hid (show (V.take (t + 1)).foldl addS M = addS ((V.take t).foldl addS M) V[t] from fold_take addS M V t hlt)
        generalize (V.take t).foldl addS M = Y at *
        generalize V[t] = x at *
        obtain ⟨w3, hrun, hm3, hg3⟩ := putS keyedS skey Try.underlying54 (Hid.out HW).xm (Hid.out HW).msz x hvs
        unfold unit at hrun
        have HW3 := Lib.hid ((Hid.out HW).put hg3 hm3 hvs)
        have HR3 := Lib.hid (rd_put (Hid.out HR) (Hid.out HW).xm hg3)
        clear hm3 hg3
        go_wp2_with fail
        go_roundw
        case rel => exact ⟨t + 1, by omega, by go_num, by rw [HX2.out]; exact HW3, HR3⟩
        case measure => simp [intOf]; omega
      · have hte : V.take t = V := List.take_of_length_le (by omega)
        rw [hte] at HW
        go_wp2_with fail
        refine bodyPost_end (v := .tuple #[]) (results_none rfl _ _ _) rfl ?_
        first
          | exact ⟨rfl, _, by rw [HMV.out]; exact HW.out⟩
          | exact ⟨rfl, _, by rw [if_pos rfl, HMV.out]; exact HW.out⟩
          | exact ⟨_, rfl, by rw [if_pos rfl, HMV.out]; exact HW.out⟩
  · have hk2 : (f.kind == 1) = false := beq_eq_false_iff_ne.2 hk1
    go_wp2_with fail
    refine bodyPost_end (v := .tuple #[]) (results_none rfl _ _ _) rfl ?_
    first
      | exact ⟨rfl, _, HO9.out⟩
      | exact ⟨rfl, _, by rw [if_neg hk1]; exact HO9.out⟩
      | exact ⟨_, rfl, by rw [if_neg hk1]; exact HO9.out⟩
end Go.Proofs.Ytbkdpdklpmcdgaa
