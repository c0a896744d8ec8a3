/-
  Contract: plan.Bound.
-/
import Derived.Test.YtbkdpdklpmcdgaaPam
set_option linter.unusedVariables false
set_option linter.unusedSimpArgs false
namespace Go.Proofs.Ytbkdpdklpmcdgaa
open Go.Maps Go.ChangeMaps Go.WideMaps Go.RowKit

/-- the literals of the body that a list names and that are so -/
def bindS (body : List Fl) (xs : List Fl) (k : Int) : List Fl := if 0 ≤ k then (match body[k.toNat]? with
  | some f => if f.kind = 1 then xs ++ [f] else xs
  | none => xs) else xs
def bindN (body : List Fl) (l : List Int) : List Fl := l.foldl (bindS body) []
theorem bindS_len (body xs : List Fl) (k : Int) : (bindS body xs k).length ≤ xs.length + 1 := by
  unfold bindS
  split
  · split
    · split
      · simp
      · omega
    · omega
  · omega
theorem bindS_mem {body xs : List Fl} {k : Int} (h : ∀ f ∈ xs, f ∈ body) : ∀ f ∈ bindS body xs k, f ∈ body := by
  unfold bindS
  split
  · split
    · rename_i f hf
      split
      · intro g hg
        rcases List.mem_append.1 hg with hg | hg
        · exact h g hg
        · rw [List.mem_singleton.1 hg]; exact List.mem_of_getElem? hf
      · exact h
    · exact h
  · exact h
theorem foldI_take {α β : Type} (g : β → α → β) (b : β) (l : List α) (j : Nat) (h : j < l.length) : (l.take (j + 1)).foldl g b = g ((l.take j).foldl g b) l[j] := by
  rw [List.take_succ_eq_append_getElem h, List.foldl_append]; rfl
theorem infoFlat : (Try.prog.info? 24).map (fun i => (i.zero, i.size, i.bytes)) = some (some (.agg #[.int .u8 0, .string ⟨#[]⟩, .slice none 0 0]), 3, 48) := by kernel_rfl
theorem underFs : Try.prog.underlying 25 = some (.slice 24) := Try.underlying25
/-- a rule that came in, boxed, with the literals that bind -/
structure BN (w : World) (r : Rl) (xs : List Fl) (v : Value) (wn : World) : Prop where
  b : Below w.heap.size w wn
  x : Bk0 wn w.heap.size 27 #[.int .u8 r.head.kind, .string r.head.pred, .slice r.head.ptr r.head.args.length r.head.cap, .slice r.ptr r.body.length r.cap]
  row : wn.ownsRow (w.heap.size + 1) 24 3 v xs.length (flatE encF xs)
  mem : ∀ f ∈ xs, f ∈ r.body
theorem Bk0.lt' {w : World} {b : Nat} {T : TypeId} {cs : Array Value} (h : Bk0 w b T cs) : b < w.heap.size := (Array.getElem?_eq_some_iff.1 h).1
theorem Bk0.four {w : World} {b : Nat} {T : TypeId} {a0 a1 a2 a3 : Value} (h : Bk0 w b T #[a0, a1, a2, a3]) : w.cell? ⟨b, 0, none⟩ = some a0 ∧ w.cell? ⟨b, 1, none⟩ = some a1 ∧ w.cell? ⟨b, 2, none⟩ = some a2 ∧ w.cell? ⟨b, 3, none⟩ = some a3 := by
  refine ⟨?_, ?_, ?_, ?_⟩ <;> simp [World.cell?, show w.heap[b]? = _ from h]
theorem BN.on {w wn w' : World} {r : Rl} {xs : List Fl} {v : Value} (h : BN w r xs v wn) (hb : Below wn.heap.size wn w') : BN w r xs v w' :=
  ⟨h.b.trans (hb.mono h.b.size), (hb.block _ h.x.lt').trans h.x, own_below h.row hb, h.mem⟩
theorem BN.push {w wn w4 : World} {r : Rl} {xs : List Fl} {v u : Value} {f : Fl} {o : Obj} (h : BN w r xs v wn) (hf : f ∈ r.body)
    (hown : w4.ownsRow (w.heap.size + 1) 24 3 u (xs.length + 1) (flatE encF xs ++ encF f)) (hgrow : (wn.alloc o).grownBy w4 v.ownBlock) : BN w r (xs ++ [f]) u w4 := by
  have h3 := h.b.trans ((below1 wn o).mono h.b.size)
  refine ⟨h3.grown hgrow h3.size (fun k hk => ?_), ?_, ?_, fun g hg => ?_⟩
  · have := (h.row.lt k hk).1
    omega
  · refine (hgrow.block w.heap.size (Nat.lt_of_lt_of_le h.x.lt' (below1 wn o).size) (fun e => ?_)).trans (((below1 wn o).block _ h.x.lt').trans h.x)
    have := (h.row.lt _ e.symm).1
    omega
  · rw [List.length_append, flatE_snoc]
    exact hown
  · rcases List.mem_append.1 hg with hg | hg
    · exact h.mem g hg
    · rw [List.mem_singleton.1 hg]; exact hf

set_option maxHeartbeats 4000000 in
set_option maxRecDepth 100000 in
theorem bound_any (r : Rl) (q : Option Addr) (l : List Int) (c : Nat) (w : World) (hl : Rd encI 1 w w.heap.size q l) (hr : Rd encF 3 w w.heap.size r.ptr r.body) (ha : ∀ f ∈ r.body, Tms w w.heap.size f.ptr f.args) (hz : ∀ f ∈ r.body, ∀ t ∈ f.args, t.v.size ≤ maxLen)
    (hlen : ∀ f ∈ r.body, f.args.length ≤ 9223372036854775807) (hn : l.length * 48 ≤ 140737488355328) (hc : cntN (bindN r.body l) * 16 ≤ 140737488355328) :
    Calls Try.prog 16 #[r.agg, .slice q l.length c] w fun e w' => ∃ q' c', e = .returned (.slice q' (varsN (bindN r.body l)).length c') ∧ Rd encS 1 w' w'.heap.size q' (varsN (bindN r.body l)) ∧ Below w.heap.size w w' := by
  obtain ⟨i0, hii, hz0, hz1, hzb⟩ := info_parts infoFlat
  have HS0 := Lib.hid (show BN w r [] (.slice none 0 0) (w.alloc (.cells #[.int .u8 r.head.kind, .string r.head.pred, .slice r.head.ptr r.head.args.length r.head.cap, .slice r.ptr r.body.length r.cap] 27)) from ⟨below1 w _, Bk0.new w _ _, World.ownsRow_nil _ _ _ _, fun f hf => by cases hf⟩)
  have HLI := Lib.hid hl
  have HRB := Lib.hid hr
  have HAM := Lib.hid (fun (k : Int) (wx : World) => among_any r k wx)
  have hlm : l.length ≤ 9223372036854775807 := by omega
  have HVN := Lib.hid (fun (q : Option Addr) (xs : List Fl) (c : Nat) (wx : World) (h1 : Rd encF 3 wx wx.heap.size q xs) (h2 : Below w.heap.size w wx) (h3 : ∀ f ∈ xs, f ∈ r.body) (h4 : xs.length ≤ 9223372036854775807) (h5 : cntN xs * 16 ≤ 140737488355328) => variables_any q xs c wx h1 (fun f hf => (ha f (h3 f hf)).grow h2) (fun f hf => hz f (h3 f hf)) h4 (fun f hf => hlen f (h3 f hf)) h5)
  have HCN := Lib.hid hc
  unfold Rl.agg at HAM ⊢
  clear hl hr ha hz hlen hc
  obtain ⟨⟨kd, pr, p, cp, args⟩, rq, rc, body⟩ := r
  simp only at HS0 HLI HRB HAM HVN HCN ⊢
  go_enter Try.func16, Try.ntmps16
  go_wp2_with fail
  go_loopw [5, 7, 10] (fun v kv i wr => ∃ j : Nat, j ≤ l.length ∧ i = .int .i64 j ∧ ((l.take j).foldl (bindS body) []).length ≤ j ∧ Hid (BN w ⟨⟨kd, pr, p, cp, args⟩, rq, rc, body⟩ ((l.take j).foldl (bindS body) []) v wr)) (fun _ _ i _ => l.length - (intOf i).toNat)
  case atStart => exact ⟨0, Nat.zero_le _, rfl, Nat.zero_le _, HS0⟩
  case round =>
    obtain ⟨j, hj, rfl, hcnt, HW⟩ := hrel
    obtain ⟨z0, z1, z2, z3⟩ := (Hid.out HW).x.four
    have hbs : w.heap.size + 1 ≤ wr.heap.size := (Hid.out HW).x.lt'
    by_cases hlt : j < l.length
    · obtain ⟨b, o, rfl, hbb, x0⟩ := rdI_at (HLI.out.below (Hid.out HW).b (Nat.le_refl _)) j hlt
      have hbw : b < wr.heap.size := Nat.lt_of_lt_of_le hbb (Hid.out HW).b.size
      have HX := Lib.hid (show (l.take (j + 1)).foldl (bindS body) [] = bindS body ((l.take j).foldl (bindS body) []) l[j] from foldI_take (bindS body) [] l j hlt)
      generalize (l.take j).foldl (bindS body) [] = Y at *
      generalize l[j] = k at *
      cases hh : (⟨⟨kd, pr, p, cp, args⟩, rq, rc, body⟩ : Rl).has k with
      | false =>
        have HP := Lib.hid (show bindS body Y k = Y from by
          unfold Rl.has at hh
          rw [Bool.and_eq_false_iff, decide_eq_false_iff_not, decide_eq_false_iff_not] at hh
          unfold bindS
          split
          · rename_i h0
            have h1 : ¬ k < (body.length : Int) := hh.resolve_left (fun h => h h0)
            rw [List.getElem?_eq_none (by omega)]
          · rfl)
        have HAK := Lib.hid (HAM.out k wr)
        rw [hh] at HAK
        clear hh
        go_wp2_with (go_at_call 23; refine (HAK.out).mono ?_; rintro e w1 ⟨rfl, hb1⟩; have HS1 := Lib.hid ((Hid.out HW).on hb1); clear hb1)
        go_roundw
        case rel => exact ⟨j + 1, by omega, by go_num, by rw [HX.out, HP.out]; omega, by rw [HX.out, HP.out]; exact HS1⟩
        case measure => simp [intOf]; omega
      | true =>
        have HAK := Lib.hid (HAM.out k wr)
        rw [hh] at HAK
        unfold Rl.has at hh
        rw [Bool.and_eq_true, decide_eq_true_eq, decide_eq_true_eq] at hh
        obtain ⟨h0, h1⟩ := hh
        obtain ⟨n, rfl⟩ := Int.eq_ofNat_of_zero_le h0
        have hnb : n < body.length := by simp only at h1; omega
        have h1' : (n : Int) < (body.length : Int) := by omega
        have hge : body[n]? = some body[n] := List.getElem?_eq_getElem hnb
        have HY := Lib.hid (show bindS body Y (n : Int) = if body[n].kind = 1 then Y ++ [body[n]] else Y from by
          unfold bindS
          rw [if_pos h0, Int.toNat_natCast, hge])
        have HMB := Lib.hid (show body[n] ∈ body from List.getElem_mem hnb)
        have HRN := Lib.hid (fun (wx : World) (h : Below w.heap.size w wx) => rdF_at (HRB.out.below h (Nat.le_refl _)) n hnb)
        clear hge h1
        generalize body[n] = f at *
        by_cases hk1 : f.kind = 1
        · have HP := Lib.hid (show bindS body Y (n : Int) = Y ++ [f] by rw [HY.out, if_pos hk1])
          have HL1 := Lib.hid (show Y.length + 1 ≤ maxLen by unfold maxLen; omega)
          have HL2 := Lib.hid (show (Y.length + 1) * 48 ≤ 140737488355328 by omega)
          clear HY
          obtain ⟨fk, fpr, fq, fc, fa⟩ := f
          simp only at hk1
          subst hk1
          simp only at HRN
          go_wp2_with (first
            | (at_builtin; refine wpList_append_lies _ rfl _ _ 25 rfl (w.heap.size + 1) 24 i0 (.agg #[.int .u8 0, .string ⟨#[]⟩, .slice none 0 0]) 3 48 underFs hii hz0 hz1 hzb rfl (by decide) _ _ _ rfl (own_below (Hid.out HS1).row (below1 _ _)) ⟨w1.heap.size, 0, none⟩ 1 1 (encF ⟨1, fpr, fq, fc, fa⟩) rfl rfl (news_alloc _ _ _) (EF.one ⟨1, fpr, fq, fc, fa⟩) (by decide) HL1.out HL2.out (Nat.le_trans hbs1 (below1 w1 _).size) _ rfl ?_; intro g cap w4 hown hgrow hat hlt2; have HN := Lib.hid ((Hid.out HS1).push HMB.out hown hgrow); clear hown hgrow hat)
            | (go_at_call 23; refine (HAK.out).mono ?_; rintro e w1 ⟨rfl, hb1⟩; have HS1 := Lib.hid ((Hid.out HW).on hb1); obtain ⟨u0, u1, u2, u3⟩ := (Hid.out HS1).x.four; obtain ⟨b2, o2, hq2, hbb2, y0, y1, y2⟩ := HRN.out w1 (Hid.out HS1).b; subst hq2; have hbs1 : w.heap.size + 1 ≤ w1.heap.size := (Hid.out HS1).x.lt'; clear hb1))
          go_roundw
          case rel => exact ⟨j + 1, by omega, by go_num, by rw [HX.out, HP.out, List.length_append]; simp only [List.length_cons, List.length_nil]; omega, by rw [HX.out, HP.out]; simpa using HN⟩
          case measure => simp [intOf]; omega
        · have HP := Lib.hid (show bindS body Y (n : Int) = Y by rw [HY.out, if_neg hk1])
          have hk2 : (f.kind == 1) = false := beq_eq_false_iff_ne.2 hk1
          go_wp2_with (go_at_call 23; refine (HAK.out).mono ?_; rintro e w1 ⟨rfl, hb1⟩; have HS1 := Lib.hid ((Hid.out HW).on hb1); obtain ⟨u0, u1, u2, u3⟩ := (Hid.out HS1).x.four; obtain ⟨b2, o2, hq2, hbb2, y0, y1, y2⟩ := HRN.out w1 (Hid.out HS1).b; subst hq2; clear hb1)
          go_roundw
          case rel => exact ⟨j + 1, by omega, by go_num, by rw [HX.out, HP.out]; omega, by rw [HX.out, HP.out]; exact HS1⟩
          case measure => simp [intOf]; omega
    · have hke : l.take j = l := List.take_of_length_le (by omega)
      rw [hke] at HW hcnt
      obtain ⟨q', c', rfl, hrd, _⟩ := grw_form EF (.inr (Hid.out HW).row) hbs
      have HVC := Lib.hid (HVN.out q' _ c' wr hrd (Hid.out HW).b (Hid.out HW).mem (by omega) HCN.out)
      clear hrd
      go_wp2_with (go_at_call 24; refine (HVC.out).mono ?_; rintro e w1 ⟨q1, c1, rfl, hr1, hb1⟩; have HR1 := Lib.hid hr1; have HB1 := Lib.hid ((Hid.out HW).b.trans (hb1.mono (Hid.out HW).b.size)); clear hr1 hb1)
      go_ret
      first
        | exact ⟨q1, c1, rfl, HR1.out, HB1.out⟩
        | exact ⟨q1, ⟨c1, rfl⟩, HR1.out, HB1.out⟩
end Go.Proofs.Ytbkdpdklpmcdgaa
