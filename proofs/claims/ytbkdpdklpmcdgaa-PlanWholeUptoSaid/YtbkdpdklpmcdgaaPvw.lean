/-
  The walk of mandatelaw13.PlanVars: it answers true. (Made by tools/mk_pvw.py.)
-/
import Derived.Test.YtbkdpdklpmcdgaaPop
import Derived.Test.YtbkdpdklpmcdgaaPfx
import Derived.Test.YtbkdpdklpmcdgaaPvb
import Derived.StillTailTactics
import Derived.Deep.RegionHeld3
import Derived.Deep.DeepCutAuto
set_option linter.unusedVariables false
set_option linter.unusedSimpArgs false
namespace Go.Proofs.Ytbkdpdklpmcdgaa
open Go.Maps Go.ChangeMaps Go.WideMaps Go.RowKit

/-- the rule's box, and what is below it -/
structure LX (w : World) (r : Rl) (X : World) : Prop where
  b : Below w.heap.size w X
  x : Bk0 X w.heap.size 27 #[.int .u8 r.head.kind, .string r.head.pred, .slice r.head.ptr r.head.args.length r.head.cap, .slice r.ptr r.body.length r.cap]
theorem LX.on {w X X' : World} {r : Rl} (h : LX w r X) (hb : Below X.heap.size X X') : LX w r X' :=
  ⟨h.b.trans (hb.mono h.b.size), (hb.block _ h.x.lt').trans h.x⟩
theorem eqS_self (V : List ByteArray) : eqS V V = true := eqS_iff.2 rfl
theorem underIs : Try.prog.underlying 29 = some (.slice 3) := Try.underlying29
theorem infoInt : (Try.prog.info? 3).map (fun i => (i.zero, i.size, i.bytes)) = some (some (.int .i64 0), 1, 8) := by kernel_rfl
theorem cnt_some {M : Nat} : ∀ {fs : List Fl}, (∀ f ∈ fs, f.args.length ≤ M) → cntN fs ≤ fs.length * M
  | [], _ => by simp [cntN]
  | f :: r, h => by
    have h1 := cnt_some (M := M) (fs := r) (fun g hg => h g (List.mem_cons_of_mem _ hg))
    have h2 := h f List.mem_cons_self
    unfold cntN at h1 ⊢
    rw [List.map_cons, List.sum_cons, List.length_cons, Nat.succ_mul]
    omega
theorem vars_cnt' : ∀ (fs : List Fl) (xs : List ByteArray), (fs.foldl litN xs).length ≤ xs.length + cntN fs
  | [], xs => by simp [cntN]
  | f :: r, xs => by
    have h1 := vars_cnt' r (litN xs f)
    have h2 := litN_len f.args xs
    unfold cntN at h1 ⊢
    unfold litN at h1
    rw [List.foldl_cons, List.map_cons, List.sum_cons]
    unfold litN
    omega
theorem vars_cnt (fs : List Fl) : (varsN fs).length ≤ cntN fs := by
  have := vars_cnt' fs []
  simpa [varsN] using this
theorem bind_mem (body : List Fl) : ∀ (l : List Int) (xs : List Fl), (∀ f ∈ xs, f ∈ body) → (∀ f ∈ l.foldl (bindS body) xs, f ∈ body) ∧ (l.foldl (bindS body) xs).length ≤ xs.length + l.length
  | [], xs, h => ⟨h, by simp⟩
  | k :: r, xs, h => by
    have h1 := bind_mem body r (bindS body xs k) (bindS_mem h)
    have h2 := bindS_len body xs k
    refine ⟨h1.1, ?_⟩
    have := h1.2
    simp only [List.foldl_cons, List.length_cons]
    omega
theorem bind_cnt {N : Nat} (hN : N ≤ 1048576) {body : List Fl} {l : List Int} (hb : ∀ f ∈ body, f.args.length ≤ N) (hl : l.length ≤ 100) : cntN (bindN body l) ≤ 104857600 := by
  obtain ⟨h1, h2⟩ := bind_mem body l [] (fun f hf => by cases hf)
  have h3 := cnt_some (M := N) (fs := bindN body l) (fun f hf => hb f (h1 f hf))
  have h4 : (bindN body l).length * N ≤ 100 * 1048576 := Nat.mul_le_mul (by unfold bindN; simp at h2; omega) hN
  omega
set_option maxHeartbeats 16000000 in
set_option maxRecDepth 100000 in
theorem vars_walk (N : Nat) (hN : N ≤ 1048576) (r : Rl) (q : Option Addr) (l : List Int) (c : Nat) (w : World) (hr : r.Arg w N) (hl : Rd encI 1 w w.heap.size q l) (hlN : l.length ≤ N) :
    Calls Try.prog 4 #[r.agg, .slice q l.length c] w fun e w' => e = .returned (.bool true) ∧ Below w.heap.size w w' := by
  obtain ⟨i0, hii, hz0, hz1, hzb⟩ := info_parts infoInt
  have HI := Lib.hid (show LX w r (w.alloc (.cells #[.int .u8 r.head.kind, .string r.head.pred, .slice r.head.ptr r.head.args.length r.head.cap, .slice r.ptr r.body.length r.cap] 27)) from ⟨below1 w _, Bk0.new w _ _⟩)
  have HF := Lib.hid (fun X => fixed_any X)
  have hha : r.head.args.length ≤ 1048576 := Nat.le_trans hr.hd.len hN
  have hbl : r.body.length ≤ 1048576 := Nat.le_trans hr.len hN
  have hll : l.length ≤ 1048576 := Nat.le_trans hlN hN
  have HLI := Lib.hid hl
  have HPV := Lib.hid (fun X (h : LX w r X) => plvars_any r.head X (hr.hd.tm.grow h.b) hr.hd.sz (by omega))
  have HRV := Lib.hid (fun X (h : LX w r X) => rfvars_any r.head X (hr.hd.tm.grow h.b) (by omega))
  have HNA := Lib.hid (fun (qa ca qb cb) (X : World) (h1 : Rd encS 1 X X.heap.size qa (litN [] r.head)) (h2 : Rd encS 1 X X.heap.size qb (litN [] r.head)) => names_any qa _ ca qb _ cb X h1 h2 (by have := litN_len r.head.args []; unfold litN; simp at this; omega) (by have := litN_len r.head.args []; unfold litN; simp at this; omega))
  rw [eqS_self] at HNA
  have HVB := Lib.hid (fun (h100 : l.length ≤ 100) => bind_cnt hN (fun f hf => (hr.fl f hf).len) h100)
  have HBD := Lib.hid (fun (h100 : l.length ≤ 100) (qc cc) (X : World) (h : LX w r X) (h2 : Rd encI 1 X X.heap.size qc l) => bound_any r qc l cc X h2 (hr.rd.grow h.b) (fun f hf => (hr.fl f hf).tm.grow h.b) (fun f hf => (hr.fl f hf).sz) (fun f hf => by have := (hr.fl f hf).len; omega) (by omega) (by have := HVB.out h100; omega))
  have HRF := Lib.hid (fun (h100 : l.length ≤ 100) (X : World) (h : LX w r X) => refbound_any N hN r q l c X (hl.grow h.b) (hr.rd.grow h.b) (fun f hf => (hr.fl f hf).tm.grow h.b) (fun f hf => (hr.fl f hf).len) h100)
  have HVL := Lib.hid (fun (h100 : l.length ≤ 100) => show (varsN (bindN r.body l)).length ≤ 104857600 from Nat.le_trans (vars_cnt _) (HVB.out h100))
  have HNB := Lib.hid (fun (h100 : l.length ≤ 100) (qa ca qb cb) (X : World) (h1 : Rd encS 1 X X.heap.size qa (varsN (bindN r.body l))) (h2 : Rd encS 1 X X.heap.size qb (varsN (bindN r.body l))) => names_any qa _ ca qb _ cb X h1 h2 (by have := HVL.out h100; omega) (by have := HVL.out h100; omega))
  rw [eqS_self] at HNB
  generalize varsN (bindN r.body l) = V2 at *
  clear hr hl hlN HVB HVL
  generalize hV1 : litN [] r.head = V1 at *
  clear hV1
  unfold Fl.agg at HPV HRV
  unfold Rl.agg at HBD HRF ⊢
  obtain ⟨⟨kd, pr, p, cp, args⟩, rq, rc, body⟩ := r
  simp only at HI HPV HRV HBD HRF hha hbl ⊢
  go_enter Try.func4, Try.ntmps4
  go_wp2_with fail
  refine (HF.out _).mono ?_
  rintro e w1 ⟨rfl, hb1⟩
  have HI1 := Lib.hid (HI.out.on hb1)
  obtain ⟨z0, z1, z2, z3⟩ := HI1.out.x.four
  clear hb1 HF HI
  by_cases hA : 30 < body.length
  · have hA1 : (30 : Int) < (body.length : Int) := by omega
    go_wp2_with fail
    go_ret
    exact ⟨rfl, HI1.out.b⟩
  · have hA1 : ¬ (30 : Int) < (body.length : Int) := by omega
    by_cases hB : 100 < l.length
    · have hB1 : (100 : Int) < (l.length : Int) := by omega
      go_wp2_with fail
      go_ret
      exact ⟨rfl, HI1.out.b⟩
    · have hB1 : ¬ (100 : Int) < (l.length : Int) := by omega
      have hB0 : l.length ≤ 100 := by omega
      have HD := Lib.hid (HI1.out.on (Below.refl w1.heap.size w1).drew)
      have HBD := Lib.hid (HBD.out hB0)
      have HRF := Lib.hid (HRF.out hB0)
      have HNB := Lib.hid (HNB.out hB0)
      go_upto_region 5 with fail
      refine wp_region_held_drew (S := fun X => X.cell? ⟨w.heap.size, 0, none⟩ = some (.int .u8 kd) ∧ X.cell? ⟨w.heap.size, 1, none⟩ = some (.string pr) ∧ X.cell? ⟨w.heap.size, 2, none⟩ = some (.slice p args.length cp) ∧ X.cell? ⟨w.heap.size, 3, none⟩ = some (.slice rq body.length rc)) (by kernel_rfl) ⟨z0, z1, z2, z3⟩ (fun hHeld => ?_)
      refine wpAnyH_take (i := 0) (v := ?_) rfl (by kernel_rfl) (by kernel_rfl) (by kernel_rfl) (fun _ _ _ h => h) (Or.inl ⟨by rfl, ?hy⟩) (by assumption) ?_
      case hy =>
        intro wx hSw
        obtain ⟨q0, q1, q2, q3⟩ := hSw
        go_simp
        all_goals with_reducible rfl
      (try simp only [Act.put, List.getElem_toArray, List.getElem_cons_succ, List.getElem_cons_zero, List.setIfInBounds_toArray, List.set_cons_zero, List.set_cons_succ])
      refine wpAnyH_take (i := 1) (v := ?_) rfl (by kernel_rfl) (by kernel_rfl) (by kernel_rfl) (fun _ _ _ h => h) (Or.inl ⟨by rfl, ?hy⟩) (by assumption) ?_
      case hy =>
        intro wx hSw
        obtain ⟨q0, q1, q2, q3⟩ := hSw
        go_simp
        all_goals with_reducible rfl
      (try simp only [Act.put, List.getElem_toArray, List.getElem_cons_succ, List.getElem_cons_zero, List.setIfInBounds_toArray, List.set_cons_zero, List.set_cons_succ])
      refine wpAnyH_take (i := 3) (v := ?_) rfl (by kernel_rfl) (by kernel_rfl) (by kernel_rfl) (fun _ _ _ h => h) (Or.inl ⟨by rfl, ?hy⟩) (by assumption) ?_
      case hy =>
        intro wx hSw
        obtain ⟨q0, q1, q2, q3⟩ := hSw
        go_simp
        all_goals with_reducible rfl
      (try simp only [Act.put, List.getElem_toArray, List.getElem_cons_succ, List.getElem_cons_zero, List.setIfInBounds_toArray, List.set_cons_zero, List.set_cons_succ])
      refine wpAnyH_take (i := 4) (v := ?_) rfl (by kernel_rfl) (by kernel_rfl) (by kernel_rfl) (fun _ _ _ h => h) (Or.inl ⟨by rfl, ?hy⟩) (by assumption) ?_
      case hy =>
        intro wx hSw
        obtain ⟨q0, q1, q2, q3⟩ := hSw
        go_simp
        all_goals with_reducible rfl
      (try simp only [Act.put, List.getElem_toArray, List.getElem_cons_succ, List.getElem_cons_zero, List.setIfInBounds_toArray, List.set_cons_zero, List.set_cons_succ])
      refine wpAnyH_ready (rs := [2]) (by kernel_rfl) (by simp) ?_
      refine AllReadyH.cons rfl (fun K hK => ?_) AllReadyH.nil
      go_simp
      go_at_call 14
      refine (HPV.out _ HD.out).mono ?_
      rintro e w2 ⟨qa, ca, rfl, hra, hb2⟩
      have HI2 := Lib.hid (HD.out.on hb2)
      have HRA := Lib.hid hra
      clear hra hb2
      refine hK.out _ _ (HI2.out.x.four) (fun hHeld => ?_)
      clear hK K
      (try simp only [Act.put, List.getElem_toArray, List.getElem_cons_succ, List.getElem_cons_zero, List.setIfInBounds_toArray, List.set_cons_zero, List.set_cons_succ])
      refine wpAnyH_ready (rs := [5]) (by kernel_rfl) (by simp) ?_
      refine AllReadyH.cons rfl (fun K hK => ?_) AllReadyH.nil
      go_simp
      go_at_call 15
      refine (HRV.out _ HI2.out).mono ?_
      rintro e w3 ⟨qb, cb, rfl, hrb, hb3⟩
      have HI3 := Lib.hid (HI2.out.on hb3)
      have HRB := Lib.hid hrb
      have HRA3 := Lib.hid (HRA.out.grow hb3)
      clear hrb hb3
      refine hK.out _ _ (HI3.out.x.four) (fun hHeld => ?_)
      clear hK K
      (try simp only [Act.put, List.getElem_toArray, List.getElem_cons_succ, List.getElem_cons_zero, List.setIfInBounds_toArray, List.set_cons_zero, List.set_cons_succ])
      refine wpAnyH_ready (rs := [6]) (by kernel_rfl) (by simp) ?_
      refine AllReadyH.cons rfl (fun K hK => ?_) AllReadyH.nil
      go_simp
      go_at_call 13
      refine (HNA.out _ _ _ _ _ HRA3.out HRB.out).mono ?_
      rintro e w4 ⟨rfl, hb4⟩
      have HI4 := Lib.hid (HI3.out.on hb4)
      clear hb4
      refine hK.out _ _ (HI4.out.x.four) (fun hHeld => ?_)
      clear hK K
      (try simp only [Act.put, List.getElem_toArray, List.getElem_cons_succ, List.getElem_cons_zero, List.setIfInBounds_toArray, List.set_cons_zero, List.set_cons_succ])
      refine wpAnyH_take (i := 7) (v := ?_) rfl (by kernel_rfl) (by kernel_rfl) (by kernel_rfl) (fun _ _ _ h => h) (Or.inl ⟨by rfl, ?hy⟩) (by assumption) ?_
      case hy =>
        intro wx hSw
        obtain ⟨q0, q1, q2, q3⟩ := hSw
        go_simp
        all_goals with_reducible rfl
      (try simp only [Act.put, List.getElem_toArray, List.getElem_cons_succ, List.getElem_cons_zero, List.setIfInBounds_toArray, List.set_cons_zero, List.set_cons_succ])
      refine wpAnyH_take (i := 8) (v := ?_) rfl (by kernel_rfl) (by kernel_rfl) (by kernel_rfl) (fun _ _ _ h => h) (Or.inl ⟨by rfl, ?hy⟩) (by assumption) ?_
      case hy =>
        intro wx hSw
        obtain ⟨q0, q1, q2, q3⟩ := hSw
        go_simp
        all_goals with_reducible rfl
      (try simp only [Act.put, List.getElem_toArray, List.getElem_cons_succ, List.getElem_cons_zero, List.setIfInBounds_toArray, List.set_cons_zero, List.set_cons_succ])
      refine wpAnyH_take (i := 10) (v := ?_) rfl (by kernel_rfl) (by kernel_rfl) (by kernel_rfl) (fun _ _ _ h => h) (Or.inl ⟨by rfl, ?hy⟩) (by assumption) ?_
      case hy =>
        intro wx hSw
        obtain ⟨q0, q1, q2, q3⟩ := hSw
        go_simp
        all_goals with_reducible rfl
      (try simp only [Act.put, List.getElem_toArray, List.getElem_cons_succ, List.getElem_cons_zero, List.setIfInBounds_toArray, List.set_cons_zero, List.set_cons_succ])
      refine wpAnyH_take (i := 13) (v := ?_) rfl (by kernel_rfl) (by kernel_rfl) (by kernel_rfl) (fun _ _ _ h => h) (Or.inl ⟨by rfl, ?hy⟩) (by assumption) ?_
      case hy =>
        intro wx hSw
        obtain ⟨q0, q1, q2, q3⟩ := hSw
        go_simp
        all_goals with_reducible rfl
      (try simp only [Act.put, List.getElem_toArray, List.getElem_cons_succ, List.getElem_cons_zero, List.setIfInBounds_toArray, List.set_cons_zero, List.set_cons_succ])
      refine wpAnyH_take (i := 14) (v := ?_) rfl (by kernel_rfl) (by kernel_rfl) (by kernel_rfl) (fun _ _ _ h => h) (Or.inl ⟨by rfl, ?hy⟩) (by assumption) ?_
      case hy =>
        intro wx hSw
        obtain ⟨q0, q1, q2, q3⟩ := hSw
        go_simp
        all_goals with_reducible rfl
      (try simp only [Act.put, List.getElem_toArray, List.getElem_cons_succ, List.getElem_cons_zero, List.setIfInBounds_toArray, List.set_cons_zero, List.set_cons_succ])
      refine wpAnyH_ready (rs := [9]) (by kernel_rfl) (by simp) ?_
      refine AllReadyH.cons rfl (fun K hK => ?_) AllReadyH.nil
      go_simp
      have HI5 := Lib.hid (HI4.out.on (below1 w4 (.cells #[] 3)))
      refine hK.out _ _ (HI5.out.x.four) (fun hHeld => ?_)
      clear hK K
      (try simp only [Act.put, List.getElem_toArray, List.getElem_cons_succ, List.getElem_cons_zero, List.setIfInBounds_toArray, List.set_cons_zero, List.set_cons_succ])
      refine wpAnyH_ready (rs := [11]) (by kernel_rfl) (by simp) ?_
      refine AllReadyH.cons rfl (fun K hK => ?_) AllReadyH.nil
      rw [if_pos (by rfl)]
      refine wp_copyE EI (.tmp 25) (.tmp 26) 29 rfl w4.heap.size 3 i0 (.int .i64 0) 8 underIs hii hz0 hz1 hzb rfl _ 0 rfl (grw_made (Nat.le_refl _)) q l c rfl (HLI.out.grow HI5.out.b) (by unfold maxLen; omega) (by omega) (by simp) ?_
      intro qc cc w6 _ hrc _ hb6
      have HI6 := Lib.hid (show LX w ⟨⟨kd, pr, p, cp, args⟩, rq, rc, body⟩ w6 from HI4.out.on (((below1 w4 (.cells #[] 3)).trans hb6)))
      have HRC := Lib.hid hrc
      clear hrc hb6
      refine hK.out _ _ (HI6.out.x.four) (fun hHeld => ?_)
      clear hK K
      (try simp only [Act.put, List.getElem_toArray, List.getElem_cons_succ, List.getElem_cons_zero, List.setIfInBounds_toArray, List.set_cons_zero, List.set_cons_succ])
      refine wpAnyH_ready (rs := [12]) (by kernel_rfl) (by simp) ?_
      refine AllReadyH.cons rfl (fun K hK => ?_) AllReadyH.nil
      go_simp
      go_at_call 16
      refine (HBD.out _ _ _ HI6.out HRC.out).mono ?_
      rintro e w7 ⟨qd, cd, rfl, hrd, hb7⟩
      have HI7 := Lib.hid (HI6.out.on hb7)
      have HRD := Lib.hid hrd
      clear hrd hb7
      refine hK.out _ _ (HI7.out.x.four) (fun hHeld => ?_)
      clear hK K
      (try simp only [Act.put, List.getElem_toArray, List.getElem_cons_succ, List.getElem_cons_zero, List.setIfInBounds_toArray, List.set_cons_zero, List.set_cons_succ])
      refine wpAnyH_ready (rs := [15]) (by kernel_rfl) (by simp) ?_
      refine AllReadyH.cons rfl (fun K hK => ?_) AllReadyH.nil
      go_simp
      go_at_call 17
      refine (HRF.out _ HI7.out).mono ?_
      rintro e w8 ⟨qe, ce, rfl, hre, hb8⟩
      have HI8 := Lib.hid (HI7.out.on hb8)
      have HRE := Lib.hid hre
      have HRD8 := Lib.hid (HRD.out.grow hb8)
      clear hre hb8
      refine hK.out _ _ (HI8.out.x.four) (fun hHeld => ?_)
      clear hK K
      (try simp only [Act.put, List.getElem_toArray, List.getElem_cons_succ, List.getElem_cons_zero, List.setIfInBounds_toArray, List.set_cons_zero, List.set_cons_succ])
      refine wpAnyH_ready (rs := [16]) (by kernel_rfl) (by simp) ?_
      refine AllReadyH.cons rfl (fun K hK => ?_) AllReadyH.nil
      go_simp
      go_at_call 13
      refine (HNB.out _ _ _ _ _ HRD8.out HRE.out).mono ?_
      rintro e w9 ⟨rfl, hb9⟩
      have HI9 := Lib.hid (HI8.out.on hb9)
      clear hb9
      refine hK.out _ _ (HI9.out.x.four) (fun hHeld => ?_)
      clear hK K
      (try simp only [Act.put, List.getElem_toArray, List.getElem_cons_succ, List.getElem_cons_zero, List.setIfInBounds_toArray, List.set_cons_zero, List.set_cons_succ])
      refine wpAnyH_take (i := 17) (v := ?_) rfl (by kernel_rfl) (by kernel_rfl) (by kernel_rfl) (fun _ _ _ h => h) (Or.inl ⟨by rfl, ?hy⟩) (by assumption) ?_
      case hy =>
        intro wx hSw
        obtain ⟨q0, q1, q2, q3⟩ := hSw
        go_simp
        all_goals with_reducible rfl
      (try simp only [Act.put, List.getElem_toArray, List.getElem_cons_succ, List.getElem_cons_zero, List.setIfInBounds_toArray, List.set_cons_zero, List.set_cons_succ])
      refine wpAnyH_take (i := 18) (v := ?_) rfl (by kernel_rfl) (by kernel_rfl) (by kernel_rfl) (fun _ _ _ h => h) (Or.inl ⟨by rfl, ?hy⟩) (by assumption) ?_
      case hy =>
        intro wx hSw
        obtain ⟨q0, q1, q2, q3⟩ := hSw
        go_simp
        all_goals with_reducible rfl
      (try simp only [Act.put, List.getElem_toArray, List.getElem_cons_succ, List.getElem_cons_zero, List.setIfInBounds_toArray, List.set_cons_zero, List.set_cons_succ])
      refine wpAnyH_done (by kernel_rfl) ?_ _
      go_wp2_with fail
      go_ret
      exact ⟨rfl, HI9.out.b⟩
end Go.Proofs.Ytbkdpdklpmcdgaa
