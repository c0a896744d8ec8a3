/-
  The walk of mandatelaw13.PlanWhole, way B. (Made by tools/mk_pwh.py.)
-/
import Derived.Test.YtbkdpdklpmcdgaaPwt
set_option linter.unusedVariables false
set_option linter.unusedSimpArgs false
namespace Go.Proofs.Ytbkdpdklpmcdgaa
open Go.Maps Go.ChangeMaps Go.WideMaps Go.RowKit

set_option maxHeartbeats 32000000 in
set_option maxRecDepth 100000 in
theorem whole_order (N : Nat) (hN : N ≤ 1048576) (r : Rl) (k : Int) (w : World) (hr : r.Arg w N) (h30 : r.body.length ≤ 30) (L : List Int) (hF : fromS r.body k = none) (hG : goesS r.body [] = some L) (hW : WholeW r.body L) :
    Calls Try.prog 5 #[r.agg, .int .i64 k] w fun e w' => e = .returned (.bool true) ∧ Below w.heap.size w w' := by
  have HI := Lib.hid (show LX w r (w.alloc (.cells #[.int .u8 r.head.kind, .string r.head.pred, .slice r.head.ptr r.head.args.length r.head.cap, .slice r.ptr r.body.length r.cap] 27)) from ⟨below1 w _, Bk0.new w _ _⟩)
  have HF := Lib.hid (fun X => fixed_any X)
  have hbl : r.body.length ≤ 1048576 := Nat.le_trans hr.len hN
  have HCR := Lib.hid (fun X (h : LX w r X) => copyrule_any N hN r X (hr.grow h.b))
  have HPF := Lib.hid (fun (d : Rl) (X : World) (hd : d.Arg X N) (he : d.body.map Fl.bare = r.body.map Fl.bare) => fromS_bare he k ▸ pfrom_any N hN d k X hd (by have := len_bare he; omega))
  have HPO := Lib.hid (fun (d : Rl) (X : World) (hd : d.Arg X N) (he : d.body.map Fl.bare = r.body.map Fl.bare) => goesS_bare he [] ▸ porder_any N hN d X hd (by have := len_bare he; omega))
  obtain ⟨i0, hii, hz0, hz1, hzb⟩ := info_parts infoInt
  obtain ⟨iB, hiB, hB0, hB1, hBb⟩ := info_parts infoBool
  have hmk : ∀ W : World, (Instr.makeSlice 42 (.int .i64 (r.body.length : Int)) (.int .i64 (r.body.length : Int))).run Try.prog W = .ok (.slice (some ⟨W.heap.size, 0, none⟩) r.body.length r.body.length) (W.alloc (.cells (namedA [] r.body.length) 4)) := fun W => by
    rw [← madeB]
    exact run_make_row 42 4 iB (.bool false) underBs hiB hB0 hB1 rfl .i64 .i64 r.body.length (by rw [hBb]; omega) (by omega) W
  have hLl : L.length = r.body.length := hW.len
  have HWH := Lib.hid hW
  have HVB := Lib.hid (fun (t : Nat) => show cntN (bindN r.body (L.take t)) ≤ 104857600 from bind_cnt hN (fun f hf => (hr.fl f hf).len) (by rw [List.length_take]; omega))
  have HVL := Lib.hid (fun (t : Nat) => show (varsN (bindN r.body (L.take t))).length ≤ 104857600 from Nat.le_trans (vars_cnt _) (HVB.out t))
  have HBD := Lib.hid (fun (t : Nat) (qc cc) (X : World) (h : LX w r X) (h2 : Rd encI 1 X X.heap.size qc (L.take t)) => bound_any r qc (L.take t) cc X h2 (hr.rd.grow h.b) (fun f hf => (hr.fl f hf).tm.grow h.b) (fun f hf => (hr.fl f hf).sz) (fun f hf => by have := (hr.fl f hf).len; omega) (by rw [List.length_take]; omega) (by have := HVB.out t; omega))
  have HPV := Lib.hid (fun (n : Nat) (hn : n < r.body.length) (X : World) (h : LX w r X) => plvars_any r.body[n] X ((hr.fl _ (List.getElem_mem hn)).tm.grow h.b) (hr.fl _ (List.getElem_mem hn)).sz (by have := (hr.fl _ (List.getElem_mem hn)).len; omega))
  have HLV := Lib.hid (fun (n : Nat) (hn : n < r.body.length) => show (litN [] r.body[n]).length ≤ 1048576 from Nat.le_trans (litN_len r.body[n].args []) (by have := (hr.fl _ (List.getElem_mem hn)).len; simpa using Nat.le_trans this hN))
  have HRB := Lib.hid hr.rd
  rw [hF] at HPF
  rw [hG] at HPO
  clear hr hF hW hG HVB
  unfold Fl.agg at HPV
  unfold PlanC at HPF HPO
  unfold Rl.agg at HCR HBD ⊢
  obtain ⟨⟨kd, pr, p, cp, args⟩, rq, rc, body⟩ := r
  simp only [Option.getD_some, Option.isSome_some, Option.getD_none, Option.isSome_none, List.length_nil] at HI HCR HPF HPO HBD HPV HRB HLV HVL HWH hmk hbl hLl h30 ⊢
  go_enter Try.func5, Try.ntmps5
  go_wp2_with fail
  refine (HF.out _).mono ?_
  rintro e w1 ⟨rfl, hb1⟩
  have HI1 := Lib.hid (HI.out.on hb1)
  obtain ⟨z0, z1, z2, z3⟩ := HI1.out.x.four
  clear hb1 HF HI
  have hA1 : ¬ (30 : Int) < (body.length : Int) := by omega
  go_wp2_with fail
  refine (HCR.out _ HI1.out).mono ?_
  rintro e w2 ⟨d, rfl, hda, _, hdb, hb2⟩
  have HI2 := Lib.hid (HI1.out.on hb2)
  have HC := Lib.hid (HPF.out d w2 hda hdb)
  clear hda hdb hb2 z0 z1 z2 z3 HI1 HPF
  go_wp2_with fail
  refine (HC.out).mono ?_
  rintro e w3 ⟨q3, c3, rfl, _, hb3⟩
  have HI3 := Lib.hid (HI2.out.on hb3)
  clear hb3 HC HI2
  obtain ⟨z0, z1, z2, z3⟩ := HI3.out.x.four
  go_wp2_with fail
  refine (HCR.out _ HI3.out).mono ?_
  rintro e w4 ⟨d, rfl, hda, _, hdb, hb4⟩
  have HI4 := Lib.hid (HI3.out.on hb4)
  have HC := Lib.hid (HPO.out d w4 hda hdb)
  clear hda hdb hb4 z0 z1 z2 z3 HI3 HCR HPO
  go_wp2_with fail
  refine (HC.out).mono ?_
  rintro e W3 ⟨ql, c, rfl, ⟨hcl, hra⟩, hb3⟩
  have HI3 := Lib.hid (HI4.out.on hb3)
  have HRL := Lib.hid hra
  clear hra hb3 HC HI4
  obtain ⟨z0, z1, z2, z3⟩ := HI3.out.x.four
  have HS := Lib.hid (show SW w ⟨⟨kd, pr, p, cp, args⟩, rq, rc, body⟩ W3.heap.size ql L [] (W3.alloc (.cells (namedA [] body.length) 4)) from ⟨HI3.out.on (below1 _ _), HRL.out.below (below1 _ _) (Nat.le_refl _), Bk0.new _ _ _, HI3.out.x.lt'⟩)
  clear HRL HI3
  go_wp2_with fail
  generalize W3.alloc (.cells (namedA [] body.length) 4) = W4 at *
  generalize W3.heap.size = s at *
  go_loopw [8] (fun i wr => ∃ t : Nat, t ≤ L.length ∧ i = .int .i64 t ∧ Hid (SW w ⟨⟨kd, pr, p, cp, args⟩, rq, rc, body⟩ s ql L (L.take t) wr)) (fun i _ => L.length - (intOf i).toNat)
  case atStart => exact ⟨0, Nat.zero_le _, rfl, HS⟩
  case round =>
    clear HS z0 z1 z2 z3
    obtain ⟨t, htl, rfl, HW⟩ := hrel
    obtain ⟨z0, z1, z2, z3⟩ := HW.out.lx.x.four
    by_cases hlt : t < L.length
    · obtain ⟨n, hn, hat⟩ := HWH.out.at_ t hlt
      have hnb := hat.lt
      have HAT := Lib.hid hat
      obtain ⟨b, o, rfl, hbb, x0⟩ := rdI_at HW.out.rl t hlt
      rw [hn] at x0
      have x1 := HW.out.xn.cell n _ (by rw [Array.getElem?_toList]; exact namedA_get hnb)
      rw [decide_eq_false hat.new] at x1
      have hj0 : (0 : Int) ≤ (t : Int) := by omega
      have htc : t ≤ c := by omega
      have htc1 : (t : Int) ≤ (c : Int) := by omega
      have hj1 : (t : Int) < (L.length : Int) := by omega
      have hn0 : ¬ (n : Int) < 0 := by omega
      have hn1 : ¬ (body.length : Int) ≤ (n : Int) := by omega
      have hn2 : (0 : Int) ≤ (n : Int) := by omega
      have hn3 : (n : Int) < (body.length : Int) := by omega
      have HTK := Lib.hid (show L.take t ++ [(n : Int)] = L.take (t + 1) by rw [List.take_succ_eq_append_getElem hlt, hn])
      clear hat
      have hLt : (L.take t).length = t := by rw [List.length_take]; omega
      have HRT := Lib.hid (fun (X : World) (h : Rd encI 1 X s (some ⟨b, o, none⟩) L) => rd_take h t)
      have HBT := Lib.hid (HBD.out t)
      have hVl := HVL.out t
      have HNE := Lib.hid (show 0 < t → L.take t ≠ [] from fun h0 e => by rw [e] at hLt; simp at hLt; omega)
      have HTS := Lib.hid (fun (j : Nat) (h : ¬ (j : Int) ∈ L.take (t + 1)) (e : (j : Int) ∈ L.take t) => h (HTK.out ▸ List.mem_append_left _ e))
      generalize L.take t = Lt at *
      rw [hLt] at HBT
      go_upto_region 14 with fail
      refine wp_region_held_drew (S := fun X => X.cell? ⟨w.heap.size, 3, none⟩ = some (.slice rq body.length rc) ∧ X.cell? ⟨b, o + t, none⟩ = some (.int .i64 (n : Int)) ∧ X.cell? ⟨s, n, none⟩ = some (.bool false)) (by kernel_rfl) ⟨z3, x0, x1⟩ (fun hHeld => ?_)
      refine wpAnyH_take (i := 0) (v := ?_) rfl (by kernel_rfl) (by kernel_rfl) (by kernel_rfl) (fun _ _ _ h => h) (Or.inl ⟨by rfl, ?hy⟩) (by assumption) ?_
      case hy =>
        intro wx hSw
        obtain ⟨q0, q1, q2⟩ := hSw
        go_simp
        all_goals with_reducible rfl
      (try simp only [Act.put, List.getElem_toArray, List.getElem_cons_succ, List.getElem_cons_zero, List.setIfInBounds_toArray, List.set_cons_zero, List.set_cons_succ])
      refine wpAnyH_take (i := 1) (v := ?_) rfl (by kernel_rfl) (by kernel_rfl) (by kernel_rfl) (fun _ _ _ h => h) (Or.inl ⟨by rfl, ?hy⟩) (by assumption) ?_
      case hy =>
        intro wx hSw
        obtain ⟨q0, q1, q2⟩ := hSw
        go_simp
        all_goals with_reducible rfl
      (try simp only [Act.put, List.getElem_toArray, List.getElem_cons_succ, List.getElem_cons_zero, List.setIfInBounds_toArray, List.set_cons_zero, List.set_cons_succ])
      refine wpAnyH_take (i := 2) (v := ?_) rfl (by kernel_rfl) (by kernel_rfl) (by kernel_rfl) (fun _ _ _ h => h) (Or.inl ⟨by rfl, ?hy⟩) (by assumption) ?_
      case hy =>
        intro wx hSw
        obtain ⟨q0, q1, q2⟩ := hSw
        go_simp
        all_goals with_reducible rfl
      (try simp only [Act.put, List.getElem_toArray, List.getElem_cons_succ, List.getElem_cons_zero, List.setIfInBounds_toArray, List.set_cons_zero, List.set_cons_succ])
      refine wpAnyH_take (i := 3) (v := ?_) rfl (by kernel_rfl) (by kernel_rfl) (by kernel_rfl) (fun _ _ _ h => h) (Or.inl ⟨by rfl, ?hy⟩) (by assumption) ?_
      case hy =>
        intro wx hSw
        obtain ⟨q0, q1, q2⟩ := hSw
        go_simp
        all_goals with_reducible rfl
      (try simp only [Act.put, List.getElem_toArray, List.getElem_cons_succ, List.getElem_cons_zero, List.setIfInBounds_toArray, List.set_cons_zero, List.set_cons_succ])
      refine wpAnyH_take (i := 4) (v := ?_) rfl (by kernel_rfl) (by kernel_rfl) (by kernel_rfl) (fun _ _ _ h => h) (Or.inl ⟨by rfl, ?hy⟩) (by assumption) ?_
      case hy =>
        intro wx hSw
        obtain ⟨q0, q1, q2⟩ := hSw
        go_simp
        all_goals with_reducible rfl
      (try simp only [Act.put, List.getElem_toArray, List.getElem_cons_succ, List.getElem_cons_zero, List.setIfInBounds_toArray, List.set_cons_zero, List.set_cons_succ])
      refine wpAnyH_take (i := 5) (v := ?_) rfl (by kernel_rfl) (by kernel_rfl) (by kernel_rfl) (fun _ _ _ h => h) (Or.inl ⟨by rfl, ?hy⟩) (by assumption) ?_
      case hy =>
        intro wx hSw
        obtain ⟨q0, q1, q2⟩ := hSw
        go_simp
        all_goals with_reducible rfl
      (try simp only [Act.put, List.getElem_toArray, List.getElem_cons_succ, List.getElem_cons_zero, List.setIfInBounds_toArray, List.set_cons_zero, List.set_cons_succ])
      refine wpAnyH_take (i := 6) (v := ?_) rfl (by kernel_rfl) (by kernel_rfl) (by kernel_rfl) (fun _ _ _ h => h) (Or.inl ⟨by rfl, ?hy⟩) (by assumption) ?_
      case hy =>
        intro wx hSw
        obtain ⟨q0, q1, q2⟩ := hSw
        go_simp
        all_goals with_reducible rfl
      (try simp only [Act.put, List.getElem_toArray, List.getElem_cons_succ, List.getElem_cons_zero, List.setIfInBounds_toArray, List.set_cons_zero, List.set_cons_succ])
      refine wpAnyH_take (i := 7) (v := ?_) rfl (by kernel_rfl) (by kernel_rfl) (by kernel_rfl) (fun _ _ _ h => h) (Or.inl ⟨by rfl, ?hy⟩) (by assumption) ?_
      case hy =>
        intro wx hSw
        obtain ⟨q0, q1, q2⟩ := hSw
        go_simp
        all_goals with_reducible rfl
      (try simp only [Act.put, List.getElem_toArray, List.getElem_cons_succ, List.getElem_cons_zero, List.setIfInBounds_toArray, List.set_cons_zero, List.set_cons_succ])
      refine wpAnyH_take (i := 8) (v := ?_) rfl (by kernel_rfl) (by kernel_rfl) (by kernel_rfl) (fun _ _ _ h => h) (Or.inl ⟨by rfl, ?hy⟩) (by assumption) ?_
      case hy =>
        intro wx hSw
        obtain ⟨q0, q1, q2⟩ := hSw
        go_simp
        all_goals with_reducible rfl
      (try simp only [Act.put, List.getElem_toArray, List.getElem_cons_succ, List.getElem_cons_zero, List.setIfInBounds_toArray, List.set_cons_zero, List.set_cons_succ])
      refine wpAnyH_take (i := 9) (v := ?_) rfl (by kernel_rfl) (by kernel_rfl) (by kernel_rfl) (fun _ _ _ h => h) (Or.inl ⟨by rfl, ?hy⟩) (by assumption) ?_
      case hy =>
        intro wx hSw
        obtain ⟨q0, q1, q2⟩ := hSw
        go_simp
        all_goals with_reducible rfl
      (try simp only [Act.put, List.getElem_toArray, List.getElem_cons_succ, List.getElem_cons_zero, List.setIfInBounds_toArray, List.set_cons_zero, List.set_cons_succ])
      refine wpAnyH_take (i := 10) (v := ?_) rfl (by kernel_rfl) (by kernel_rfl) (by kernel_rfl) (fun _ _ _ h => h) (Or.inl ⟨by rfl, ?hy⟩) (by assumption) ?_
      case hy =>
        intro wx hSw
        obtain ⟨q0, q1, q2⟩ := hSw
        go_simp
        all_goals with_reducible rfl
      (try simp only [Act.put, List.getElem_toArray, List.getElem_cons_succ, List.getElem_cons_zero, List.setIfInBounds_toArray, List.set_cons_zero, List.set_cons_succ])
      refine wpAnyH_take (i := 11) (v := ?_) rfl (by kernel_rfl) (by kernel_rfl) (by kernel_rfl) (fun _ _ _ h => h) (Or.inl ⟨by rfl, ?hy⟩) (by assumption) ?_
      case hy =>
        intro wx hSw
        obtain ⟨q0, q1, q2⟩ := hSw
        go_simp
        all_goals with_reducible rfl
      (try simp only [Act.put, List.getElem_toArray, List.getElem_cons_succ, List.getElem_cons_zero, List.setIfInBounds_toArray, List.set_cons_zero, List.set_cons_succ])
      refine wpAnyH_take (i := 12) (v := ?_) rfl (by kernel_rfl) (by kernel_rfl) (by kernel_rfl) (fun _ _ _ h => h) (Or.inl ⟨by rfl, ?hy⟩) (by assumption) ?_
      case hy =>
        intro wx hSw
        obtain ⟨q0, q1, q2⟩ := hSw
        go_simp
        all_goals with_reducible rfl
      (try simp only [Act.put, List.getElem_toArray, List.getElem_cons_succ, List.getElem_cons_zero, List.setIfInBounds_toArray, List.set_cons_zero, List.set_cons_succ])
      refine wpAnyH_take (i := 13) (v := ?_) rfl (by kernel_rfl) (by kernel_rfl) (by kernel_rfl) (fun _ _ _ h => h) (Or.inl ⟨by rfl, ?hy⟩) (by assumption) ?_
      case hy =>
        intro wx hSw
        obtain ⟨q0, q1, q2⟩ := hSw
        go_simp
        all_goals with_reducible rfl
      (try simp only [Act.put, List.getElem_toArray, List.getElem_cons_succ, List.getElem_cons_zero, List.setIfInBounds_toArray, List.set_cons_zero, List.set_cons_succ])
      refine wpAnyH_take (i := 14) (v := ?_) rfl (by kernel_rfl) (by kernel_rfl) (by kernel_rfl) (fun _ _ _ h => h) (Or.inl ⟨by rfl, ?hy⟩) (by assumption) ?_
      case hy =>
        intro wx hSw
        obtain ⟨q0, q1, q2⟩ := hSw
        go_simp
        all_goals with_reducible rfl
      (try simp only [Act.put, List.getElem_toArray, List.getElem_cons_succ, List.getElem_cons_zero, List.setIfInBounds_toArray, List.set_cons_zero, List.set_cons_succ])
      refine wpAnyH_take (i := 15) (v := ?_) rfl (by kernel_rfl) (by kernel_rfl) (by kernel_rfl) (fun _ _ _ h => h) (Or.inl ⟨by rfl, ?hy⟩) (by assumption) ?_
      case hy =>
        intro wx hSw
        obtain ⟨q0, q1, q2⟩ := hSw
        go_simp
        all_goals with_reducible rfl
      (try simp only [Act.put, List.getElem_toArray, List.getElem_cons_succ, List.getElem_cons_zero, List.setIfInBounds_toArray, List.set_cons_zero, List.set_cons_succ])
      refine wpAnyH_take (i := 16) (v := ?_) rfl (by kernel_rfl) (by kernel_rfl) (by kernel_rfl) (fun _ _ _ h => h) (Or.inl ⟨by rfl, ?hy⟩) (by assumption) ?_
      case hy =>
        intro wx hSw
        obtain ⟨q0, q1, q2⟩ := hSw
        go_simp
        all_goals with_reducible rfl
      (try simp only [Act.put, List.getElem_toArray, List.getElem_cons_succ, List.getElem_cons_zero, List.setIfInBounds_toArray, List.set_cons_zero, List.set_cons_succ])
      refine wpAnyH_take (i := 17) (v := ?_) rfl (by kernel_rfl) (by kernel_rfl) (by kernel_rfl) (fun _ _ _ h => h) (Or.inl ⟨by rfl, ?hy⟩) (by assumption) ?_
      case hy =>
        intro wx hSw
        obtain ⟨q0, q1, q2⟩ := hSw
        go_simp
        all_goals with_reducible rfl
      (try simp only [Act.put, List.getElem_toArray, List.getElem_cons_succ, List.getElem_cons_zero, List.setIfInBounds_toArray, List.set_cons_zero, List.set_cons_succ])
      refine wpAnyH_take (i := 18) (v := ?_) rfl (by kernel_rfl) (by kernel_rfl) (by kernel_rfl) (fun _ _ _ h => h) (Or.inl ⟨by rfl, ?hy⟩) (by assumption) ?_
      case hy =>
        intro wx hSw
        obtain ⟨q0, q1, q2⟩ := hSw
        go_simp
        all_goals with_reducible rfl
      (try simp only [Act.put, List.getElem_toArray, List.getElem_cons_succ, List.getElem_cons_zero, List.setIfInBounds_toArray, List.set_cons_zero, List.set_cons_succ])
      refine wpAnyH_take (i := 19) (v := ?_) rfl (by kernel_rfl) (by kernel_rfl) (by kernel_rfl) (fun _ _ _ h => h) (Or.inl ⟨by rfl, ?hy⟩) (by assumption) ?_
      case hy =>
        intro wx hSw
        obtain ⟨q0, q1, q2⟩ := hSw
        go_simp
        all_goals with_reducible rfl
      (try simp only [Act.put, List.getElem_toArray, List.getElem_cons_succ, List.getElem_cons_zero, List.setIfInBounds_toArray, List.set_cons_zero, List.set_cons_succ])
      refine wpAnyH_take (i := 20) (v := ?_) rfl (by kernel_rfl) (by kernel_rfl) (by kernel_rfl) (fun _ _ _ h => h) (Or.inl ⟨by rfl, ?hy⟩) (by assumption) ?_
      case hy =>
        intro wx hSw
        obtain ⟨q0, q1, q2⟩ := hSw
        go_simp
        all_goals with_reducible rfl
      (try simp only [Act.put, List.getElem_toArray, List.getElem_cons_succ, List.getElem_cons_zero, List.setIfInBounds_toArray, List.set_cons_zero, List.set_cons_succ])
      refine wpAnyH_take (i := 21) (v := ?_) rfl (by kernel_rfl) (by kernel_rfl) (by kernel_rfl) (fun _ _ _ h => h) (Or.inl ⟨by rfl, ?hy⟩) (by assumption) ?_
      case hy =>
        intro wx hSw
        obtain ⟨q0, q1, q2⟩ := hSw
        go_simp
        all_goals with_reducible rfl
      (try simp only [Act.put, List.getElem_toArray, List.getElem_cons_succ, List.getElem_cons_zero, List.setIfInBounds_toArray, List.set_cons_zero, List.set_cons_succ])
      refine wpAnyH_take (i := 22) (v := ?_) rfl (by kernel_rfl) (by kernel_rfl) (by kernel_rfl) (fun _ _ _ h => h) (Or.inl ⟨by rfl, ?hy⟩) (by assumption) ?_
      case hy =>
        intro wx hSw
        obtain ⟨q0, q1, q2⟩ := hSw
        go_simp
        all_goals with_reducible rfl
      (try simp only [Act.put, List.getElem_toArray, List.getElem_cons_succ, List.getElem_cons_zero, List.setIfInBounds_toArray, List.set_cons_zero, List.set_cons_succ])
      refine wpAnyH_take (i := 23) (v := ?_) rfl (by kernel_rfl) (by kernel_rfl) (by kernel_rfl) (fun _ _ _ h => h) (Or.inl ⟨by rfl, ?hy⟩) (by assumption) ?_
      case hy =>
        intro wx hSw
        obtain ⟨q0, q1, q2⟩ := hSw
        go_simp
        all_goals with_reducible rfl
      (try simp only [Act.put, List.getElem_toArray, List.getElem_cons_succ, List.getElem_cons_zero, List.setIfInBounds_toArray, List.set_cons_zero, List.set_cons_succ])
      refine wpAnyH_done (by kernel_rfl) ?_ _
      have HW1 := Lib.hid (HW.out.on (Below.refl wr.heap.size wr).drew)
      obtain ⟨b9, o9, e9, _, x2⟩ := rdI_at HW1.out.rl t hlt
      cases e9
      rw [hn] at x2
      have fn := HW1.out.xn.soft n
      clear x0 x1 z0 z1 z2 z3
      go_upto_region 17 with fail
      have HW2 := Lib.hid ((HW.out.mark (k := n)).on (Below.refl (wr.setCell ⟨s, n, none⟩ (.bool true)).heap.size (wr.setCell ⟨s, n, none⟩ (.bool true))).drew)
      rw [HTK.out] at HW2
      clear x2 fn HW1 HW
      generalize (wr.setCell ⟨s, n, none⟩ (.bool true)).drew = w2 at *
      obtain ⟨z0, z1, z2, z3⟩ := HW2.out.lx.x.four
      refine wp_region_held_drew (S := fun X => X.cell? ⟨w.heap.size, 0, none⟩ = some (.int .u8 kd) ∧ X.cell? ⟨w.heap.size, 1, none⟩ = some (.string pr) ∧ X.cell? ⟨w.heap.size, 2, none⟩ = some (.slice p args.length cp) ∧ X.cell? ⟨w.heap.size, 3, none⟩ = some (.slice rq body.length rc)) (by kernel_rfl) ⟨z0, z1, z2, z3⟩ (fun hHeld => ?_)
      refine wpAnyH_take (i := 0) (v := ?_) rfl (by kernel_rfl) (by kernel_rfl) (by kernel_rfl) (fun _ _ _ h => h) (Or.inl ⟨by rfl, ?hy⟩) (by assumption) ?_
      case hy =>
        intro wx hSw
        obtain ⟨q0, q1, q2, q3⟩ := hSw
        go_simp
        all_goals with_reducible rfl
      (try simp only [Act.put, List.getElem_toArray, List.getElem_cons_succ, List.getElem_cons_zero, List.setIfInBounds_toArray, List.set_cons_zero, List.set_cons_succ])
      refine wpAnyH_take (i := 2) (v := ?_) rfl (by kernel_rfl) (by kernel_rfl) (by kernel_rfl) (fun _ _ _ h => h) (Or.inl ⟨by rfl, ?hy⟩) (by assumption) ?_
      case hy =>
        intro wx hSw
        obtain ⟨q0, q1, q2, q3⟩ := hSw
        go_simp
        all_goals with_reducible rfl
      (try simp only [Act.put, List.getElem_toArray, List.getElem_cons_succ, List.getElem_cons_zero, List.setIfInBounds_toArray, List.set_cons_zero, List.set_cons_succ])
      refine wpAnyH_take (i := 3) (v := ?_) rfl (by kernel_rfl) (by kernel_rfl) (by kernel_rfl) (fun _ _ _ h => h) (Or.inl ⟨by rfl, ?hy⟩) (by assumption) ?_
      case hy =>
        intro wx hSw
        obtain ⟨q0, q1, q2, q3⟩ := hSw
        go_simp
        all_goals with_reducible rfl
      (try simp only [Act.put, List.getElem_toArray, List.getElem_cons_succ, List.getElem_cons_zero, List.setIfInBounds_toArray, List.set_cons_zero, List.set_cons_succ])
      refine wpAnyH_take (i := 4) (v := ?_) rfl (by kernel_rfl) (by kernel_rfl) (by kernel_rfl) (fun _ _ _ h => h) (Or.inl ⟨by rfl, ?hy⟩) (by assumption) ?_
      case hy =>
        intro wx hSw
        obtain ⟨q0, q1, q2, q3⟩ := hSw
        go_simp
        all_goals with_reducible rfl
      (try simp only [Act.put, List.getElem_toArray, List.getElem_cons_succ, List.getElem_cons_zero, List.setIfInBounds_toArray, List.set_cons_zero, List.set_cons_succ])
      refine wpAnyH_ready (rs := [1]) (by kernel_rfl) (by simp) ?_
      refine AllReadyH.cons rfl (fun K hK => ?_) AllReadyH.nil
      go_simp
      have HW3 := Lib.hid ((HW2.out.on (Below.refl w2.heap.size w2).drew).on (below1 w2.drew (.cells #[] 3)))
      refine hK.out _ _ (HW3.out.lx.x.four) (fun hHeld => ?_)
      clear hK K
      (try simp only [Act.put, List.getElem_toArray, List.getElem_cons_succ, List.getElem_cons_zero, List.setIfInBounds_toArray, List.set_cons_zero, List.set_cons_succ])
      refine wpAnyH_ready (rs := [5]) (by kernel_rfl) (by simp) ?_
      refine AllReadyH.cons rfl (fun K hK => ?_) AllReadyH.nil
      rw [if_pos (by rfl)]
      refine wp_copyE EI (.tmp 84) (.tmp 87) 29 rfl w2.heap.size 3 i0 (.int .i64 0) 8 underIs hii hz0 hz1 hzb rfl _ 0 rfl (grw_made (Nat.le_refl _)) (some ⟨b, o, none⟩) Lt c (by rw [hLt]; rfl) (HRT.out _ HW3.out.rl) (by unfold maxLen; omega) (by omega) (by simp) ?_
      intro qc cc w5 _ hrc _ hb5
      have HW5 := Lib.hid ((HW2.out.on (Below.refl w2.heap.size w2).drew).on ((below1 w2.drew (.cells #[] 3)).trans hb5))
      have HRC := Lib.hid hrc
      clear hrc hb5
      refine hK.out _ _ (HW5.out.lx.x.four) (fun hHeld => ?_)
      clear hK K
      (try simp only [Act.put, List.getElem_toArray, List.getElem_cons_succ, List.getElem_cons_zero, List.setIfInBounds_toArray, List.set_cons_zero, List.set_cons_succ])
      refine wpAnyH_ready (rs := [6]) (by kernel_rfl) (by simp) ?_
      refine AllReadyH.cons rfl (fun K hK => ?_) AllReadyH.nil
      go_simp
      go_at_call 16
      refine (HBT.out _ _ _ HW5.out.lx HRC.out).mono ?_
      rintro e w6 ⟨qh, ch, rfl, hrh, hb6⟩
      have HW6 := Lib.hid (show SH w ⟨⟨kd, pr, p, cp, args⟩, rq, rc, body⟩ s (some ⟨b, o, none⟩) L (L.take (t + 1)) qh (varsN (bindN body Lt)) w6 from ⟨HW5.out.on hb6, hrh⟩)
      clear hrh hb6
      refine hK.out _ _ (HW6.out.sw.lx.x.four) (fun hHeld => ?_)
      clear hK K
      (try simp only [Act.put, List.getElem_toArray, List.getElem_cons_succ, List.getElem_cons_zero, List.setIfInBounds_toArray, List.set_cons_zero, List.set_cons_succ])
      refine wpAnyH_take (i := 7) (v := ?_) rfl (by kernel_rfl) (by kernel_rfl) (by kernel_rfl) (fun _ _ _ h => h) (Or.inl ⟨by rfl, ?hy⟩) (by assumption) ?_
      case hy =>
        intro wx hSw
        obtain ⟨q0, q1, q2, q3⟩ := hSw
        go_simp
        all_goals with_reducible rfl
      (try simp only [Act.put, List.getElem_toArray, List.getElem_cons_succ, List.getElem_cons_zero, List.setIfInBounds_toArray, List.set_cons_zero, List.set_cons_succ])
      refine wpAnyH_done (by kernel_rfl) ?_ _
      have HAS := Lib.hid HAT.out.ask
      have HBN := Lib.hid HAT.out.bnd
      generalize varsN (bindN body Lt) = V at *
      clear HW2 HW3 HW5 HRC z0 z1 z2 z3
      have HW7 := Lib.hid (HW6.out.on (Below.refl w6.heap.size w6).drew)
      obtain ⟨z0, z1, z2, z3⟩ := HW6.out.sw.lx.x.four
      obtain ⟨b9, o9, e9, _, x0⟩ := rdI_at HW6.out.sw.rl t hlt
      cases e9
      rw [hn] at x0
      obtain ⟨b2, o2, rfl, hbb2, y0, y1, y2⟩ := rdF_at (HRB.out.below HW6.out.sw.lx.b (Nat.le_refl _)) n hnb
      have HPN := Lib.hid (HPV.out n hnb)
      have HLN := Lib.hid (HLV.out n hnb)
      generalize body[n] = f at *
      obtain ⟨fk, fpr, fq, fc, fa⟩ := f
      simp only at y0 y1 y2 HAS HBN HPN HLN
      go_upto_region 18 with fail
      refine wp_region_held_drew (S := fun X => X.cell? ⟨w.heap.size, 3, none⟩ = some (.slice (some ⟨b2, o2, none⟩) body.length rc) ∧ X.cell? ⟨b, o + t, none⟩ = some (.int .i64 (n : Int)) ∧ X.cell? ⟨b2, o2 + n * 3, none⟩ = some (.int .u8 fk) ∧ X.cell? ⟨b2, o2 + n * 3 + 1, none⟩ = some (.string fpr) ∧ X.cell? ⟨b2, o2 + n * 3 + 2, none⟩ = some (.slice fq fa.length fc)) (by kernel_rfl) ⟨z3, x0, y0, y1, y2⟩ (fun hHeld => ?_)
      refine wpAnyH_take (i := 0) (v := ?_) rfl (by kernel_rfl) (by kernel_rfl) (by kernel_rfl) (fun _ _ _ h => h) (Or.inl ⟨by rfl, ?hy⟩) (by assumption) ?_
      case hy =>
        intro wx hSw
        obtain ⟨q0, q1, q2, q3, q4⟩ := hSw
        go_simp
        all_goals with_reducible rfl
      (try simp only [Act.put, List.getElem_toArray, List.getElem_cons_succ, List.getElem_cons_zero, List.setIfInBounds_toArray, List.set_cons_zero, List.set_cons_succ])
      refine wpAnyH_take (i := 1) (v := ?_) rfl (by kernel_rfl) (by kernel_rfl) (by kernel_rfl) (fun _ _ _ h => h) (Or.inl ⟨by rfl, ?hy⟩) (by assumption) ?_
      case hy =>
        intro wx hSw
        obtain ⟨q0, q1, q2, q3, q4⟩ := hSw
        go_simp
        all_goals with_reducible rfl
      (try simp only [Act.put, List.getElem_toArray, List.getElem_cons_succ, List.getElem_cons_zero, List.setIfInBounds_toArray, List.set_cons_zero, List.set_cons_succ])
      refine wpAnyH_take (i := 2) (v := ?_) rfl (by kernel_rfl) (by kernel_rfl) (by kernel_rfl) (fun _ _ _ h => h) (Or.inl ⟨by rfl, ?hy⟩) (by assumption) ?_
      case hy =>
        intro wx hSw
        obtain ⟨q0, q1, q2, q3, q4⟩ := hSw
        go_simp
        all_goals with_reducible rfl
      (try simp only [Act.put, List.getElem_toArray, List.getElem_cons_succ, List.getElem_cons_zero, List.setIfInBounds_toArray, List.set_cons_zero, List.set_cons_succ])
      refine wpAnyH_take (i := 3) (v := ?_) rfl (by kernel_rfl) (by kernel_rfl) (by kernel_rfl) (fun _ _ _ h => h) (Or.inl ⟨by rfl, ?hy⟩) (by assumption) ?_
      case hy =>
        intro wx hSw
        obtain ⟨q0, q1, q2, q3, q4⟩ := hSw
        go_simp
        all_goals with_reducible rfl
      (try simp only [Act.put, List.getElem_toArray, List.getElem_cons_succ, List.getElem_cons_zero, List.setIfInBounds_toArray, List.set_cons_zero, List.set_cons_succ])
      refine wpAnyH_take (i := 4) (v := ?_) rfl (by kernel_rfl) (by kernel_rfl) (by kernel_rfl) (fun _ _ _ h => h) (Or.inl ⟨by rfl, ?hy⟩) (by assumption) ?_
      case hy =>
        intro wx hSw
        obtain ⟨q0, q1, q2, q3, q4⟩ := hSw
        go_simp
        all_goals with_reducible rfl
      (try simp only [Act.put, List.getElem_toArray, List.getElem_cons_succ, List.getElem_cons_zero, List.setIfInBounds_toArray, List.set_cons_zero, List.set_cons_succ])
      refine wpAnyH_take (i := 5) (v := ?_) rfl (by kernel_rfl) (by kernel_rfl) (by kernel_rfl) (fun _ _ _ h => h) (Or.inl ⟨by rfl, ?hy⟩) (by assumption) ?_
      case hy =>
        intro wx hSw
        obtain ⟨q0, q1, q2, q3, q4⟩ := hSw
        go_simp
        all_goals with_reducible rfl
      (try simp only [Act.put, List.getElem_toArray, List.getElem_cons_succ, List.getElem_cons_zero, List.setIfInBounds_toArray, List.set_cons_zero, List.set_cons_succ])
      refine wpAnyH_take (i := 6) (v := ?_) rfl (by kernel_rfl) (by kernel_rfl) (by kernel_rfl) (fun _ _ _ h => h) (Or.inl ⟨by rfl, ?hy⟩) (by assumption) ?_
      case hy =>
        intro wx hSw
        obtain ⟨q0, q1, q2, q3, q4⟩ := hSw
        go_simp
        all_goals with_reducible rfl
      (try simp only [Act.put, List.getElem_toArray, List.getElem_cons_succ, List.getElem_cons_zero, List.setIfInBounds_toArray, List.set_cons_zero, List.set_cons_succ])
      refine wpAnyH_take (i := 7) (v := ?_) rfl (by kernel_rfl) (by kernel_rfl) (by kernel_rfl) (fun _ _ _ h => h) (Or.inl ⟨by rfl, ?hy⟩) (by assumption) ?_
      case hy =>
        intro wx hSw
        obtain ⟨q0, q1, q2, q3, q4⟩ := hSw
        go_simp
        all_goals with_reducible rfl
      (try simp only [Act.put, List.getElem_toArray, List.getElem_cons_succ, List.getElem_cons_zero, List.setIfInBounds_toArray, List.set_cons_zero, List.set_cons_succ])
      refine wpAnyH_ready (rs := [8]) (by kernel_rfl) (by simp) ?_
      refine AllReadyH.cons rfl (fun K hK => ?_) AllReadyH.nil
      go_simp
      have hb8 := (below1 w6 (.cells #[.int .u8 0, .string ⟨#[]⟩, .slice none 0 0] 24)).drew
      have hcl := (bcell hb8).1
      have hb0 : w.heap.size < w6.heap.size := HW6.out.sw.lx.x.lt'
      have hbb0 : b < w6.heap.size := lt_of_cell x0
      have hbb2 : b2 < w6.heap.size := lt_of_cell y0
      refine hK.out _ _ (⟨(hcl _ _ hb0).trans z3, (hcl _ _ hbb0).trans x0, (hcl _ _ hbb2).trans y0, (hcl _ _ hbb2).trans y1, (hcl _ _ hbb2).trans y2⟩) (fun hHeld => ?_)
      clear hK K
      (try simp only [Act.put, List.getElem_toArray, List.getElem_cons_succ, List.getElem_cons_zero, List.setIfInBounds_toArray, List.set_cons_zero, List.set_cons_succ])
      refine wpAnyH_ready (rs := [9]) (by kernel_rfl) (by simp) ?_
      refine AllReadyH.cons rfl (fun K hK => ?_) AllReadyH.nil
      go_simp
      have hb9 := (below1 w6 (.cells #[.int .u8 fk, .string fpr, .slice fq fa.length fc] 24)).drew
      have hcl := (bcell hb9).1
      refine hK.out _ _ (⟨(hcl _ _ hb0).trans z3, (hcl _ _ hbb0).trans x0, (hcl _ _ hbb2).trans y0, (hcl _ _ hbb2).trans y1, (hcl _ _ hbb2).trans y2⟩) (fun hHeld => ?_)
      clear hK K
      (try simp only [Act.put, List.getElem_toArray, List.getElem_cons_succ, List.getElem_cons_zero, List.setIfInBounds_toArray, List.set_cons_zero, List.set_cons_succ])
      refine wpAnyH_done (by kernel_rfl) ?_ _
      have HW9 := Lib.hid (HW6.out.on hb9)
      have HB9 := Lib.hid (show Bk0 (w6.alloc (.cells #[.int .u8 fk, .string fpr, .slice fq fa.length fc] 24)).drew w6.heap.size 24 #[.int .u8 fk, .string fpr, .slice fq fa.length fc] from Bk0.new w6 _ _)
      clear hcl hb8 hb9 hb0 hbb0 hbb2 x0 y0 y1 y2 z0 z1 z2 z3 HW6 HW7 hHeld
      generalize (w6.alloc (.cells #[.int .u8 fk, .string fpr, .slice fq fa.length fc] 24)).drew = w9 at *
      generalize w6.heap.size = fb at *
      obtain ⟨g0, g1, g2⟩ := HB9.out.three
      have HINN := Lib.hid (fun (x : ByteArray) (X : World) (h : SH w ⟨⟨kd, pr, p, cp, args⟩, some ⟨b2, o2, none⟩, rc, body⟩ s (some ⟨b, o, none⟩) L (L.take (t + 1)) qh V X) => in_any qh V ch x X h.rd (by omega))
      by_cases hk1 : fk = 1
      · subst hk1
        have HBJ := Lib.hid (HBN.out rfl)
        clear HAS HBN HPN HLN
        go_wp2_with fail
        clear g0 g1 g2 HB9
        go_loopw [11] (fun i wr => ∃ j : Nat, j ≤ body.length ∧ i = .int .i64 j ∧ Hid (SH w ⟨⟨kd, pr, p, cp, args⟩, some ⟨b2, o2, none⟩, rc, body⟩ s (some ⟨b, o, none⟩) L (L.take (t + 1)) qh V wr)) (fun i _ => body.length - (intOf i).toNat)
        case atStart => exact ⟨0, Nat.zero_le _, rfl, HW9⟩
        case round =>
          clear HW9
          obtain ⟨j, hj, rfl, HW⟩ := hrel
          obtain ⟨z0, z1, z2, z3⟩ := HW.out.sw.lx.x.four
          by_cases hjl : j < body.length
          · have hm0 : (0 : Int) ≤ (j : Int) := by omega
            have hm1 : (j : Int) < (body.length : Int) := by omega
            by_cases ht0 : 0 < t
            · have ht1 : (0 : Int) < (t : Int) := by omega
              obtain ⟨b3, o3, e3, _, u0, u1, u2⟩ := rdF_at (HRB.out.below HW.out.sw.lx.b (Nat.le_refl _)) j hjl
              cases e3
              have hxn := HW.out.sw.xn.cell j _ (by rw [Array.getElem?_toList]; exact namedA_get hjl)
              have HBK := Lib.hid (fun h => HBJ.out (HNE.out ht0) j hjl (fun e => HTS.out j h e))
              have HPJ := Lib.hid (HPV.out j hjl)
              have HLJ := Lib.hid (HLV.out j hjl)
              generalize body[j] = g at *
              obtain ⟨gk, gpr, gq, gc, ga⟩ := g
              simp only at u0 u1 u2 HBK HPJ HLJ
              cases hin : decide ((j : Int) ∈ L.take (t + 1)) with
              | true =>
                rw [hin] at hxn
                go_wp2_with fail
                go_roundw
                case rel => exact ⟨j + 1, by omega, by go_num, HW⟩
                case measure => simp [intOf]; omega
              | false =>
                rw [hin] at hxn
                have HBL := Lib.hid (HBK.out (of_decide_eq_false hin))
                by_cases hg1 : gk = 1
                · subst hg1
                  go_wp2_with fail
                  go_roundw
                  case rel => exact ⟨j + 1, by omega, by go_num, HW⟩
                  case measure => simp [intOf]; omega
                · have hg2 : (gk == 1) = false := beq_eq_false_iff_ne.2 hg1
                  have HFR := Lib.hid (freeB_all (HBL.out hg1))
                  have HCV := Lib.hid (HPJ.out wr HW.out.sw.lx)
                  have hgl := HLJ.out
                  clear HBL HBK HPJ HLJ
                  generalize litN [] (⟨gk, gpr, gq, gc, ga⟩ : Fl) = G at *
                  go_wp2_with (go_at_call 14; refine (HCV.out).mono ?_; rintro e wa ⟨qa, ca, rfl, hra, hba⟩; have HWA := Lib.hid (HW.out.on hba); have HRA := Lib.hid hra; clear hra hba)
                  go_loopw [12, 14] (fun fr i wr => ∃ m : Nat, m ≤ G.length ∧ i = .int .i64 m ∧ fr = .bool (freeB V G m) ∧ Hid (SH w ⟨⟨kd, pr, p, cp, args⟩, some ⟨b2, o2, none⟩, rc, body⟩ s (some ⟨b, o, none⟩) L (L.take (t + 1)) qh V wr) ∧ Hid (Rd encS 1 wr wr.heap.size qa G)) (fun _ i _ => G.length - (intOf i).toNat)
                  case atStart => exact ⟨0, Nat.zero_le _, rfl, rfl, HWA, HRA⟩
                  case round =>
                    clear HWA HRA HW HCV u0 u1 u2 hxn z0 z1 z2 z3
                    obtain ⟨m, hm, rfl, rfl, HW, HR⟩ := hrel
                    by_cases hml : m < G.length
                    · have hp0 : (0 : Int) ≤ (m : Int) := by omega
                      have hp1 : (m : Int) < (G.length : Int) := by omega
                      obtain ⟨b4, o4, rfl, _, v0⟩ := rdS_at HR.out m hml
                      have HST := Lib.hid (freeB_step (V := V) hml)
                      cases hfm : freeB V G m with
                      | true =>
                        rw [hfm] at HST
                        go_wp2_with fail
                        go_roundw
                        case rel => exact ⟨m + 1, by omega, by go_num, by rw [HST.out]; rfl, HW, HR⟩
                        case measure => simp [intOf]; omega
                      | false =>
                        rw [hfm] at HST
                        have HCI := Lib.hid (HINN.out G[m] wr HW.out)
                        generalize G[m] = x at *
                        cases hh : hasS V x with
                        | true =>
                          rw [hh] at HST HCI
                          go_wp2_with (go_at_call 18; refine (HCI.out).mono ?_; rintro e wi ⟨rfl, rfl⟩)
                          go_roundw
                          case rel => exact ⟨m + 1, by omega, by go_num, by rw [HST.out]; rfl, HW, HR⟩
                          case measure => simp [intOf]; omega
                        | false =>
                          rw [hh] at HST HCI
                          go_wp2_with (go_at_call 18; refine (HCI.out).mono ?_; rintro e wi ⟨rfl, rfl⟩)
                          go_roundw
                          case rel => exact ⟨m + 1, by omega, by go_num, by rw [HST.out]; rfl, HW, HR⟩
                          case measure => simp [intOf]; omega
                    · have hme : m = G.length := by omega
                      subst hme
                      rw [HFR.out]
                      go_wp2_with fail
                      go_roundw
                      case rel => exact ⟨j + 1, by omega, by go_num, HW⟩
                      case measure => simp [intOf]; omega
            · have ht1 : ¬ (0 : Int) < (t : Int) := by omega
              have HSW := Lib.hid HW.out.sw
              go_wp2_with fail
              go_roundw
              case rel => exact ⟨t + 1, by omega, by go_num, HSW⟩
              case measure => simp [intOf]; omega
          · have hm1 : ¬ (j : Int) < (body.length : Int) := by omega
            have HSW := Lib.hid HW.out.sw
            go_wp2_with fail
            go_roundw
            case rel => exact ⟨t + 1, by omega, by go_num, HSW⟩
            case measure => simp [intOf]; omega
      · have hk2 : (fk == 1) = false := beq_eq_false_iff_ne.2 hk1
        have HAL := Lib.hid (HAS.out hk1)
        have HCV := Lib.hid (HPN.out w9 HW9.out.sw.lx)
        have hgl := HLN.out
        clear HAS HBN HPN HLN
        generalize litN [] (⟨fk, fpr, fq, fc, fa⟩ : Fl) = G at *
        go_wp2_with (go_at_call 14; refine (HCV.out).mono ?_; rintro e wa ⟨qa, ca, rfl, hra, hba⟩; have HWA := Lib.hid (HW9.out.on hba); have HRA := Lib.hid hra; clear hra hba)
        go_loopw [16] (fun i wr => ∃ m : Nat, m ≤ G.length ∧ i = .int .i64 m ∧ Hid (SH w ⟨⟨kd, pr, p, cp, args⟩, some ⟨b2, o2, none⟩, rc, body⟩ s (some ⟨b, o, none⟩) L (L.take (t + 1)) qh V wr) ∧ Hid (Rd encS 1 wr wr.heap.size qa G)) (fun i _ => G.length - (intOf i).toNat)
        case atStart => exact ⟨0, Nat.zero_le _, rfl, HWA, HRA⟩
        case round =>
          clear HWA HRA HW9 HCV g0 g1 g2 HB9
          obtain ⟨m, hm, rfl, HW, HR⟩ := hrel
          by_cases hml : m < G.length
          · have hp0 : (0 : Int) ≤ (m : Int) := by omega
            have hp1 : (m : Int) < (G.length : Int) := by omega
            obtain ⟨b4, o4, rfl, _, v0⟩ := rdS_at HR.out m hml
            have HCI := Lib.hid (HINN.out G[m] wr HW.out)
            rw [HAL.out _ (List.getElem_mem hml)] at HCI
            generalize G[m] = x at *
            go_wp2_with (go_at_call 18; refine (HCI.out).mono ?_; rintro e wi ⟨rfl, rfl⟩)
            go_roundw
            case rel => exact ⟨m + 1, by omega, by go_num, HW, HR⟩
            case measure => simp [intOf]; omega
          · have hp1 : ¬ (m : Int) < (G.length : Int) := by omega
            have HSW := Lib.hid HW.out.sw
            go_wp2_with fail
            go_roundw
            case rel => exact ⟨t + 1, by omega, by go_num, HSW⟩
            case measure => simp [intOf]; omega
    · have hj1 : ¬ (t : Int) < (L.length : Int) := by omega
      go_wp2_with fail
      go_ret
      first
        | exact ⟨rfl, HW.out.lx.b⟩
        | exact ⟨by simp [hLl], HW.out.lx.b⟩
end Go.Proofs.Ytbkdpdklpmcdgaa
