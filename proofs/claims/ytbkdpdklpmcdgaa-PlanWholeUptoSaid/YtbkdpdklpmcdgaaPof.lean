/-
  Contracts: plan.Order, plan.From.
-/
import Derived.Test.YtbkdpdklpmcdgaaPwk
set_option linter.unusedVariables false
set_option linter.unusedSimpArgs false
namespace Go.Proofs.Ytbkdpdklpmcdgaa
open Go.Maps Go.ChangeMaps Go.WideMaps Go.RowKit

theorem Rl.Arg.grow {r : Rl} {w X : World} {N : Nat} (hr : r.Arg w N) (hb : Below w.heap.size w X) : r.Arg X N := ⟨⟨hr.hd.tm.grow hb, hr.hd.sz, hr.hd.len⟩, hr.rd.grow hb, fun f hf => ⟨(hr.fl f hf).tm.grow hb, (hr.fl f hf).sz, (hr.fl f hf).len⟩, hr.len⟩
theorem PlanC.from {o : Option (List Int)} {w X w' : World} {e : Ending} (h : PlanC o X e w') (hb : Below w.heap.size w X) : PlanC o w e w' := by
  obtain ⟨q, c, h1, h2, h3⟩ := h
  exact ⟨q, c, h1, h2, hb.trans (h3.mono hb.size)⟩
theorem onwards_arg {N : Nat} (hN : N ≤ 1048576) {r : Rl} {X : World} (hr : r.Arg X N) (h30 : r.body.length ≤ 30) (q1 : Option Addr) (l : List Int) (c1 : Nat) (hl : Rd encI 1 X X.heap.size q1 l) (hl1 : l.length ≤ 30) (hg : GoodL r.body l) :
    Calls Try.prog 20 #[.slice r.ptr r.body.length r.cap, .slice q1 l.length c1] X fun e w' => PlanC (goesS r.body l) X e w' := by
  rw [← goC_eq hg]
  exact onwards_any r.ptr r.cap r.body q1 l c1 X hr.rd (fun f hf => (hr.fl f hf).tm) (fun f hf => (hr.fl f hf).sz) (fun f hf => Nat.le_trans (hr.fl f hf).len hN) h30 hl hl1 (fun k hk => by obtain ⟨n, h1, h2, _⟩ := hg.2 k hk; exact ⟨n, h2, h1⟩)
set_option maxHeartbeats 8000000 in
set_option maxRecDepth 100000 in
theorem porder_any (N : Nat) (hN : N ≤ 1048576) (r : Rl) (w : World) (hr : r.Arg w N) (h30 : r.body.length ≤ 30) :
    Calls Try.prog 7 #[r.agg] w fun e w' => PlanC (goesS r.body []) w e w' := by
  have HI := Lib.hid (show LX w r (w.alloc (.cells #[.int .u8 r.head.kind, .string r.head.pred, .slice r.head.ptr r.head.args.length r.head.cap, .slice r.ptr r.body.length r.cap] 27)) from ⟨below1 w _, Bk0.new w _ _⟩)
  have HC := Lib.hid (onwards_arg hN (hr.grow HI.out.b) h30 none [] 0 .nil (by simp) (good_nil _))
  clear hr
  unfold Rl.agg
  obtain ⟨⟨kd, pr, p, cp, args⟩, rq, rc, body⟩ := r
  simp only [List.length_nil] at HI HC h30 ⊢
  generalize goesS body [] = G at *
  go_enter Try.func7, Try.ntmps7
  go_wp2_with (go_at_call 20; refine (HC.out).mono ?_; rintro e w3 ⟨qx, cx, rfl, hrx, hbx⟩; have HRX := Lib.hid hrx; have HBX := Lib.hid (HI.out.b.trans (hbx.mono HI.out.b.size)); clear hrx hbx)
  refine bodyPost_ret (results_tmp2 rfl _ _ _) rfl ?_
  exact ⟨qx, cx, rfl, HRX.out, HBX.out⟩
set_option maxHeartbeats 8000000 in
set_option maxRecDepth 100000 in
theorem pfrom_any (N : Nat) (hN : N ≤ 1048576) (r : Rl) (k : Int) (w : World) (hr : r.Arg w N) (h30 : r.body.length ≤ 30) :
    Calls Try.prog 10 #[r.agg, .int .i64 k] w fun e w' => PlanC (fromS r.body k) w e w' := by
  have HI := Lib.hid (show LX w r (w.alloc (.cells #[.int .u8 r.head.kind, .string r.head.pred, .slice r.head.ptr r.head.args.length r.head.cap, .slice r.ptr r.body.length r.cap] 27)) from ⟨below1 w _, Bk0.new w _ _⟩)
  have HAM := Lib.hid (fun (wx : World) => among_any r k wx)
  have HAR := Lib.hid hr
  unfold Rl.agg at HAM ⊢
  cases hh : r.has k with
  | false =>
    rw [hh] at HAM
    have HP := Lib.hid (show fromS r.body k = none from by
      unfold Rl.has at hh
      by_cases h0 : 0 ≤ k
      · by_cases h1 : k < r.body.length
        · rw [decide_eq_true h0, decide_eq_true h1] at hh; cases hh
        · exact fromS_far (by omega)
      · exact fromS_neg (by omega))
    clear hr hh HAR
    obtain ⟨⟨kd, pr, p, cp, args⟩, rq, rc, body⟩ := r
    simp only at HI HAM HP h30 ⊢
    obtain ⟨z0, z1, z2, z3⟩ := HI.out.x.four
    go_enter Try.func10, Try.ntmps10
    go_wp2_with (go_at_call 23; refine (HAM.out _).mono ?_; rintro e w1 ⟨rfl, hb1⟩; have HI1 := Lib.hid (HI.out.on hb1); clear hb1)
    refine bodyPost_ret (results_tmp2 rfl _ _ _) rfl ?_
    exact ⟨none, 0, by rw [HP.out]; rfl, by rw [HP.out]; exact ⟨Nat.le_refl _, .nil⟩, HI1.out.b⟩
  | true =>
    rw [hh] at HAM
    unfold Rl.has at hh
    rw [Bool.and_eq_true, decide_eq_true_eq, decide_eq_true_eq] at hh
    obtain ⟨h0, h1⟩ := hh
    obtain ⟨n, rfl⟩ := Int.eq_ofNat_of_zero_le h0
    have hnb : n < r.body.length := by omega
    have HP := Lib.hid (fromS_in hnb)
    have HOW := Lib.hid (fun (X : World) (h : Below w.heap.size w X) (q1 : Option Addr) (hq : Rd encI 1 X X.heap.size q1 [(n : Int)]) (hk : r.body[n].kind = 1) => onwards_arg hN (hr.grow h) h30 q1 [(n : Int)] 1 hq (by simp) (good_one hnb hk))
    have HYS := Lib.hid (fun (Y : World) (hY : Below w.heap.size w Y) => rdF_at (hr.rd.below hY (Nat.le_refl _)) n hnb)
    have hj0 : (0 : Int) ≤ (n : Int) := by omega
    have hj1 : (n : Int) < (r.body.length : Int) := by omega
    clear hr HAR h1
    obtain ⟨⟨kd, pr, p, cp, args⟩, rq, rc, body⟩ := r
    simp only at HI HAM HP HOW HYS h30 hj1 hnb ⊢
    generalize body[n] = f at *
    obtain ⟨fk, fpr, fq, fc, fa⟩ := f
    simp only at HP HOW HYS
    go_enter Try.func10, Try.ntmps10
    go_wp2_with fail
    refine (HAM.out _).mono ?_
    rintro e w1 ⟨rfl, hb1⟩
    have HI1 := Lib.hid (HI.out.on hb1)
    clear hb1 HI HAM
    obtain ⟨z0, z1, z2, z3⟩ := HI1.out.x.four
    obtain ⟨b2, o2, rfl, hbb2, y0, y1, y2⟩ := HYS.out w1 HI1.out.b
    by_cases hk1 : fk = 1
    · subst hk1
      rw [if_pos rfl] at HP
      have hb2 := below1 w1 (.cells #[.int .i64 (n : Int)] 3)
      have HC := Lib.hid (HOW.out _ (HI1.out.b.trans (hb2.mono HI1.out.b.size)) (some ⟨w1.heap.size, 0, none⟩) (rd_fresh (enc := encI) (k := 1) w1 3 #[.int .i64 (n : Int)] (n : Int) rfl) rfl)
      have HB2 := Lib.hid (HI1.out.b.trans (hb2.mono HI1.out.b.size))
      clear hb2 HOW HYS
      simp only [List.length_singleton] at HC
      generalize goesS body [(n : Int)] = G at *
      go_wp2_with (go_at_call 20; refine (HC.out).mono ?_; rintro e w3 ⟨qx, cx, rfl, hrx, hbx⟩; have HRX := Lib.hid hrx; have HBX := Lib.hid (HB2.out.trans (hbx.mono HB2.out.size)); clear hrx hbx)
      refine bodyPost_ret (results_tmp2 rfl _ _ _) rfl ?_
      exact ⟨qx, cx, by rw [HP.out]; rfl, by rw [HP.out]; exact HRX.out, HBX.out⟩
    · rw [if_neg hk1] at HP
      have hk2 : (fk != 1) = true := by simpa using hk1
      go_wp2_with fail
      refine bodyPost_ret (results_tmp2 rfl _ _ _) rfl ?_
      exact ⟨none, 0, by rw [HP.out]; rfl, by rw [HP.out]; exact ⟨Nat.le_refl _, .nil⟩, HI1.out.b⟩
end Go.Proofs.Ytbkdpdklpmcdgaa
