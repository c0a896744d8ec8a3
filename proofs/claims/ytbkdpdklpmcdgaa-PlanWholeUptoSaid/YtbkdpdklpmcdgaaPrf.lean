/-
  Contract: the reference's From.
-/
import Derived.Test.YtbkdpdklpmcdgaaPgo
set_option linter.unusedVariables false
set_option linter.unusedSimpArgs false
namespace Go.Proofs.Ytbkdpdklpmcdgaa
open Go.Maps Go.ChangeMaps Go.WideMaps Go.RowKit

/-- the plan that begins with a literal -/
def fromS (body : List Fl) (k : Int) : Option (List Int) := if 0 ≤ k then (match body[k.toNat]? with
  | some f => if f.kind = 1 then goesS body [k] else none
  | none => none) else none
theorem fromS_neg {body : List Fl} {k : Int} (h : k < 0) : fromS body k = none := if_neg (by omega)
theorem fromS_far {body : List Fl} {k : Int} (h : (body.length : Int) ≤ k) : fromS body k = none := by
  unfold fromS
  rw [if_pos (by omega), List.getElem?_eq_none (by omega)]
theorem fromS_in {body : List Fl} {n : Nat} (h : n < body.length) : fromS body (n : Int) = if body[n].kind = 1 then goesS body [(n : Int)] else none := by
  unfold fromS
  rw [if_pos (by omega), Int.toNat_natCast, List.getElem?_eq_getElem h]
set_option maxHeartbeats 16000000 in
set_option maxRecDepth 100000 in
theorem rfrom_any (N : Nat) (hN : N ≤ 1048576) (r : Rl) (k : Int) (w : World) (hr : r.Arg w N) (h30 : r.body.length ≤ 30) :
    Calls Try.prog 11 #[r.agg, .int .i64 k] w fun e w' => PlanPost (fromS r.body k) w e w' := by
  have HI := Lib.hid (show LX w r (w.alloc (.cells #[.int .u8 r.head.kind, .string r.head.pred, .slice r.head.ptr r.head.args.length r.head.cap, .slice r.ptr r.body.length r.cap] 27)) from ⟨below1 w _, Bk0.new w _ _⟩)
  have HGX := Lib.hid (fun (L : List Int) (qL : Option Addr) (cL : Nat) (X : World) (h : LX w r X) (hL : Rd encI 1 X X.heap.size qL L) (h2 : L.length ≤ 100) => goes_any N hN r qL L cL X ⟨⟨hr.hd.tm.grow h.b, hr.hd.sz, hr.hd.len⟩, hr.rd.grow h.b, fun f hf => ⟨(hr.fl f hf).tm.grow h.b, (hr.fl f hf).sz, (hr.fl f hf).len⟩, hr.len⟩ hL h30 h2)
  have HRB := Lib.hid hr.rd
  clear hr
  unfold Rl.agg at HGX ⊢
  obtain ⟨⟨kd, pr, p, cp, args⟩, rq, rc, body⟩ := r
  simp only at HI HGX HRB h30 ⊢
  obtain ⟨z0, z1, z2, z3⟩ := HI.out.x.four
  by_cases h0 : k < 0
  · have HP := Lib.hid (fromS_neg (body := body) h0)
    go_enter Try.func11, Try.ntmps11
    go_wp2_with fail
    refine bodyPost_ret (results_tmp2 rfl _ _ _) rfl ?_
    exact ⟨none, 0, by rw [HP.out]; rfl, by rw [HP.out]; exact .nil, HI.out.b⟩
  · by_cases h1 : (body.length : Int) ≤ k
    · have HP := Lib.hid (fromS_far h1)
      go_enter Try.func11, Try.ntmps11
      go_wp2_with fail
      refine bodyPost_ret (results_tmp2 rfl _ _ _) rfl ?_
      exact ⟨none, 0, by rw [HP.out]; rfl, by rw [HP.out]; exact .nil, HI.out.b⟩
    · obtain ⟨n, rfl⟩ := Int.eq_ofNat_of_zero_le (show 0 ≤ k by omega)
      have hnb : n < body.length := by omega
      have HP := Lib.hid (fromS_in hnb)
      have hj0 : (0 : Int) ≤ (n : Int) := by omega
      have hj1 : (n : Int) < (body.length : Int) := by omega
      obtain ⟨b2, o2, rfl, hbb2, y0, y1, y2⟩ := rdF_at (HRB.out.below HI.out.b (Nat.le_refl _)) n hnb
      generalize body[n] = f at *
      obtain ⟨fk, fpr, fq, fc, fa⟩ := f
      simp only at y0 y1 y2 HP
      by_cases hk1 : fk = 1
      · subst hk1
        rw [if_pos rfl] at HP
        go_enter Try.func11, Try.ntmps11
        have HI2 := Lib.hid (HI.out.on (below1 (w.alloc (.cells #[.int .u8 kd, .string pr, .slice p args.length cp, .slice (some ⟨b2, o2, none⟩) body.length rc] 27)) (.cells #[.int .i64 (n : Int)] 3)))
        have HW1 := Lib.hid (show ∀ o : Obj, (w.alloc o).heap.size = w.heap.size + 1 from fun o => by simp)
        have HC := Lib.hid (show ∀ o : Obj, LX w ⟨⟨kd, pr, p, cp, args⟩, some ⟨b2, o2, none⟩, rc, body⟩ ((w.alloc o).alloc (.cells #[.int .i64 (n : Int)] 3)) → Calls Try.prog 9 #[.agg #[.int .u8 kd, .string pr, .slice p args.length cp, .slice (some ⟨b2, o2, none⟩) body.length rc], .slice (some ⟨w.heap.size + 1, 0, none⟩) 1 1] ((w.alloc o).alloc (.cells #[.int .i64 (n : Int)] 3)) (fun e w' => PlanPost (goesS body [(n : Int)]) ((w.alloc o).alloc (.cells #[.int .i64 (n : Int)] 3)) e w') from fun o h => by
          have := HGX.out [(n : Int)] (some ⟨(w.alloc o).heap.size, 0, none⟩) 1 _ h (rd_fresh (enc := encI) (k := 1) (w.alloc o) 3 #[.int .i64 (n : Int)] (n : Int) rfl) (by simp)
          rw [HW1.out o] at this
          exact this)
        generalize goesS body [(n : Int)] = G at *
        clear HGX
        go_wp2_with (go_at_call 9; refine (HC.out _ HI2.out).mono ?_; rintro e w3 ⟨qx, cx, rfl, hrx, hbx⟩; have HRX := Lib.hid hrx; have HBX := Lib.hid (HI2.out.b.trans (hbx.mono HI2.out.b.size)); clear hrx hbx)
        refine bodyPost_ret (results_tmp2 rfl _ _ _) rfl ?_
        exact ⟨qx, cx, by rw [HP.out]; rfl, by rw [HP.out]; exact HRX.out, HBX.out⟩
      · rw [if_neg hk1] at HP
        have hk2 : (fk != 1) = true := by simpa using hk1
        go_enter Try.func11, Try.ntmps11
        go_wp2_with fail
        refine bodyPost_ret (results_tmp2 rfl _ _ _) rfl ?_
        exact ⟨none, 0, by rw [HP.out]; rfl, by rw [HP.out]; exact .nil, HI.out.b⟩
end Go.Proofs.Ytbkdpdklpmcdgaa
