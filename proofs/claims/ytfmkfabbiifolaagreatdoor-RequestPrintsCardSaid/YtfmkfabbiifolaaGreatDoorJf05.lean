/-
  Joined of: Rprb.
-/
import Derived.Test.YtfmkfabbiifolaaGreatDoorJf03
set_option linter.unusedVariables false
set_option linter.unusedSimpArgs false
/-
  Contract: the reference's Print of a request. (Made by tools/mk_rpr.py.)
-/
set_option linter.unusedVariables false
set_option linter.unusedSimpArgs false
namespace Go.Proofs.YtfmkfabbiifolaaGreatDoor
open Go.RowKit

set_option maxHeartbeats 32000000 in
set_option maxRecDepth 100000 in
theorem refprint2 (lb : ByteArray) (lf : Int) (k : Kp) (no : Int) (l : Lp) (w : World) (ha : RqArg 2 lb lf k no l w) :
    Calls Tryz.prog 13 #[.agg (rqC 2 lb lf k no l)] w fun e w' => e = .returned (printV 2 lb lf k no l) ∧ Below w.heap.size w w' := by
  have HO := Lib.hid (show outQ 2 lb lf k no l = ⟨#[114, 101, 118, 111, 107, 101, 32]⟩ ++ itoaS no by unfold outQ wordsQ; rw [if_neg (by decide), if_pos rfl, joinW2]; rfl)
  have HC := Lib.hid (show checkB 2 lb lf k no l = (boundB no && (lb.toList.isEmpty && ((lf == 0) && (!isClauseB k && !isLitB l)))) by unfold checkB; rw [if_neg (by decide), if_pos rfl]; cases boundB no <;> cases lb.toList.isEmpty <;> cases hf : (lf == 0) <;> cases hn : (no == 0) <;> cases isClauseB k <;> cases isLitB l <;> simp_all [bne])
  have HV := Lib.hid (show printV 2 lb lf k no l = (if checkB 2 lb lf k no l = true then (if 4096 < (outQ 2 lb lf k no l).size then .tuple #[.string ⟨#[]⟩, .int .i64 2] else .tuple #[.string (outQ 2 lb lf k no l), .int .i64 0]) else .tuple #[.string ⟨#[]⟩, .int .i64 1]) from rfl)
  have hdz := itoa_size no ha.no.1 ha.no.2
  have HNB := Lib.hid (fun X => number_any no X ha.no.1 ha.no.2)
  have HSM := Lib.hid (show ∀ X, RqArg 2 lb lf k no l X → Calls Tryz.prog 10 #[.agg (rqC 2 lb lf k no l), .agg (rqC 2 ⟨#[]⟩ 0 kpZ no lpZ)] X fun e w' => e = .returned (.bool (lb.toList.isEmpty && ((lf == 0) && (!isClauseB k && !isLitB l)))) ∧ Below X.heap.size X w' from fun X hX => (samereq_arg hX ⟨#[]⟩ 0 no kpZ lpZ (.inr rfl) (.inr rfl)).mono fun e w' ⟨h1, h2⟩ => ⟨by rw [h1]; simp only [dl_empty, sameK_zero, sameL_zero, sameK_self, sameL_self, beq_self_eq_true, Bool.true_and, Bool.and_true], h2⟩)
  obtain ⟨dd, hu, hd⟩ := rowReq
  have hz := sizeReq
  generalize outQ 2 lb lf k no l = O at *
  generalize printV 2 lb lf k no l = V at *
  generalize checkB 2 lb lf k no l = CB at *
  generalize itoaS no = D at *
  generalize (lb.toList.isEmpty && ((lf == 0) && (!isClauseB k && !isLitB l))) = sm at *
  have HA := Lib.hid ha
  have hlb := ha.lb
  have hst := fun (w : World) (kd : Int) (lb : ByteArray) (lf : Int) (cl : Kp) (no : Int) (lp : Lp) => run_storeReq w kd lb lf cl no lp
  have e1 : (⟨#[32]⟩ : ByteArray).size = 1 := rfl
  have e2 : (⟨#[114, 101, 118, 111, 107, 101, 32]⟩ : ByteArray).size = 7 := rfl
  clear ha
  go_enter Tryz.func13, Tryz.ntmps13
  go_upto_region 3 with fail
  have HX0 := Lib.hid (Bk.new w 33 (rqC 2 lb lf k no l))
  have HW0 := Lib.hid (below1 w (.cells (rqC 2 lb lf k no l) 33))
  have hs0 : w.heap.size + 1 ≤ (w.alloc (.cells (rqC 2 lb lf k no l) 33)).heap.size := by simp
  generalize w.alloc (.cells (rqC 2 lb lf k no l) 33) = W1 at *
  have m0 := HX0.out.cell 0 (.int .u8 2) rfl
  go_upto_region 4 with fail
  have HX := Lib.hid (HX0.out.on (below1 W1 (.cells #[.int .u8 2, .string ⟨#[]⟩, .int .i64 0, .int .u8 0, .string ⟨#[]⟩, .string ⟨#[]⟩, .int .i64 0, .string ⟨#[]⟩, .slice none 0 0, .slice none 0 0, .int .i64 0, .int .u8 0, .string ⟨#[]⟩, .string ⟨#[]⟩, .int .i64 0, .string ⟨#[]⟩, .slice none 0 0] 33)))
  have HZ := Lib.hid (show Bk (W1.alloc (.cells #[.int .u8 2, .string ⟨#[]⟩, .int .i64 0, .int .u8 0, .string ⟨#[]⟩, .string ⟨#[]⟩, .int .i64 0, .string ⟨#[]⟩, .slice none 0 0, .slice none 0 0, .int .i64 0, .int .u8 0, .string ⟨#[]⟩, .string ⟨#[]⟩, .int .i64 0, .string ⟨#[]⟩, .slice none 0 0] 33)) W1.heap.size 33 (rqC 2 ⟨#[]⟩ 0 kpZ 0 lpZ) from Bk.new W1 33 #[.int .u8 2, .string ⟨#[]⟩, .int .i64 0, .int .u8 0, .string ⟨#[]⟩, .string ⟨#[]⟩, .int .i64 0, .string ⟨#[]⟩, .slice none 0 0, .slice none 0 0, .int .i64 0, .int .u8 0, .string ⟨#[]⟩, .string ⟨#[]⟩, .int .i64 0, .string ⟨#[]⟩, .slice none 0 0])
  have HW := Lib.hid (HW0.out.trans ((below1 W1 (.cells #[.int .u8 2, .string ⟨#[]⟩, .int .i64 0, .int .u8 0, .string ⟨#[]⟩, .string ⟨#[]⟩, .int .i64 0, .string ⟨#[]⟩, .slice none 0 0, .slice none 0 0, .int .i64 0, .int .u8 0, .string ⟨#[]⟩, .string ⟨#[]⟩, .int .i64 0, .string ⟨#[]⟩, .slice none 0 0] 33)).mono HW0.out.size))
  generalize W1.alloc (.cells #[.int .u8 2, .string ⟨#[]⟩, .int .i64 0, .int .u8 0, .string ⟨#[]⟩, .string ⟨#[]⟩, .int .i64 0, .string ⟨#[]⟩, .slice none 0 0, .slice none 0 0, .int .i64 0, .int .u8 0, .string ⟨#[]⟩, .string ⟨#[]⟩, .int .i64 0, .string ⟨#[]⟩, .slice none 0 0] 33) = W2 at *
  have hne : w.heap.size < W1.heap.size := by omega
  clear HX0 HW0 hs0 m0 hst
  generalize W1.heap.size = wb at *
  clear W1
  have HS2 := Lib.hid (show PQ 2 lb lf k no l (rqC 2 ⟨#[]⟩ 0 kpZ 0 lpZ) w wb W2 from ⟨HW.out, HX.out, HZ.out, HA.out.on HW.out⟩)
  obtain ⟨m0, m1, m2, m3, m4, m5, m6, m7, m8, m9, m10, m11, m12, m13, m14, m15, m16⟩ := (show Bk W2 w.heap.size 33 #[.int .u8 2, .string lb, .int .i64 lf, .int .u8 k.head.kind, .string k.head.who.v, .string k.head.who.s, .int .i64 k.head.who.n, .string k.head.pred, .slice k.head.ptr k.head.args.length k.head.cap, .slice k.ptr k.body.length k.cap, .int .i64 no, .int .u8 l.kind, .string l.who.v, .string l.who.s, .int .i64 l.who.n, .string l.pred, .slice l.ptr l.args.length l.cap] from HX.out).cells17
  have hne' : w.heap.size ≠ wb := Nat.ne_of_lt hne
  have hne'' : wb ≠ w.heap.size := Nat.ne_of_gt hne
  obtain ⟨z0, z1, z2, z3, z4, z5, z6, z7, z8, z9, z10, z11, z12, z13, z14, z15, z16⟩ := HZ.out.softs17
  obtain ⟨y0, y1, y2, y3, y4, y5, y6, y7, y8, y9, y10, y11, y12, y13, y14, y15, y16⟩ := (show Bk W2 wb 33 #[.int .u8 2, .string ⟨#[]⟩, .int .i64 0, .int .u8 0, .string ⟨#[]⟩, .string ⟨#[]⟩, .int .i64 0, .string ⟨#[]⟩, .slice none 0 0, .slice none 0 0, .int .i64 0, .int .u8 0, .string ⟨#[]⟩, .string ⟨#[]⟩, .int .i64 0, .string ⟨#[]⟩, .slice none 0 0] from HZ.out).cells17
  go_upto_region 15 with fail
  obtain ⟨W3, e9, HZ3, HP3⟩ := want2 HZ.out no
  rw [e9]
  have HS3 := Lib.hid (HS2.out.put hne HA.out HP3 HZ3)
  clear m0 m1 m2 m3 m4 m5 m6 m7 m8 m9 m10 m11 m12 m13 m14 m15 m16 z0 z1 z2 z3 z4 z5 z6 z7 z8 z9 z10 z11 z12 z13 z14 z15 z16 y0 y1 y2 y3 y4 y5 y6 y7 y8 y9 y10 y11 y12 y13 y14 y15 y16 HZ3 HP3 e9
  obtain ⟨x0, x1, x2, x3, x4, x5, x6, x7, x8, x9, x10, x11, x12, x13, x14, x15, x16⟩ := (show Bk W3 w.heap.size 33 #[.int .u8 2, .string lb, .int .i64 lf, .int .u8 k.head.kind, .string k.head.who.v, .string k.head.who.s, .int .i64 k.head.who.n, .string k.head.pred, .slice k.head.ptr k.head.args.length k.head.cap, .slice k.ptr k.body.length k.cap, .int .i64 no, .int .u8 l.kind, .string l.who.v, .string l.who.s, .int .i64 l.who.n, .string l.pred, .slice l.ptr l.args.length l.cap] from HS3.out.x).cells17
  by_cases h1 : (1 : Int) ≤ no
  rotate_left
  · have hb : boundB no = false := by unfold boundB; simp; omega
    go_wp2_with (first
        | (go_at_call 10; refine (HSM.out _ HS4.out.a).mono ?_; rintro e w7 ⟨rfl, hb7⟩; have HS7 := Lib.hid (HS4.out.on hb7))
        | (go_at_call 34; refine (HNB.out _).mono ?_; rintro e w4 ⟨rfl, hb4⟩; have HS4 := Lib.hid (HS3.out.on hb4))
        | (refine wpL_load (by rfl) 33 (.tmp 1) rfl _ 0 rfl (rqC 2 lb lf k no l).toList dd HS4.out.x.range hu hd (by rw [hz]; rfl) ?_; simp only [Array.toArray_toList])
        | (refine wpL_load (by rfl) 33 (.tmp 6) rfl _ 0 rfl (rqC 2 ⟨#[]⟩ 0 kpZ no lpZ).toList dd HS4.out.z.range hu hd (by rw [hz]; rfl) ?_; simp only [Array.toArray_toList]))
    go_ret2
    exact ⟨by rw [HV.out, HC.out]; rw [hb]; rfl, HS4.out.b⟩
  by_cases h4 : no ≤ 1099511627776
  rotate_left
  · have hb : boundB no = false := by unfold boundB; simp; omega
    go_wp2_with (first
        | (go_at_call 10; refine (HSM.out _ HS4.out.a).mono ?_; rintro e w7 ⟨rfl, hb7⟩; have HS7 := Lib.hid (HS4.out.on hb7))
        | (go_at_call 34; refine (HNB.out _).mono ?_; rintro e w4 ⟨rfl, hb4⟩; have HS4 := Lib.hid (HS3.out.on hb4))
        | (refine wpL_load (by rfl) 33 (.tmp 1) rfl _ 0 rfl (rqC 2 lb lf k no l).toList dd HS4.out.x.range hu hd (by rw [hz]; rfl) ?_; simp only [Array.toArray_toList])
        | (refine wpL_load (by rfl) 33 (.tmp 6) rfl _ 0 rfl (rqC 2 ⟨#[]⟩ 0 kpZ no lpZ).toList dd HS4.out.z.range hu hd (by rw [hz]; rfl) ?_; simp only [Array.toArray_toList]))
    go_ret2
    exact ⟨by rw [HV.out, HC.out]; rw [hb]; rfl, HS4.out.b⟩
  have hb : boundB no = true := by unfold boundB; simp; omega
  go_upto_region 28 with (first
    | (go_at_call 10; refine (HSM.out _ HS4.out.a).mono ?_; rintro e w7 ⟨rfl, hb7⟩; have HS7 := Lib.hid (HS4.out.on hb7))
    | (go_at_call 34; refine (HNB.out _).mono ?_; rintro e w4 ⟨rfl, hb4⟩; have HS4 := Lib.hid (HS3.out.on hb4))
    | (refine wpL_load (by rfl) 33 (.tmp 1) rfl _ 0 rfl (rqC 2 lb lf k no l).toList dd HS4.out.x.range hu hd (by rw [hz]; rfl) ?_; simp only [Array.toArray_toList])
    | (refine wpL_load (by rfl) 33 (.tmp 6) rfl _ 0 rfl (rqC 2 ⟨#[]⟩ 0 kpZ no lpZ).toList dd HS4.out.z.range hu hd (by rw [hz]; rfl) ?_; simp only [Array.toArray_toList]))
  rw [hb] at HC
  rw [← HO.out]
  clear HO
  cases sm with
  | false =>
    go_wp2_with (first
        | (go_at_call 10; refine (HSM.out _ HS4.out.a).mono ?_; rintro e w7 ⟨rfl, hb7⟩; have HS7 := Lib.hid (HS4.out.on hb7))
        | (go_at_call 34; refine (HNB.out _).mono ?_; rintro e w4 ⟨rfl, hb4⟩; have HS4 := Lib.hid (HS3.out.on hb4))
        | (refine wpL_load (by rfl) 33 (.tmp 1) rfl _ 0 rfl (rqC 2 lb lf k no l).toList dd HS4.out.x.range hu hd (by rw [hz]; rfl) ?_; simp only [Array.toArray_toList])
        | (refine wpL_load (by rfl) 33 (.tmp 6) rfl _ 0 rfl (rqC 2 ⟨#[]⟩ 0 kpZ no lpZ).toList dd HS4.out.z.range hu hd (by rw [hz]; rfl) ?_; simp only [Array.toArray_toList]))
    go_ret2
    exact ⟨by rw [HV.out, HC.out]; rfl, HS7.out.b⟩
  | true =>
  by_cases hlg : 4096 < O.size
  · have hlg' : (4096 : Int) < (O.size : Int) := by omega
    go_wp2_with (first
        | (go_at_call 10; refine (HSM.out _ HS4.out.a).mono ?_; rintro e w7 ⟨rfl, hb7⟩; have HS7 := Lib.hid (HS4.out.on hb7))
        | (go_at_call 34; refine (HNB.out _).mono ?_; rintro e w4 ⟨rfl, hb4⟩; have HS4 := Lib.hid (HS3.out.on hb4))
        | (refine wpL_load (by rfl) 33 (.tmp 1) rfl _ 0 rfl (rqC 2 lb lf k no l).toList dd HS4.out.x.range hu hd (by rw [hz]; rfl) ?_; simp only [Array.toArray_toList])
        | (refine wpL_load (by rfl) 33 (.tmp 6) rfl _ 0 rfl (rqC 2 ⟨#[]⟩ 0 kpZ no lpZ).toList dd HS4.out.z.range hu hd (by rw [hz]; rfl) ?_; simp only [Array.toArray_toList]))
    go_ret2
    exact ⟨by rw [HV.out, HC.out, if_pos (show 4096 < O.size from hlg)]; rfl, HS7.out.b⟩
  · have hlg' : ¬ (4096 : Int) < (O.size : Int) := by omega
    go_wp2_with (first
        | (go_at_call 10; refine (HSM.out _ HS4.out.a).mono ?_; rintro e w7 ⟨rfl, hb7⟩; have HS7 := Lib.hid (HS4.out.on hb7))
        | (go_at_call 34; refine (HNB.out _).mono ?_; rintro e w4 ⟨rfl, hb4⟩; have HS4 := Lib.hid (HS3.out.on hb4))
        | (refine wpL_load (by rfl) 33 (.tmp 1) rfl _ 0 rfl (rqC 2 lb lf k no l).toList dd HS4.out.x.range hu hd (by rw [hz]; rfl) ?_; simp only [Array.toArray_toList])
        | (refine wpL_load (by rfl) 33 (.tmp 6) rfl _ 0 rfl (rqC 2 ⟨#[]⟩ 0 kpZ no lpZ).toList dd HS4.out.z.range hu hd (by rw [hz]; rfl) ?_; simp only [Array.toArray_toList]))
    go_ret2
    exact ⟨by rw [HV.out, HC.out, if_neg (show ¬ 4096 < O.size from hlg)]; rfl, HS7.out.b⟩

set_option maxHeartbeats 32000000 in
set_option maxRecDepth 100000 in
theorem refprint3 (lb : ByteArray) (lf : Int) (k : Kp) (no : Int) (l : Lp) (w : World) (ha : RqArg 3 lb lf k no l w) :
    Calls Tryz.prog 13 #[.agg (rqC 3 lb lf k no l)] w fun e w' => e = .returned (printV 3 lb lf k no l) ∧ Below w.heap.size w w' := by
  have HO := Lib.hid (show outQ 3 lb lf k no l = ⟨#[113, 117, 101, 114, 121, 32]⟩ ++ askT l by unfold outQ wordsQ; rw [if_neg (by decide), if_neg (by decide), if_pos rfl, joinW2]; rfl)
  have HC := Lib.hid (show checkB 3 lb lf k no l = (l.ask && (lb.toList.isEmpty && ((lf == 0) && ((no == 0) && !isClauseB k)))) by unfold checkB; rw [if_neg (by decide), if_neg (by decide), if_pos (by decide)]; cases l.ask <;> cases lb.toList.isEmpty <;> cases hf : (lf == 0) <;> cases hn : (no == 0) <;> cases isClauseB k <;> cases isLitB l <;> simp_all [bne])
  have HV := Lib.hid (show printV 3 lb lf k no l = (if checkB 3 lb lf k no l = true then (if 4096 < (outQ 3 lb lf k no l).size then .tuple #[.string ⟨#[]⟩, .int .i64 2] else .tuple #[.string (outQ 3 lb lf k no l), .int .i64 0]) else .tuple #[.string ⟨#[]⟩, .int .i64 1]) from rfl)
  have hdz := askT_size l ha.lp.nb
  have HAK := Lib.hid (show ∀ X, RqArg 3 lb lf k no l X → _ from fun X hX => refask_arg hX)
  have HSM := Lib.hid (show ∀ X, RqArg 3 lb lf k no l X → Calls Tryz.prog 10 #[.agg (rqC 3 lb lf k no l), .agg (rqC 3 ⟨#[]⟩ 0 kpZ 0 l)] X fun e w' => e = .returned (.bool (lb.toList.isEmpty && ((lf == 0) && ((no == 0) && !isClauseB k)))) ∧ Below X.heap.size X w' from fun X hX => (samereq_arg hX ⟨#[]⟩ 0 0 kpZ l (.inr rfl) (.inl rfl)).mono fun e w' ⟨h1, h2⟩ => ⟨by rw [h1]; simp only [dl_empty, sameK_zero, sameL_zero, sameK_self, sameL_self, beq_self_eq_true, Bool.true_and, Bool.and_true], h2⟩)
  obtain ⟨dd, hu, hd⟩ := rowReq
  have hz := sizeReq
  unfold Lp.agg at HAK
  generalize outQ 3 lb lf k no l = O at *
  generalize printV 3 lb lf k no l = V at *
  generalize checkB 3 lb lf k no l = CB at *
  generalize l.ask = ak at *
  generalize askT l = C at *
  generalize (lb.toList.isEmpty && ((lf == 0) && ((no == 0) && !isClauseB k))) = sm at *
  have HA := Lib.hid ha
  have hlb := ha.lb
  have hst := fun (w : World) (kd : Int) (lb : ByteArray) (lf : Int) (cl : Kp) (no : Int) (lp : Lp) => run_storeReq w kd lb lf cl no lp
  have e1 : (⟨#[32]⟩ : ByteArray).size = 1 := rfl
  have e2 : (⟨#[113, 117, 101, 114, 121, 32]⟩ : ByteArray).size = 6 := rfl
  have e3 : (⟨#[112, 114, 111, 118, 101, 32]⟩ : ByteArray).size = 6 := rfl
  clear ha
  go_enter Tryz.func13, Tryz.ntmps13
  go_upto_region 3 with fail
  have HX0 := Lib.hid (Bk.new w 33 (rqC 3 lb lf k no l))
  have HW0 := Lib.hid (below1 w (.cells (rqC 3 lb lf k no l) 33))
  have hs0 : w.heap.size + 1 ≤ (w.alloc (.cells (rqC 3 lb lf k no l) 33)).heap.size := by simp
  generalize w.alloc (.cells (rqC 3 lb lf k no l) 33) = W1 at *
  have m0 := HX0.out.cell 0 (.int .u8 3) rfl
  go_upto_region 4 with fail
  have HX := Lib.hid (HX0.out.on (below1 W1 (.cells #[.int .u8 3, .string ⟨#[]⟩, .int .i64 0, .int .u8 0, .string ⟨#[]⟩, .string ⟨#[]⟩, .int .i64 0, .string ⟨#[]⟩, .slice none 0 0, .slice none 0 0, .int .i64 0, .int .u8 0, .string ⟨#[]⟩, .string ⟨#[]⟩, .int .i64 0, .string ⟨#[]⟩, .slice none 0 0] 33)))
  have HZ := Lib.hid (show Bk (W1.alloc (.cells #[.int .u8 3, .string ⟨#[]⟩, .int .i64 0, .int .u8 0, .string ⟨#[]⟩, .string ⟨#[]⟩, .int .i64 0, .string ⟨#[]⟩, .slice none 0 0, .slice none 0 0, .int .i64 0, .int .u8 0, .string ⟨#[]⟩, .string ⟨#[]⟩, .int .i64 0, .string ⟨#[]⟩, .slice none 0 0] 33)) W1.heap.size 33 (rqC 3 ⟨#[]⟩ 0 kpZ 0 lpZ) from Bk.new W1 33 #[.int .u8 3, .string ⟨#[]⟩, .int .i64 0, .int .u8 0, .string ⟨#[]⟩, .string ⟨#[]⟩, .int .i64 0, .string ⟨#[]⟩, .slice none 0 0, .slice none 0 0, .int .i64 0, .int .u8 0, .string ⟨#[]⟩, .string ⟨#[]⟩, .int .i64 0, .string ⟨#[]⟩, .slice none 0 0])
  have HW := Lib.hid (HW0.out.trans ((below1 W1 (.cells #[.int .u8 3, .string ⟨#[]⟩, .int .i64 0, .int .u8 0, .string ⟨#[]⟩, .string ⟨#[]⟩, .int .i64 0, .string ⟨#[]⟩, .slice none 0 0, .slice none 0 0, .int .i64 0, .int .u8 0, .string ⟨#[]⟩, .string ⟨#[]⟩, .int .i64 0, .string ⟨#[]⟩, .slice none 0 0] 33)).mono HW0.out.size))
  generalize W1.alloc (.cells #[.int .u8 3, .string ⟨#[]⟩, .int .i64 0, .int .u8 0, .string ⟨#[]⟩, .string ⟨#[]⟩, .int .i64 0, .string ⟨#[]⟩, .slice none 0 0, .slice none 0 0, .int .i64 0, .int .u8 0, .string ⟨#[]⟩, .string ⟨#[]⟩, .int .i64 0, .string ⟨#[]⟩, .slice none 0 0] 33) = W2 at *
  have hne : w.heap.size < W1.heap.size := by omega
  clear HX0 HW0 hs0 m0 hst
  generalize W1.heap.size = wb at *
  clear W1
  have HS2 := Lib.hid (show PQ 3 lb lf k no l (rqC 3 ⟨#[]⟩ 0 kpZ 0 lpZ) w wb W2 from ⟨HW.out, HX.out, HZ.out, HA.out.on HW.out⟩)
  obtain ⟨m0, m1, m2, m3, m4, m5, m6, m7, m8, m9, m10, m11, m12, m13, m14, m15, m16⟩ := (show Bk W2 w.heap.size 33 #[.int .u8 3, .string lb, .int .i64 lf, .int .u8 k.head.kind, .string k.head.who.v, .string k.head.who.s, .int .i64 k.head.who.n, .string k.head.pred, .slice k.head.ptr k.head.args.length k.head.cap, .slice k.ptr k.body.length k.cap, .int .i64 no, .int .u8 l.kind, .string l.who.v, .string l.who.s, .int .i64 l.who.n, .string l.pred, .slice l.ptr l.args.length l.cap] from HX.out).cells17
  have hne' : w.heap.size ≠ wb := Nat.ne_of_lt hne
  have hne'' : wb ≠ w.heap.size := Nat.ne_of_gt hne
  obtain ⟨z0, z1, z2, z3, z4, z5, z6, z7, z8, z9, z10, z11, z12, z13, z14, z15, z16⟩ := HZ.out.softs17
  obtain ⟨y0, y1, y2, y3, y4, y5, y6, y7, y8, y9, y10, y11, y12, y13, y14, y15, y16⟩ := (show Bk W2 wb 33 #[.int .u8 3, .string ⟨#[]⟩, .int .i64 0, .int .u8 0, .string ⟨#[]⟩, .string ⟨#[]⟩, .int .i64 0, .string ⟨#[]⟩, .slice none 0 0, .slice none 0 0, .int .i64 0, .int .u8 0, .string ⟨#[]⟩, .string ⟨#[]⟩, .int .i64 0, .string ⟨#[]⟩, .slice none 0 0] from HZ.out).cells17
  go_upto_region 20 with fail
  obtain ⟨W3, e9, HZ3, HP3⟩ := want3 HZ.out l
  rw [e9]
  have HS3 := Lib.hid (HS2.out.put hne HA.out HP3 HZ3)
  clear m0 m1 m2 m3 m4 m5 m6 m7 m8 m9 m10 m11 m12 m13 m14 m15 m16 z0 z1 z2 z3 z4 z5 z6 z7 z8 z9 z10 z11 z12 z13 z14 z15 z16 y0 y1 y2 y3 y4 y5 y6 y7 y8 y9 y10 y11 y12 y13 y14 y15 y16 HZ3 HP3 e9
  obtain ⟨x0, x1, x2, x3, x4, x5, x6, x7, x8, x9, x10, x11, x12, x13, x14, x15, x16⟩ := (show Bk W3 w.heap.size 33 #[.int .u8 3, .string lb, .int .i64 lf, .int .u8 k.head.kind, .string k.head.who.v, .string k.head.who.s, .int .i64 k.head.who.n, .string k.head.pred, .slice k.head.ptr k.head.args.length k.head.cap, .slice k.ptr k.body.length k.cap, .int .i64 no, .int .u8 l.kind, .string l.who.v, .string l.who.s, .int .i64 l.who.n, .string l.pred, .slice l.ptr l.args.length l.cap] from HS3.out.x).cells17
  cases ak with
  | false =>
    go_wp2_with (first
        | (go_at_call 10; refine (HSM.out _ HS4.out.a).mono ?_; rintro e w7 ⟨rfl, hb7⟩; have HS7 := Lib.hid (HS4.out.on hb7))
        | (go_at_call 35; refine (HAK.out _ HS3.out.a).mono ?_; rintro e w4 ⟨rfl, hb4⟩; have HS4 := Lib.hid (HS3.out.on hb4); have q0 := HS4.out.x.cell 0 (.int .u8 3) rfl)
        | (refine wpL_load (by rfl) 33 (.tmp 1) rfl _ 0 rfl (rqC 3 lb lf k no l).toList dd HS4.out.x.range hu hd (by rw [hz]; rfl) ?_; simp only [Array.toArray_toList])
        | (refine wpL_load (by rfl) 33 (.tmp 6) rfl _ 0 rfl (rqC 3 ⟨#[]⟩ 0 kpZ 0 l).toList dd HS4.out.z.range hu hd (by rw [hz]; rfl) ?_; simp only [Array.toArray_toList]))
    go_ret2
    exact ⟨by rw [HV.out, HC.out]; rfl, HS4.out.b⟩
  | true =>
  go_upto_region 28 with (first
    | (go_at_call 10; refine (HSM.out _ HS4.out.a).mono ?_; rintro e w7 ⟨rfl, hb7⟩; have HS7 := Lib.hid (HS4.out.on hb7))
    | (go_at_call 35; refine (HAK.out _ HS3.out.a).mono ?_; rintro e w4 ⟨rfl, hb4⟩; have HS4 := Lib.hid (HS3.out.on hb4); have q0 := HS4.out.x.cell 0 (.int .u8 3) rfl)
    | (refine wpL_load (by rfl) 33 (.tmp 1) rfl _ 0 rfl (rqC 3 lb lf k no l).toList dd HS4.out.x.range hu hd (by rw [hz]; rfl) ?_; simp only [Array.toArray_toList])
    | (refine wpL_load (by rfl) 33 (.tmp 6) rfl _ 0 rfl (rqC 3 ⟨#[]⟩ 0 kpZ 0 l).toList dd HS4.out.z.range hu hd (by rw [hz]; rfl) ?_; simp only [Array.toArray_toList]))
  rw [← HO.out]
  clear HO
  cases sm with
  | false =>
    go_wp2_with (first
        | (go_at_call 10; refine (HSM.out _ HS4.out.a).mono ?_; rintro e w7 ⟨rfl, hb7⟩; have HS7 := Lib.hid (HS4.out.on hb7))
        | (go_at_call 35; refine (HAK.out _ HS3.out.a).mono ?_; rintro e w4 ⟨rfl, hb4⟩; have HS4 := Lib.hid (HS3.out.on hb4); have q0 := HS4.out.x.cell 0 (.int .u8 3) rfl)
        | (refine wpL_load (by rfl) 33 (.tmp 1) rfl _ 0 rfl (rqC 3 lb lf k no l).toList dd HS4.out.x.range hu hd (by rw [hz]; rfl) ?_; simp only [Array.toArray_toList])
        | (refine wpL_load (by rfl) 33 (.tmp 6) rfl _ 0 rfl (rqC 3 ⟨#[]⟩ 0 kpZ 0 l).toList dd HS4.out.z.range hu hd (by rw [hz]; rfl) ?_; simp only [Array.toArray_toList]))
    go_ret2
    exact ⟨by rw [HV.out, HC.out]; rfl, HS7.out.b⟩
  | true =>
  by_cases hlg : 4096 < O.size
  · have hlg' : (4096 : Int) < (O.size : Int) := by omega
    go_wp2_with (first
        | (go_at_call 10; refine (HSM.out _ HS4.out.a).mono ?_; rintro e w7 ⟨rfl, hb7⟩; have HS7 := Lib.hid (HS4.out.on hb7))
        | (go_at_call 35; refine (HAK.out _ HS3.out.a).mono ?_; rintro e w4 ⟨rfl, hb4⟩; have HS4 := Lib.hid (HS3.out.on hb4); have q0 := HS4.out.x.cell 0 (.int .u8 3) rfl)
        | (refine wpL_load (by rfl) 33 (.tmp 1) rfl _ 0 rfl (rqC 3 lb lf k no l).toList dd HS4.out.x.range hu hd (by rw [hz]; rfl) ?_; simp only [Array.toArray_toList])
        | (refine wpL_load (by rfl) 33 (.tmp 6) rfl _ 0 rfl (rqC 3 ⟨#[]⟩ 0 kpZ 0 l).toList dd HS4.out.z.range hu hd (by rw [hz]; rfl) ?_; simp only [Array.toArray_toList]))
    go_ret2
    exact ⟨by rw [HV.out, HC.out, if_pos (show 4096 < O.size from hlg)]; rfl, HS7.out.b⟩
  · have hlg' : ¬ (4096 : Int) < (O.size : Int) := by omega
    go_wp2_with (first
        | (go_at_call 10; refine (HSM.out _ HS4.out.a).mono ?_; rintro e w7 ⟨rfl, hb7⟩; have HS7 := Lib.hid (HS4.out.on hb7))
        | (go_at_call 35; refine (HAK.out _ HS3.out.a).mono ?_; rintro e w4 ⟨rfl, hb4⟩; have HS4 := Lib.hid (HS3.out.on hb4); have q0 := HS4.out.x.cell 0 (.int .u8 3) rfl)
        | (refine wpL_load (by rfl) 33 (.tmp 1) rfl _ 0 rfl (rqC 3 lb lf k no l).toList dd HS4.out.x.range hu hd (by rw [hz]; rfl) ?_; simp only [Array.toArray_toList])
        | (refine wpL_load (by rfl) 33 (.tmp 6) rfl _ 0 rfl (rqC 3 ⟨#[]⟩ 0 kpZ 0 l).toList dd HS4.out.z.range hu hd (by rw [hz]; rfl) ?_; simp only [Array.toArray_toList]))
    go_ret2
    exact ⟨by rw [HV.out, HC.out, if_neg (show ¬ 4096 < O.size from hlg)]; rfl, HS7.out.b⟩

set_option maxHeartbeats 32000000 in
set_option maxRecDepth 100000 in
theorem refprint4 (lb : ByteArray) (lf : Int) (k : Kp) (no : Int) (l : Lp) (w : World) (ha : RqArg 4 lb lf k no l w) :
    Calls Tryz.prog 13 #[.agg (rqC 4 lb lf k no l)] w fun e w' => e = .returned (printV 4 lb lf k no l) ∧ Below w.heap.size w w' := by
  have HO := Lib.hid (show outQ 4 lb lf k no l = ⟨#[112, 114, 111, 118, 101, 32]⟩ ++ askT l by unfold outQ wordsQ; rw [if_neg (by decide), if_neg (by decide), if_neg (by decide), if_pos rfl, joinW2]; rfl)
  have HC := Lib.hid (show checkB 4 lb lf k no l = (l.ask && (lb.toList.isEmpty && ((lf == 0) && ((no == 0) && !isClauseB k)))) by unfold checkB; rw [if_neg (by decide), if_neg (by decide), if_pos (by decide)]; cases l.ask <;> cases lb.toList.isEmpty <;> cases hf : (lf == 0) <;> cases hn : (no == 0) <;> cases isClauseB k <;> cases isLitB l <;> simp_all [bne])
  have HV := Lib.hid (show printV 4 lb lf k no l = (if checkB 4 lb lf k no l = true then (if 4096 < (outQ 4 lb lf k no l).size then .tuple #[.string ⟨#[]⟩, .int .i64 2] else .tuple #[.string (outQ 4 lb lf k no l), .int .i64 0]) else .tuple #[.string ⟨#[]⟩, .int .i64 1]) from rfl)
  have hdz := askT_size l ha.lp.nb
  have HAK := Lib.hid (show ∀ X, RqArg 4 lb lf k no l X → _ from fun X hX => refask_arg hX)
  have HSM := Lib.hid (show ∀ X, RqArg 4 lb lf k no l X → Calls Tryz.prog 10 #[.agg (rqC 4 lb lf k no l), .agg (rqC 4 ⟨#[]⟩ 0 kpZ 0 l)] X fun e w' => e = .returned (.bool (lb.toList.isEmpty && ((lf == 0) && ((no == 0) && !isClauseB k)))) ∧ Below X.heap.size X w' from fun X hX => (samereq_arg hX ⟨#[]⟩ 0 0 kpZ l (.inr rfl) (.inl rfl)).mono fun e w' ⟨h1, h2⟩ => ⟨by rw [h1]; simp only [dl_empty, sameK_zero, sameL_zero, sameK_self, sameL_self, beq_self_eq_true, Bool.true_and, Bool.and_true], h2⟩)
  obtain ⟨dd, hu, hd⟩ := rowReq
  have hz := sizeReq
  unfold Lp.agg at HAK
  generalize outQ 4 lb lf k no l = O at *
  generalize printV 4 lb lf k no l = V at *
  generalize checkB 4 lb lf k no l = CB at *
  generalize l.ask = ak at *
  generalize askT l = C at *
  generalize (lb.toList.isEmpty && ((lf == 0) && ((no == 0) && !isClauseB k))) = sm at *
  have HA := Lib.hid ha
  have hlb := ha.lb
  have hst := fun (w : World) (kd : Int) (lb : ByteArray) (lf : Int) (cl : Kp) (no : Int) (lp : Lp) => run_storeReq w kd lb lf cl no lp
  have e1 : (⟨#[32]⟩ : ByteArray).size = 1 := rfl
  have e2 : (⟨#[113, 117, 101, 114, 121, 32]⟩ : ByteArray).size = 6 := rfl
  have e3 : (⟨#[112, 114, 111, 118, 101, 32]⟩ : ByteArray).size = 6 := rfl
  clear ha
  go_enter Tryz.func13, Tryz.ntmps13
  go_upto_region 3 with fail
  have HX0 := Lib.hid (Bk.new w 33 (rqC 4 lb lf k no l))
  have HW0 := Lib.hid (below1 w (.cells (rqC 4 lb lf k no l) 33))
  have hs0 : w.heap.size + 1 ≤ (w.alloc (.cells (rqC 4 lb lf k no l) 33)).heap.size := by simp
  generalize w.alloc (.cells (rqC 4 lb lf k no l) 33) = W1 at *
  have m0 := HX0.out.cell 0 (.int .u8 4) rfl
  go_upto_region 4 with fail
  have HX := Lib.hid (HX0.out.on (below1 W1 (.cells #[.int .u8 4, .string ⟨#[]⟩, .int .i64 0, .int .u8 0, .string ⟨#[]⟩, .string ⟨#[]⟩, .int .i64 0, .string ⟨#[]⟩, .slice none 0 0, .slice none 0 0, .int .i64 0, .int .u8 0, .string ⟨#[]⟩, .string ⟨#[]⟩, .int .i64 0, .string ⟨#[]⟩, .slice none 0 0] 33)))
  have HZ := Lib.hid (show Bk (W1.alloc (.cells #[.int .u8 4, .string ⟨#[]⟩, .int .i64 0, .int .u8 0, .string ⟨#[]⟩, .string ⟨#[]⟩, .int .i64 0, .string ⟨#[]⟩, .slice none 0 0, .slice none 0 0, .int .i64 0, .int .u8 0, .string ⟨#[]⟩, .string ⟨#[]⟩, .int .i64 0, .string ⟨#[]⟩, .slice none 0 0] 33)) W1.heap.size 33 (rqC 4 ⟨#[]⟩ 0 kpZ 0 lpZ) from Bk.new W1 33 #[.int .u8 4, .string ⟨#[]⟩, .int .i64 0, .int .u8 0, .string ⟨#[]⟩, .string ⟨#[]⟩, .int .i64 0, .string ⟨#[]⟩, .slice none 0 0, .slice none 0 0, .int .i64 0, .int .u8 0, .string ⟨#[]⟩, .string ⟨#[]⟩, .int .i64 0, .string ⟨#[]⟩, .slice none 0 0])
  have HW := Lib.hid (HW0.out.trans ((below1 W1 (.cells #[.int .u8 4, .string ⟨#[]⟩, .int .i64 0, .int .u8 0, .string ⟨#[]⟩, .string ⟨#[]⟩, .int .i64 0, .string ⟨#[]⟩, .slice none 0 0, .slice none 0 0, .int .i64 0, .int .u8 0, .string ⟨#[]⟩, .string ⟨#[]⟩, .int .i64 0, .string ⟨#[]⟩, .slice none 0 0] 33)).mono HW0.out.size))
  generalize W1.alloc (.cells #[.int .u8 4, .string ⟨#[]⟩, .int .i64 0, .int .u8 0, .string ⟨#[]⟩, .string ⟨#[]⟩, .int .i64 0, .string ⟨#[]⟩, .slice none 0 0, .slice none 0 0, .int .i64 0, .int .u8 0, .string ⟨#[]⟩, .string ⟨#[]⟩, .int .i64 0, .string ⟨#[]⟩, .slice none 0 0] 33) = W2 at *
  have hne : w.heap.size < W1.heap.size := by omega
  clear HX0 HW0 hs0 m0 hst
  generalize W1.heap.size = wb at *
  clear W1
  have HS2 := Lib.hid (show PQ 4 lb lf k no l (rqC 4 ⟨#[]⟩ 0 kpZ 0 lpZ) w wb W2 from ⟨HW.out, HX.out, HZ.out, HA.out.on HW.out⟩)
  obtain ⟨m0, m1, m2, m3, m4, m5, m6, m7, m8, m9, m10, m11, m12, m13, m14, m15, m16⟩ := (show Bk W2 w.heap.size 33 #[.int .u8 4, .string lb, .int .i64 lf, .int .u8 k.head.kind, .string k.head.who.v, .string k.head.who.s, .int .i64 k.head.who.n, .string k.head.pred, .slice k.head.ptr k.head.args.length k.head.cap, .slice k.ptr k.body.length k.cap, .int .i64 no, .int .u8 l.kind, .string l.who.v, .string l.who.s, .int .i64 l.who.n, .string l.pred, .slice l.ptr l.args.length l.cap] from HX.out).cells17
  have hne' : w.heap.size ≠ wb := Nat.ne_of_lt hne
  have hne'' : wb ≠ w.heap.size := Nat.ne_of_gt hne
  obtain ⟨z0, z1, z2, z3, z4, z5, z6, z7, z8, z9, z10, z11, z12, z13, z14, z15, z16⟩ := HZ.out.softs17
  obtain ⟨y0, y1, y2, y3, y4, y5, y6, y7, y8, y9, y10, y11, y12, y13, y14, y15, y16⟩ := (show Bk W2 wb 33 #[.int .u8 4, .string ⟨#[]⟩, .int .i64 0, .int .u8 0, .string ⟨#[]⟩, .string ⟨#[]⟩, .int .i64 0, .string ⟨#[]⟩, .slice none 0 0, .slice none 0 0, .int .i64 0, .int .u8 0, .string ⟨#[]⟩, .string ⟨#[]⟩, .int .i64 0, .string ⟨#[]⟩, .slice none 0 0] from HZ.out).cells17
  go_upto_region 20 with fail
  obtain ⟨W3, e9, HZ3, HP3⟩ := want3 HZ.out l
  rw [e9]
  have HS3 := Lib.hid (HS2.out.put hne HA.out HP3 HZ3)
  clear m0 m1 m2 m3 m4 m5 m6 m7 m8 m9 m10 m11 m12 m13 m14 m15 m16 z0 z1 z2 z3 z4 z5 z6 z7 z8 z9 z10 z11 z12 z13 z14 z15 z16 y0 y1 y2 y3 y4 y5 y6 y7 y8 y9 y10 y11 y12 y13 y14 y15 y16 HZ3 HP3 e9
  obtain ⟨x0, x1, x2, x3, x4, x5, x6, x7, x8, x9, x10, x11, x12, x13, x14, x15, x16⟩ := (show Bk W3 w.heap.size 33 #[.int .u8 4, .string lb, .int .i64 lf, .int .u8 k.head.kind, .string k.head.who.v, .string k.head.who.s, .int .i64 k.head.who.n, .string k.head.pred, .slice k.head.ptr k.head.args.length k.head.cap, .slice k.ptr k.body.length k.cap, .int .i64 no, .int .u8 l.kind, .string l.who.v, .string l.who.s, .int .i64 l.who.n, .string l.pred, .slice l.ptr l.args.length l.cap] from HS3.out.x).cells17
  cases ak with
  | false =>
    go_wp2_with (first
        | (go_at_call 10; refine (HSM.out _ HS4.out.a).mono ?_; rintro e w7 ⟨rfl, hb7⟩; have HS7 := Lib.hid (HS4.out.on hb7))
        | (go_at_call 35; refine (HAK.out _ HS3.out.a).mono ?_; rintro e w4 ⟨rfl, hb4⟩; have HS4 := Lib.hid (HS3.out.on hb4); have q0 := HS4.out.x.cell 0 (.int .u8 4) rfl)
        | (refine wpL_load (by rfl) 33 (.tmp 1) rfl _ 0 rfl (rqC 4 lb lf k no l).toList dd HS4.out.x.range hu hd (by rw [hz]; rfl) ?_; simp only [Array.toArray_toList])
        | (refine wpL_load (by rfl) 33 (.tmp 6) rfl _ 0 rfl (rqC 4 ⟨#[]⟩ 0 kpZ 0 l).toList dd HS4.out.z.range hu hd (by rw [hz]; rfl) ?_; simp only [Array.toArray_toList]))
    go_ret2
    exact ⟨by rw [HV.out, HC.out]; rfl, HS4.out.b⟩
  | true =>
  go_upto_region 28 with (first
    | (go_at_call 10; refine (HSM.out _ HS4.out.a).mono ?_; rintro e w7 ⟨rfl, hb7⟩; have HS7 := Lib.hid (HS4.out.on hb7))
    | (go_at_call 35; refine (HAK.out _ HS3.out.a).mono ?_; rintro e w4 ⟨rfl, hb4⟩; have HS4 := Lib.hid (HS3.out.on hb4); have q0 := HS4.out.x.cell 0 (.int .u8 4) rfl)
    | (refine wpL_load (by rfl) 33 (.tmp 1) rfl _ 0 rfl (rqC 4 lb lf k no l).toList dd HS4.out.x.range hu hd (by rw [hz]; rfl) ?_; simp only [Array.toArray_toList])
    | (refine wpL_load (by rfl) 33 (.tmp 6) rfl _ 0 rfl (rqC 4 ⟨#[]⟩ 0 kpZ 0 l).toList dd HS4.out.z.range hu hd (by rw [hz]; rfl) ?_; simp only [Array.toArray_toList]))
  rw [← HO.out]
  clear HO
  cases sm with
  | false =>
    go_wp2_with (first
        | (go_at_call 10; refine (HSM.out _ HS4.out.a).mono ?_; rintro e w7 ⟨rfl, hb7⟩; have HS7 := Lib.hid (HS4.out.on hb7))
        | (go_at_call 35; refine (HAK.out _ HS3.out.a).mono ?_; rintro e w4 ⟨rfl, hb4⟩; have HS4 := Lib.hid (HS3.out.on hb4); have q0 := HS4.out.x.cell 0 (.int .u8 4) rfl)
        | (refine wpL_load (by rfl) 33 (.tmp 1) rfl _ 0 rfl (rqC 4 lb lf k no l).toList dd HS4.out.x.range hu hd (by rw [hz]; rfl) ?_; simp only [Array.toArray_toList])
        | (refine wpL_load (by rfl) 33 (.tmp 6) rfl _ 0 rfl (rqC 4 ⟨#[]⟩ 0 kpZ 0 l).toList dd HS4.out.z.range hu hd (by rw [hz]; rfl) ?_; simp only [Array.toArray_toList]))
    go_ret2
    exact ⟨by rw [HV.out, HC.out]; rfl, HS7.out.b⟩
  | true =>
  by_cases hlg : 4096 < O.size
  · have hlg' : (4096 : Int) < (O.size : Int) := by omega
    go_wp2_with (first
        | (go_at_call 10; refine (HSM.out _ HS4.out.a).mono ?_; rintro e w7 ⟨rfl, hb7⟩; have HS7 := Lib.hid (HS4.out.on hb7))
        | (go_at_call 35; refine (HAK.out _ HS3.out.a).mono ?_; rintro e w4 ⟨rfl, hb4⟩; have HS4 := Lib.hid (HS3.out.on hb4); have q0 := HS4.out.x.cell 0 (.int .u8 4) rfl)
        | (refine wpL_load (by rfl) 33 (.tmp 1) rfl _ 0 rfl (rqC 4 lb lf k no l).toList dd HS4.out.x.range hu hd (by rw [hz]; rfl) ?_; simp only [Array.toArray_toList])
        | (refine wpL_load (by rfl) 33 (.tmp 6) rfl _ 0 rfl (rqC 4 ⟨#[]⟩ 0 kpZ 0 l).toList dd HS4.out.z.range hu hd (by rw [hz]; rfl) ?_; simp only [Array.toArray_toList]))
    go_ret2
    exact ⟨by rw [HV.out, HC.out, if_pos (show 4096 < O.size from hlg)]; rfl, HS7.out.b⟩
  · have hlg' : ¬ (4096 : Int) < (O.size : Int) := by omega
    go_wp2_with (first
        | (go_at_call 10; refine (HSM.out _ HS4.out.a).mono ?_; rintro e w7 ⟨rfl, hb7⟩; have HS7 := Lib.hid (HS4.out.on hb7))
        | (go_at_call 35; refine (HAK.out _ HS3.out.a).mono ?_; rintro e w4 ⟨rfl, hb4⟩; have HS4 := Lib.hid (HS3.out.on hb4); have q0 := HS4.out.x.cell 0 (.int .u8 4) rfl)
        | (refine wpL_load (by rfl) 33 (.tmp 1) rfl _ 0 rfl (rqC 4 lb lf k no l).toList dd HS4.out.x.range hu hd (by rw [hz]; rfl) ?_; simp only [Array.toArray_toList])
        | (refine wpL_load (by rfl) 33 (.tmp 6) rfl _ 0 rfl (rqC 4 ⟨#[]⟩ 0 kpZ 0 l).toList dd HS4.out.z.range hu hd (by rw [hz]; rfl) ?_; simp only [Array.toArray_toList]))
    go_ret2
    exact ⟨by rw [HV.out, HC.out, if_neg (show ¬ 4096 < O.size from hlg)]; rfl, HS7.out.b⟩

set_option maxHeartbeats 32000000 in
set_option maxRecDepth 100000 in
theorem refprint5 (lb : ByteArray) (lf : Int) (k : Kp) (no : Int) (l : Lp) (w : World) (ha : RqArg 5 lb lf k no l w) :
    Calls Tryz.prog 13 #[.agg (rqC 5 lb lf k no l)] w fun e w' => e = .returned (printV 5 lb lf k no l) ∧ Below w.heap.size w w' := by
  have HO := Lib.hid (show outQ 5 lb lf k no l = ⟨#[97, 117, 100, 105, 116]⟩ by unfold outQ wordsQ; rw [if_neg (by decide), if_neg (by decide), if_neg (by decide), if_neg (by decide), joinW1]; rfl)
  have HC := Lib.hid (show checkB 5 lb lf k no l = (lb.toList.isEmpty && ((lf == 0) && ((no == 0) && (!isClauseB k && !isLitB l)))) by unfold checkB; rw [if_neg (by decide), if_neg (by decide), if_neg (by decide), if_pos rfl]; cases lb.toList.isEmpty <;> cases hf : (lf == 0) <;> cases hn : (no == 0) <;> cases isClauseB k <;> cases isLitB l <;> simp_all [bne])
  have HV := Lib.hid (show printV 5 lb lf k no l = (if checkB 5 lb lf k no l = true then (if 4096 < (outQ 5 lb lf k no l).size then .tuple #[.string ⟨#[]⟩, .int .i64 2] else .tuple #[.string (outQ 5 lb lf k no l), .int .i64 0]) else .tuple #[.string ⟨#[]⟩, .int .i64 1]) from rfl)
  have HSM := Lib.hid (show ∀ X, RqArg 5 lb lf k no l X → Calls Tryz.prog 10 #[.agg (rqC 5 lb lf k no l), .agg (rqC 5 ⟨#[]⟩ 0 kpZ 0 lpZ)] X fun e w' => e = .returned (.bool (lb.toList.isEmpty && ((lf == 0) && ((no == 0) && (!isClauseB k && !isLitB l))))) ∧ Below X.heap.size X w' from fun X hX => (samereq_arg hX ⟨#[]⟩ 0 0 kpZ lpZ (.inr rfl) (.inr rfl)).mono fun e w' ⟨h1, h2⟩ => ⟨by rw [h1]; simp only [dl_empty, sameK_zero, sameL_zero, sameK_self, sameL_self, beq_self_eq_true, Bool.true_and, Bool.and_true], h2⟩)
  obtain ⟨dd, hu, hd⟩ := rowReq
  have hz := sizeReq
  generalize outQ 5 lb lf k no l = O at *
  generalize printV 5 lb lf k no l = V at *
  generalize checkB 5 lb lf k no l = CB at *
  generalize (lb.toList.isEmpty && ((lf == 0) && ((no == 0) && (!isClauseB k && !isLitB l)))) = sm at *
  have HA := Lib.hid ha
  have hlb := ha.lb
  have hst := fun (w : World) (kd : Int) (lb : ByteArray) (lf : Int) (cl : Kp) (no : Int) (lp : Lp) => run_storeReq w kd lb lf cl no lp
  have e1 : (⟨#[32]⟩ : ByteArray).size = 1 := rfl
  clear ha
  go_enter Tryz.func13, Tryz.ntmps13
  go_upto_region 3 with fail
  have HX0 := Lib.hid (Bk.new w 33 (rqC 5 lb lf k no l))
  have HW0 := Lib.hid (below1 w (.cells (rqC 5 lb lf k no l) 33))
  have hs0 : w.heap.size + 1 ≤ (w.alloc (.cells (rqC 5 lb lf k no l) 33)).heap.size := by simp
  generalize w.alloc (.cells (rqC 5 lb lf k no l) 33) = W1 at *
  have m0 := HX0.out.cell 0 (.int .u8 5) rfl
  go_upto_region 4 with fail
  have HX := Lib.hid (HX0.out.on (below1 W1 (.cells #[.int .u8 5, .string ⟨#[]⟩, .int .i64 0, .int .u8 0, .string ⟨#[]⟩, .string ⟨#[]⟩, .int .i64 0, .string ⟨#[]⟩, .slice none 0 0, .slice none 0 0, .int .i64 0, .int .u8 0, .string ⟨#[]⟩, .string ⟨#[]⟩, .int .i64 0, .string ⟨#[]⟩, .slice none 0 0] 33)))
  have HZ := Lib.hid (show Bk (W1.alloc (.cells #[.int .u8 5, .string ⟨#[]⟩, .int .i64 0, .int .u8 0, .string ⟨#[]⟩, .string ⟨#[]⟩, .int .i64 0, .string ⟨#[]⟩, .slice none 0 0, .slice none 0 0, .int .i64 0, .int .u8 0, .string ⟨#[]⟩, .string ⟨#[]⟩, .int .i64 0, .string ⟨#[]⟩, .slice none 0 0] 33)) W1.heap.size 33 (rqC 5 ⟨#[]⟩ 0 kpZ 0 lpZ) from Bk.new W1 33 #[.int .u8 5, .string ⟨#[]⟩, .int .i64 0, .int .u8 0, .string ⟨#[]⟩, .string ⟨#[]⟩, .int .i64 0, .string ⟨#[]⟩, .slice none 0 0, .slice none 0 0, .int .i64 0, .int .u8 0, .string ⟨#[]⟩, .string ⟨#[]⟩, .int .i64 0, .string ⟨#[]⟩, .slice none 0 0])
  have HW := Lib.hid (HW0.out.trans ((below1 W1 (.cells #[.int .u8 5, .string ⟨#[]⟩, .int .i64 0, .int .u8 0, .string ⟨#[]⟩, .string ⟨#[]⟩, .int .i64 0, .string ⟨#[]⟩, .slice none 0 0, .slice none 0 0, .int .i64 0, .int .u8 0, .string ⟨#[]⟩, .string ⟨#[]⟩, .int .i64 0, .string ⟨#[]⟩, .slice none 0 0] 33)).mono HW0.out.size))
  generalize W1.alloc (.cells #[.int .u8 5, .string ⟨#[]⟩, .int .i64 0, .int .u8 0, .string ⟨#[]⟩, .string ⟨#[]⟩, .int .i64 0, .string ⟨#[]⟩, .slice none 0 0, .slice none 0 0, .int .i64 0, .int .u8 0, .string ⟨#[]⟩, .string ⟨#[]⟩, .int .i64 0, .string ⟨#[]⟩, .slice none 0 0] 33) = W2 at *
  have hne : w.heap.size < W1.heap.size := by omega
  clear HX0 HW0 hs0 m0 hst
  generalize W1.heap.size = wb at *
  clear W1
  have HS2 := Lib.hid (show PQ 5 lb lf k no l (rqC 5 ⟨#[]⟩ 0 kpZ 0 lpZ) w wb W2 from ⟨HW.out, HX.out, HZ.out, HA.out.on HW.out⟩)
  obtain ⟨m0, m1, m2, m3, m4, m5, m6, m7, m8, m9, m10, m11, m12, m13, m14, m15, m16⟩ := (show Bk W2 w.heap.size 33 #[.int .u8 5, .string lb, .int .i64 lf, .int .u8 k.head.kind, .string k.head.who.v, .string k.head.who.s, .int .i64 k.head.who.n, .string k.head.pred, .slice k.head.ptr k.head.args.length k.head.cap, .slice k.ptr k.body.length k.cap, .int .i64 no, .int .u8 l.kind, .string l.who.v, .string l.who.s, .int .i64 l.who.n, .string l.pred, .slice l.ptr l.args.length l.cap] from HX.out).cells17
  go_upto_region 28 with (first
    | (go_at_call 10; refine (HSM.out _ HS2.out.a).mono ?_; rintro e w7 ⟨rfl, hb7⟩; have HS7 := Lib.hid (HS2.out.on hb7))
    | (refine wpL_load (by rfl) 33 (.tmp 1) rfl _ 0 rfl (rqC 5 lb lf k no l).toList dd HS2.out.x.range hu hd (by rw [hz]; rfl) ?_; simp only [Array.toArray_toList])
    | (refine wpL_load (by rfl) 33 (.tmp 6) rfl _ 0 rfl (rqC 5 ⟨#[]⟩ 0 kpZ 0 lpZ).toList dd HS2.out.z.range hu hd (by rw [hz]; rfl) ?_; simp only [Array.toArray_toList]))
  rw [← HO.out]
  clear HO
  cases sm with
  | false =>
    go_wp2_with (first
        | (go_at_call 10; refine (HSM.out _ HS2.out.a).mono ?_; rintro e w7 ⟨rfl, hb7⟩; have HS7 := Lib.hid (HS2.out.on hb7))
        | (refine wpL_load (by rfl) 33 (.tmp 1) rfl _ 0 rfl (rqC 5 lb lf k no l).toList dd HS2.out.x.range hu hd (by rw [hz]; rfl) ?_; simp only [Array.toArray_toList])
        | (refine wpL_load (by rfl) 33 (.tmp 6) rfl _ 0 rfl (rqC 5 ⟨#[]⟩ 0 kpZ 0 lpZ).toList dd HS2.out.z.range hu hd (by rw [hz]; rfl) ?_; simp only [Array.toArray_toList]))
    go_ret2
    exact ⟨by rw [HV.out, HC.out]; rfl, HS7.out.b⟩
  | true =>
  by_cases hlg : 4096 < O.size
  · have hlg' : (4096 : Int) < (O.size : Int) := by omega
    go_wp2_with (first
        | (go_at_call 10; refine (HSM.out _ HS2.out.a).mono ?_; rintro e w7 ⟨rfl, hb7⟩; have HS7 := Lib.hid (HS2.out.on hb7))
        | (refine wpL_load (by rfl) 33 (.tmp 1) rfl _ 0 rfl (rqC 5 lb lf k no l).toList dd HS2.out.x.range hu hd (by rw [hz]; rfl) ?_; simp only [Array.toArray_toList])
        | (refine wpL_load (by rfl) 33 (.tmp 6) rfl _ 0 rfl (rqC 5 ⟨#[]⟩ 0 kpZ 0 lpZ).toList dd HS2.out.z.range hu hd (by rw [hz]; rfl) ?_; simp only [Array.toArray_toList]))
    go_ret2
    exact ⟨by rw [HV.out, HC.out, if_pos (show 4096 < O.size from hlg)]; rfl, HS7.out.b⟩
  · have hlg' : ¬ (4096 : Int) < (O.size : Int) := by omega
    go_wp2_with (first
        | (go_at_call 10; refine (HSM.out _ HS2.out.a).mono ?_; rintro e w7 ⟨rfl, hb7⟩; have HS7 := Lib.hid (HS2.out.on hb7))
        | (refine wpL_load (by rfl) 33 (.tmp 1) rfl _ 0 rfl (rqC 5 lb lf k no l).toList dd HS2.out.x.range hu hd (by rw [hz]; rfl) ?_; simp only [Array.toArray_toList])
        | (refine wpL_load (by rfl) 33 (.tmp 6) rfl _ 0 rfl (rqC 5 ⟨#[]⟩ 0 kpZ 0 lpZ).toList dd HS2.out.z.range hu hd (by rw [hz]; rfl) ?_; simp only [Array.toArray_toList]))
    go_ret2
    exact ⟨by rw [HV.out, HC.out, if_neg (show ¬ 4096 < O.size from hlg)]; rfl, HS7.out.b⟩

set_option maxHeartbeats 32000000 in
set_option maxRecDepth 100000 in
theorem refprinto (kd : Int) (lb : ByteArray) (lf : Int) (k : Kp) (no : Int) (l : Lp) (w : World) (ha : RqArg kd lb lf k no l w) (n1 : kd ≠ 1) (n2 : kd ≠ 2) (n3 : kd ≠ 3) (n4 : kd ≠ 4) (n5 : kd ≠ 5) :
    Calls Tryz.prog 13 #[.agg (rqC kd lb lf k no l)] w fun e w' => e = .returned (printV kd lb lf k no l) ∧ Below w.heap.size w w' := by
  have HV := Lib.hid (show printV kd lb lf k no l = .tuple #[.string ⟨#[]⟩, .int .i64 1] by unfold printV; rw [if_neg (by unfold checkB; rw [if_neg n1, if_neg n2, if_neg (by omega), if_neg n5]; decide)])
  have b1 : (kd == 1) = false := beq_eq_false_iff_ne.2 n1
  have b2 : (kd == 2) = false := beq_eq_false_iff_ne.2 n2
  have b3 : (kd == 3) = false := beq_eq_false_iff_ne.2 n3
  have b4 : (kd == 4) = false := beq_eq_false_iff_ne.2 n4
  have b5 : (kd == 5) = false := beq_eq_false_iff_ne.2 n5
  generalize printV kd lb lf k no l = V at *
  clear n1 n2 n3 n4 n5
  have HA := Lib.hid ha
  have hlb := ha.lb
  have hst := fun (w : World) (kd : Int) (lb : ByteArray) (lf : Int) (cl : Kp) (no : Int) (lp : Lp) => run_storeReq w kd lb lf cl no lp
  have e1 : (⟨#[32]⟩ : ByteArray).size = 1 := rfl
  clear ha
  go_enter Tryz.func13, Tryz.ntmps13
  go_upto_region 3 with fail
  have HX0 := Lib.hid (Bk.new w 33 (rqC kd lb lf k no l))
  have HW0 := Lib.hid (below1 w (.cells (rqC kd lb lf k no l) 33))
  have hs0 : w.heap.size + 1 ≤ (w.alloc (.cells (rqC kd lb lf k no l) 33)).heap.size := by simp
  generalize w.alloc (.cells (rqC kd lb lf k no l) 33) = W1 at *
  have m0 := HX0.out.cell 0 (.int .u8 kd) rfl
  go_upto_region 4 with fail
  have HX := Lib.hid (HX0.out.on (below1 W1 (.cells #[.int .u8 kd, .string ⟨#[]⟩, .int .i64 0, .int .u8 0, .string ⟨#[]⟩, .string ⟨#[]⟩, .int .i64 0, .string ⟨#[]⟩, .slice none 0 0, .slice none 0 0, .int .i64 0, .int .u8 0, .string ⟨#[]⟩, .string ⟨#[]⟩, .int .i64 0, .string ⟨#[]⟩, .slice none 0 0] 33)))
  have HZ := Lib.hid (show Bk (W1.alloc (.cells #[.int .u8 kd, .string ⟨#[]⟩, .int .i64 0, .int .u8 0, .string ⟨#[]⟩, .string ⟨#[]⟩, .int .i64 0, .string ⟨#[]⟩, .slice none 0 0, .slice none 0 0, .int .i64 0, .int .u8 0, .string ⟨#[]⟩, .string ⟨#[]⟩, .int .i64 0, .string ⟨#[]⟩, .slice none 0 0] 33)) W1.heap.size 33 (rqC kd ⟨#[]⟩ 0 kpZ 0 lpZ) from Bk.new W1 33 #[.int .u8 kd, .string ⟨#[]⟩, .int .i64 0, .int .u8 0, .string ⟨#[]⟩, .string ⟨#[]⟩, .int .i64 0, .string ⟨#[]⟩, .slice none 0 0, .slice none 0 0, .int .i64 0, .int .u8 0, .string ⟨#[]⟩, .string ⟨#[]⟩, .int .i64 0, .string ⟨#[]⟩, .slice none 0 0])
  have HW := Lib.hid (HW0.out.trans ((below1 W1 (.cells #[.int .u8 kd, .string ⟨#[]⟩, .int .i64 0, .int .u8 0, .string ⟨#[]⟩, .string ⟨#[]⟩, .int .i64 0, .string ⟨#[]⟩, .slice none 0 0, .slice none 0 0, .int .i64 0, .int .u8 0, .string ⟨#[]⟩, .string ⟨#[]⟩, .int .i64 0, .string ⟨#[]⟩, .slice none 0 0] 33)).mono HW0.out.size))
  generalize W1.alloc (.cells #[.int .u8 kd, .string ⟨#[]⟩, .int .i64 0, .int .u8 0, .string ⟨#[]⟩, .string ⟨#[]⟩, .int .i64 0, .string ⟨#[]⟩, .slice none 0 0, .slice none 0 0, .int .i64 0, .int .u8 0, .string ⟨#[]⟩, .string ⟨#[]⟩, .int .i64 0, .string ⟨#[]⟩, .slice none 0 0] 33) = W2 at *
  have hne : w.heap.size < W1.heap.size := by omega
  clear HX0 HW0 hs0 m0 hst
  generalize W1.heap.size = wb at *
  clear W1
  have HS2 := Lib.hid (show PQ kd lb lf k no l (rqC kd ⟨#[]⟩ 0 kpZ 0 lpZ) w wb W2 from ⟨HW.out, HX.out, HZ.out, HA.out.on HW.out⟩)
  obtain ⟨m0, m1, m2, m3, m4, m5, m6, m7, m8, m9, m10, m11, m12, m13, m14, m15, m16⟩ := (show Bk W2 w.heap.size 33 #[.int .u8 kd, .string lb, .int .i64 lf, .int .u8 k.head.kind, .string k.head.who.v, .string k.head.who.s, .int .i64 k.head.who.n, .string k.head.pred, .slice k.head.ptr k.head.args.length k.head.cap, .slice k.ptr k.body.length k.cap, .int .i64 no, .int .u8 l.kind, .string l.who.v, .string l.who.s, .int .i64 l.who.n, .string l.pred, .slice l.ptr l.args.length l.cap] from HX.out).cells17
  go_wp2_with fail
  go_ret2
  exact ⟨by rw [HV.out]; rfl, HS2.out.b⟩
end Go.Proofs.YtfmkfabbiifolaaGreatDoor
