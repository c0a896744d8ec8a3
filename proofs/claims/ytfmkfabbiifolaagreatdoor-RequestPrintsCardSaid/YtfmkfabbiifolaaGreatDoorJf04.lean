/-
  Joined of: Rpra.
-/
import Derived.Test.YtfmkfabbiifolaaGreatDoorJf03
set_option linter.unusedVariables false
set_option linter.unusedSimpArgs false
/-
  Contract: the reference's Print of a request. (Made by tools/mk_rpr.py.)
-/
set_option linter.unusedVariables false
set_option linter.unusedSimpArgs false
namespace Go.Proofs.YtfmkfabbiifolaaGreatDoor
open Go.RowKit

set_option maxHeartbeats 32000000 in
set_option maxRecDepth 100000 in
theorem refprint1p (lb : ByteArray) (lf : Int) (k : Kp) (no : Int) (l : Lp) (w : World) (ha : RqArg 1 lb lf k no l w) (h0 : 0 < lf) :
    Calls Tryz.prog 13 #[.agg (rqC 1 lb lf k no l)] w fun e w' => e = .returned (printV 1 lb lf k no l) ∧ Below w.heap.size w w' := by
  have HO := Lib.hid (show outQ 1 lb lf k no l = (((⟨#[97, 115, 115, 101, 114, 116, 32]⟩ ++ lb) ++ ⟨#[32]⟩) ++ ((⟨#[102, 111, 114, 32]⟩ ++ itoaS lf) ++ ⟨#[32]⟩)) ++ claT k by unfold outQ wordsQ; rw [if_pos rfl, if_pos h0, joinW5]; rfl)
  have HC := Lib.hid (show checkB 1 lb lf k no l = (k.check && (nameB lb && ((lf == 0 || boundB lf) && ((no == 0) && !isLitB l)))) by unfold checkB; rw [if_pos rfl]; cases k.check <;> cases nameB lb <;> cases (lf == 0 || boundB lf) <;> cases hn : (no == 0) <;> cases isLitB l <;> simp_all [bne])
  have HV := Lib.hid (show printV 1 lb lf k no l = (if checkB 1 lb lf k no l = true then (if 4096 < (outQ 1 lb lf k no l).size then .tuple #[.string ⟨#[]⟩, .int .i64 2] else .tuple #[.string (outQ 1 lb lf k no l), .int .i64 0]) else .tuple #[.string ⟨#[]⟩, .int .i64 1]) from rfl)
  have hcz := claT_size k ha.cl.nb
  have hdz := itoa_size lf ha.lf.1 ha.lf.2
  have HCL := Lib.hid (show ∀ X, RqArg 1 lb lf k no l X → _ from fun X hX => refcla_arg hX)
  have HNM := Lib.hid (fun X => refname_any lb X (by have := ha.lb; unfold maxLen; omega))
  have HNB := Lib.hid (fun X => number_any lf X ha.lf.1 ha.lf.2)
  have HSM := Lib.hid (show ∀ X, RqArg 1 lb lf k no l X → Calls Tryz.prog 10 #[.agg (rqC 1 lb lf k no l), .agg (rqC 1 lb lf k 0 lpZ)] X fun e w' => e = .returned (.bool ((no == 0) && !isLitB l)) ∧ Below X.heap.size X w' from fun X hX => (samereq_arg hX lb lf 0 k lpZ (.inl rfl) (.inr rfl)).mono fun e w' ⟨h1, h2⟩ => ⟨by rw [h1, sameL_zero, sameK_self, beq_self_eq_true, beq_self_eq_true]; rfl, h2⟩)
  obtain ⟨dd, hu, hd⟩ := rowReq
  have hz := sizeReq
  unfold Kp.agg at HCL
  generalize outQ 1 lb lf k no l = O at *
  generalize printV 1 lb lf k no l = V at *
  generalize checkB 1 lb lf k no l = CB at *
  generalize k.check = ck at *
  generalize nameB lb = nb at *
  generalize claT k = C at *
  generalize itoaS lf = D at *
  generalize ((no == 0) && !isLitB l) = sm at *
  have HA := Lib.hid ha
  have hlb := ha.lb
  have hst := fun (w : World) (kd : Int) (lb : ByteArray) (lf : Int) (cl : Kp) (no : Int) (lp : Lp) => run_storeReq w kd lb lf cl no lp
  have e1 : (⟨#[32]⟩ : ByteArray).size = 1 := rfl
  have e2 : (⟨#[97, 115, 115, 101, 114, 116, 32]⟩ : ByteArray).size = 7 := rfl
  have e3 : (⟨#[102, 111, 114, 32]⟩ : ByteArray).size = 4 := rfl
  clear ha
  go_enter Tryz.func13, Tryz.ntmps13
  go_upto_region 3 with fail
  have HX0 := Lib.hid (Bk.new w 33 (rqC 1 lb lf k no l))
  have HW0 := Lib.hid (below1 w (.cells (rqC 1 lb lf k no l) 33))
  have hs0 : w.heap.size + 1 ≤ (w.alloc (.cells (rqC 1 lb lf k no l) 33)).heap.size := by simp
  generalize w.alloc (.cells (rqC 1 lb lf k no l) 33) = W1 at *
  have m0 := HX0.out.cell 0 (.int .u8 1) rfl
  go_upto_region 4 with fail
  have HX := Lib.hid (HX0.out.on (below1 W1 (.cells #[.int .u8 1, .string ⟨#[]⟩, .int .i64 0, .int .u8 0, .string ⟨#[]⟩, .string ⟨#[]⟩, .int .i64 0, .string ⟨#[]⟩, .slice none 0 0, .slice none 0 0, .int .i64 0, .int .u8 0, .string ⟨#[]⟩, .string ⟨#[]⟩, .int .i64 0, .string ⟨#[]⟩, .slice none 0 0] 33)))
  have HZ := Lib.hid (show Bk (W1.alloc (.cells #[.int .u8 1, .string ⟨#[]⟩, .int .i64 0, .int .u8 0, .string ⟨#[]⟩, .string ⟨#[]⟩, .int .i64 0, .string ⟨#[]⟩, .slice none 0 0, .slice none 0 0, .int .i64 0, .int .u8 0, .string ⟨#[]⟩, .string ⟨#[]⟩, .int .i64 0, .string ⟨#[]⟩, .slice none 0 0] 33)) W1.heap.size 33 (rqC 1 ⟨#[]⟩ 0 kpZ 0 lpZ) from Bk.new W1 33 #[.int .u8 1, .string ⟨#[]⟩, .int .i64 0, .int .u8 0, .string ⟨#[]⟩, .string ⟨#[]⟩, .int .i64 0, .string ⟨#[]⟩, .slice none 0 0, .slice none 0 0, .int .i64 0, .int .u8 0, .string ⟨#[]⟩, .string ⟨#[]⟩, .int .i64 0, .string ⟨#[]⟩, .slice none 0 0])
  have HW := Lib.hid (HW0.out.trans ((below1 W1 (.cells #[.int .u8 1, .string ⟨#[]⟩, .int .i64 0, .int .u8 0, .string ⟨#[]⟩, .string ⟨#[]⟩, .int .i64 0, .string ⟨#[]⟩, .slice none 0 0, .slice none 0 0, .int .i64 0, .int .u8 0, .string ⟨#[]⟩, .string ⟨#[]⟩, .int .i64 0, .string ⟨#[]⟩, .slice none 0 0] 33)).mono HW0.out.size))
  generalize W1.alloc (.cells #[.int .u8 1, .string ⟨#[]⟩, .int .i64 0, .int .u8 0, .string ⟨#[]⟩, .string ⟨#[]⟩, .int .i64 0, .string ⟨#[]⟩, .slice none 0 0, .slice none 0 0, .int .i64 0, .int .u8 0, .string ⟨#[]⟩, .string ⟨#[]⟩, .int .i64 0, .string ⟨#[]⟩, .slice none 0 0] 33) = W2 at *
  have hne : w.heap.size < W1.heap.size := by omega
  clear HX0 HW0 hs0 m0 hst
  generalize W1.heap.size = wb at *
  clear W1
  have HS2 := Lib.hid (show PQ 1 lb lf k no l (rqC 1 ⟨#[]⟩ 0 kpZ 0 lpZ) w wb W2 from ⟨HW.out, HX.out, HZ.out, HA.out.on HW.out⟩)
  obtain ⟨m0, m1, m2, m3, m4, m5, m6, m7, m8, m9, m10, m11, m12, m13, m14, m15, m16⟩ := (show Bk W2 w.heap.size 33 #[.int .u8 1, .string lb, .int .i64 lf, .int .u8 k.head.kind, .string k.head.who.v, .string k.head.who.s, .int .i64 k.head.who.n, .string k.head.pred, .slice k.head.ptr k.head.args.length k.head.cap, .slice k.ptr k.body.length k.cap, .int .i64 no, .int .u8 l.kind, .string l.who.v, .string l.who.s, .int .i64 l.who.n, .string l.pred, .slice l.ptr l.args.length l.cap] from HX.out).cells17
  go_upto_region 6 with fail
  have hne' : w.heap.size ≠ wb := Nat.ne_of_lt hne
  have hne'' : wb ≠ w.heap.size := Nat.ne_of_gt hne
  obtain ⟨z0, z1, z2, z3, z4, z5, z6, z7, z8, z9, z10, z11, z12, z13, z14, z15, z16⟩ := HZ.out.softs17
  obtain ⟨y0, y1, y2, y3, y4, y5, y6, y7, y8, y9, y10, y11, y12, y13, y14, y15, y16⟩ := (show Bk W2 wb 33 #[.int .u8 1, .string ⟨#[]⟩, .int .i64 0, .int .u8 0, .string ⟨#[]⟩, .string ⟨#[]⟩, .int .i64 0, .string ⟨#[]⟩, .slice none 0 0, .slice none 0 0, .int .i64 0, .int .u8 0, .string ⟨#[]⟩, .string ⟨#[]⟩, .int .i64 0, .string ⟨#[]⟩, .slice none 0 0] from HZ.out).cells17
  go_region_held3 (fun X => X.cell? ⟨w.heap.size, 1, none⟩ = some (.string lb) ∧ X.cell? ⟨w.heap.size, 2, none⟩ = some (.int .i64 lf) ∧ X.cell? ⟨w.heap.size, 3, none⟩ = some (.int .u8 k.head.kind) ∧ X.cell? ⟨w.heap.size, 4, none⟩ = some (.string k.head.who.v) ∧ X.cell? ⟨w.heap.size, 5, none⟩ = some (.string k.head.who.s) ∧ X.cell? ⟨w.heap.size, 6, none⟩ = some (.int .i64 k.head.who.n) ∧ X.cell? ⟨w.heap.size, 7, none⟩ = some (.string k.head.pred) ∧ X.cell? ⟨w.heap.size, 8, none⟩ = some (.slice k.head.ptr k.head.args.length k.head.cap) ∧ X.cell? ⟨w.heap.size, 9, none⟩ = some (.slice k.ptr k.body.length k.cap)) (go_keep) (fail)
  obtain ⟨W3, e9, HZ3, HP3⟩ := want1 HZ.out lb lf k
  rw [e9] at *
  have HS3 := Lib.hid (HS2.out.put hne HA.out HP3 HZ3)
  clear m0 m1 m2 m3 m4 m5 m6 m7 m8 m9 m10 m11 m12 m13 m14 m15 m16 z0 z1 z2 z3 z4 z5 z6 z7 z8 z9 z10 z11 z12 z13 z14 z15 z16 y0 y1 y2 y3 y4 y5 y6 y7 y8 y9 y10 y11 y12 y13 y14 y15 y16 HZ3 HP3 e9
  obtain ⟨x0, x1, x2, x3, x4, x5, x6, x7, x8, x9, x10, x11, x12, x13, x14, x15, x16⟩ := (show Bk W3 w.heap.size 33 #[.int .u8 1, .string lb, .int .i64 lf, .int .u8 k.head.kind, .string k.head.who.v, .string k.head.who.s, .int .i64 k.head.who.n, .string k.head.pred, .slice k.head.ptr k.head.args.length k.head.cap, .slice k.ptr k.body.length k.cap, .int .i64 no, .int .u8 l.kind, .string l.who.v, .string l.who.s, .int .i64 l.who.n, .string l.pred, .slice l.ptr l.args.length l.cap] from HS3.out.x).cells17
  cases ck with
  | false =>
    go_wp2_with (first
        | (go_at_call 10; first | refine (HSM.out _ HS6.out.a).mono ?_; rintro e w7 ⟨rfl, hb7⟩; have HS7 := Lib.hid (HS6.out.on hb7) | refine (HSM.out _ HS5.out.a).mono ?_; rintro e w7 ⟨rfl, hb7⟩; have HS7 := Lib.hid (HS5.out.on hb7))
        | (go_at_call 34; first | refine (HNB.out _).mono ?_; rintro e w6 ⟨rfl, hb6⟩; have HS6 := Lib.hid (HS5.out.on hb6); have f1 := HS6.out.x.cell 1 _ rfl; have f2 := HS6.out.x.cell 2 _ rfl | refine (HNB.out _).mono ?_; rintro e w6 ⟨rfl, hb6⟩; have HS6 := Lib.hid (HS4.out.on hb6); have f1 := HS6.out.x.cell 1 _ rfl; have f2 := HS6.out.x.cell 2 _ rfl)
        | (go_at_call 33; refine (HNM.out _).mono ?_; rintro e w5 ⟨rfl, rfl⟩; have HS5 := HS4)
        | (go_at_call 32; refine (HCL.out _ HS3.out.a).mono ?_; rintro e w4 ⟨rfl, hb4⟩; have HS4 := Lib.hid (HS3.out.on hb4); have q1 := HS4.out.x.cell 1 _ rfl; have q2 := HS4.out.x.cell 2 _ rfl)
        | (refine wpL_load (by rfl) 33 (.tmp 1) rfl _ 0 rfl (rqC 1 lb lf k no l).toList dd HS6.out.x.range hu hd (by rw [hz]; rfl) ?_; simp only [Array.toArray_toList])
        | (refine wpL_load (by rfl) 33 (.tmp 6) rfl _ 0 rfl (rqC 1 lb lf k 0 lpZ).toList dd HS6.out.z.range hu hd (by rw [hz]; rfl) ?_; simp only [Array.toArray_toList])
        | (refine wpL_load (by rfl) 33 (.tmp 1) rfl _ 0 rfl (rqC 1 lb lf k no l).toList dd HS5.out.x.range hu hd (by rw [hz]; rfl) ?_; simp only [Array.toArray_toList])
        | (refine wpL_load (by rfl) 33 (.tmp 6) rfl _ 0 rfl (rqC 1 lb lf k 0 lpZ).toList dd HS5.out.z.range hu hd (by rw [hz]; rfl) ?_; simp only [Array.toArray_toList]))
    go_ret2
    exact ⟨by rw [HV.out, HC.out]; rfl, HS6.out.b⟩
  | true =>
  cases nb with
  | false =>
    go_wp2_with (first
        | (go_at_call 10; first | refine (HSM.out _ HS6.out.a).mono ?_; rintro e w7 ⟨rfl, hb7⟩; have HS7 := Lib.hid (HS6.out.on hb7) | refine (HSM.out _ HS5.out.a).mono ?_; rintro e w7 ⟨rfl, hb7⟩; have HS7 := Lib.hid (HS5.out.on hb7))
        | (go_at_call 34; first | refine (HNB.out _).mono ?_; rintro e w6 ⟨rfl, hb6⟩; have HS6 := Lib.hid (HS5.out.on hb6); have f1 := HS6.out.x.cell 1 _ rfl; have f2 := HS6.out.x.cell 2 _ rfl | refine (HNB.out _).mono ?_; rintro e w6 ⟨rfl, hb6⟩; have HS6 := Lib.hid (HS4.out.on hb6); have f1 := HS6.out.x.cell 1 _ rfl; have f2 := HS6.out.x.cell 2 _ rfl)
        | (go_at_call 33; refine (HNM.out _).mono ?_; rintro e w5 ⟨rfl, rfl⟩; have HS5 := HS4)
        | (go_at_call 32; refine (HCL.out _ HS3.out.a).mono ?_; rintro e w4 ⟨rfl, hb4⟩; have HS4 := Lib.hid (HS3.out.on hb4); have q1 := HS4.out.x.cell 1 _ rfl; have q2 := HS4.out.x.cell 2 _ rfl)
        | (refine wpL_load (by rfl) 33 (.tmp 1) rfl _ 0 rfl (rqC 1 lb lf k no l).toList dd HS6.out.x.range hu hd (by rw [hz]; rfl) ?_; simp only [Array.toArray_toList])
        | (refine wpL_load (by rfl) 33 (.tmp 6) rfl _ 0 rfl (rqC 1 lb lf k 0 lpZ).toList dd HS6.out.z.range hu hd (by rw [hz]; rfl) ?_; simp only [Array.toArray_toList])
        | (refine wpL_load (by rfl) 33 (.tmp 1) rfl _ 0 rfl (rqC 1 lb lf k no l).toList dd HS5.out.x.range hu hd (by rw [hz]; rfl) ?_; simp only [Array.toArray_toList])
        | (refine wpL_load (by rfl) 33 (.tmp 6) rfl _ 0 rfl (rqC 1 lb lf k 0 lpZ).toList dd HS5.out.z.range hu hd (by rw [hz]; rfl) ?_; simp only [Array.toArray_toList]))
    go_ret2
    exact ⟨by rw [HV.out, HC.out]; rfl, HS6.out.b⟩
  | true =>
  by_cases h4 : lf ≤ 1099511627776
  rotate_left
  · have hb : (lf == 0 || boundB lf) = false := by unfold boundB; simp; omega
    have hp : (0 : Int) ≤ lf := by omega
    go_wp2_with (first
        | (go_at_call 10; first | refine (HSM.out _ HS6.out.a).mono ?_; rintro e w7 ⟨rfl, hb7⟩; have HS7 := Lib.hid (HS6.out.on hb7) | refine (HSM.out _ HS5.out.a).mono ?_; rintro e w7 ⟨rfl, hb7⟩; have HS7 := Lib.hid (HS5.out.on hb7))
        | (go_at_call 34; first | refine (HNB.out _).mono ?_; rintro e w6 ⟨rfl, hb6⟩; have HS6 := Lib.hid (HS5.out.on hb6); have f1 := HS6.out.x.cell 1 _ rfl; have f2 := HS6.out.x.cell 2 _ rfl | refine (HNB.out _).mono ?_; rintro e w6 ⟨rfl, hb6⟩; have HS6 := Lib.hid (HS4.out.on hb6); have f1 := HS6.out.x.cell 1 _ rfl; have f2 := HS6.out.x.cell 2 _ rfl)
        | (go_at_call 33; refine (HNM.out _).mono ?_; rintro e w5 ⟨rfl, rfl⟩; have HS5 := HS4)
        | (go_at_call 32; refine (HCL.out _ HS3.out.a).mono ?_; rintro e w4 ⟨rfl, hb4⟩; have HS4 := Lib.hid (HS3.out.on hb4); have q1 := HS4.out.x.cell 1 _ rfl; have q2 := HS4.out.x.cell 2 _ rfl)
        | (refine wpL_load (by rfl) 33 (.tmp 1) rfl _ 0 rfl (rqC 1 lb lf k no l).toList dd HS6.out.x.range hu hd (by rw [hz]; rfl) ?_; simp only [Array.toArray_toList])
        | (refine wpL_load (by rfl) 33 (.tmp 6) rfl _ 0 rfl (rqC 1 lb lf k 0 lpZ).toList dd HS6.out.z.range hu hd (by rw [hz]; rfl) ?_; simp only [Array.toArray_toList])
        | (refine wpL_load (by rfl) 33 (.tmp 1) rfl _ 0 rfl (rqC 1 lb lf k no l).toList dd HS5.out.x.range hu hd (by rw [hz]; rfl) ?_; simp only [Array.toArray_toList])
        | (refine wpL_load (by rfl) 33 (.tmp 6) rfl _ 0 rfl (rqC 1 lb lf k 0 lpZ).toList dd HS5.out.z.range hu hd (by rw [hz]; rfl) ?_; simp only [Array.toArray_toList]))
    go_ret2
    exact ⟨by rw [HV.out, HC.out]; rw [hb]; rfl, HS6.out.b⟩
  have hb : (lf == 0 || boundB lf) = true := by unfold boundB; simp; omega
  have hp : (0 : Int) ≤ lf := by omega
  go_upto_region 28 with (first
    | (go_at_call 10; first | refine (HSM.out _ HS6.out.a).mono ?_; rintro e w7 ⟨rfl, hb7⟩; have HS7 := Lib.hid (HS6.out.on hb7) | refine (HSM.out _ HS5.out.a).mono ?_; rintro e w7 ⟨rfl, hb7⟩; have HS7 := Lib.hid (HS5.out.on hb7))
    | (go_at_call 34; first | refine (HNB.out _).mono ?_; rintro e w6 ⟨rfl, hb6⟩; have HS6 := Lib.hid (HS5.out.on hb6); have f1 := HS6.out.x.cell 1 _ rfl; have f2 := HS6.out.x.cell 2 _ rfl | refine (HNB.out _).mono ?_; rintro e w6 ⟨rfl, hb6⟩; have HS6 := Lib.hid (HS4.out.on hb6); have f1 := HS6.out.x.cell 1 _ rfl; have f2 := HS6.out.x.cell 2 _ rfl)
    | (go_at_call 33; refine (HNM.out _).mono ?_; rintro e w5 ⟨rfl, rfl⟩; have HS5 := HS4)
    | (go_at_call 32; refine (HCL.out _ HS3.out.a).mono ?_; rintro e w4 ⟨rfl, hb4⟩; have HS4 := Lib.hid (HS3.out.on hb4); have q1 := HS4.out.x.cell 1 _ rfl; have q2 := HS4.out.x.cell 2 _ rfl)
    | (refine wpL_load (by rfl) 33 (.tmp 1) rfl _ 0 rfl (rqC 1 lb lf k no l).toList dd HS6.out.x.range hu hd (by rw [hz]; rfl) ?_; simp only [Array.toArray_toList])
    | (refine wpL_load (by rfl) 33 (.tmp 6) rfl _ 0 rfl (rqC 1 lb lf k 0 lpZ).toList dd HS6.out.z.range hu hd (by rw [hz]; rfl) ?_; simp only [Array.toArray_toList])
    | (refine wpL_load (by rfl) 33 (.tmp 1) rfl _ 0 rfl (rqC 1 lb lf k no l).toList dd HS5.out.x.range hu hd (by rw [hz]; rfl) ?_; simp only [Array.toArray_toList])
    | (refine wpL_load (by rfl) 33 (.tmp 6) rfl _ 0 rfl (rqC 1 lb lf k 0 lpZ).toList dd HS5.out.z.range hu hd (by rw [hz]; rfl) ?_; simp only [Array.toArray_toList]))
  rw [hb] at HC
  rw [← HO.out]
  clear HO
  cases sm with
  | false =>
    go_wp2_with (first
        | (go_at_call 10; first | refine (HSM.out _ HS6.out.a).mono ?_; rintro e w7 ⟨rfl, hb7⟩; have HS7 := Lib.hid (HS6.out.on hb7) | refine (HSM.out _ HS5.out.a).mono ?_; rintro e w7 ⟨rfl, hb7⟩; have HS7 := Lib.hid (HS5.out.on hb7))
        | (go_at_call 34; first | refine (HNB.out _).mono ?_; rintro e w6 ⟨rfl, hb6⟩; have HS6 := Lib.hid (HS5.out.on hb6); have f1 := HS6.out.x.cell 1 _ rfl; have f2 := HS6.out.x.cell 2 _ rfl | refine (HNB.out _).mono ?_; rintro e w6 ⟨rfl, hb6⟩; have HS6 := Lib.hid (HS4.out.on hb6); have f1 := HS6.out.x.cell 1 _ rfl; have f2 := HS6.out.x.cell 2 _ rfl)
        | (go_at_call 33; refine (HNM.out _).mono ?_; rintro e w5 ⟨rfl, rfl⟩; have HS5 := HS4)
        | (go_at_call 32; refine (HCL.out _ HS3.out.a).mono ?_; rintro e w4 ⟨rfl, hb4⟩; have HS4 := Lib.hid (HS3.out.on hb4); have q1 := HS4.out.x.cell 1 _ rfl; have q2 := HS4.out.x.cell 2 _ rfl)
        | (refine wpL_load (by rfl) 33 (.tmp 1) rfl _ 0 rfl (rqC 1 lb lf k no l).toList dd HS6.out.x.range hu hd (by rw [hz]; rfl) ?_; simp only [Array.toArray_toList])
        | (refine wpL_load (by rfl) 33 (.tmp 6) rfl _ 0 rfl (rqC 1 lb lf k 0 lpZ).toList dd HS6.out.z.range hu hd (by rw [hz]; rfl) ?_; simp only [Array.toArray_toList])
        | (refine wpL_load (by rfl) 33 (.tmp 1) rfl _ 0 rfl (rqC 1 lb lf k no l).toList dd HS5.out.x.range hu hd (by rw [hz]; rfl) ?_; simp only [Array.toArray_toList])
        | (refine wpL_load (by rfl) 33 (.tmp 6) rfl _ 0 rfl (rqC 1 lb lf k 0 lpZ).toList dd HS5.out.z.range hu hd (by rw [hz]; rfl) ?_; simp only [Array.toArray_toList]))
    go_ret2
    exact ⟨by rw [HV.out, HC.out]; rfl, HS7.out.b⟩
  | true =>
  by_cases hlg : 4096 < O.size
  · have hlg' : (4096 : Int) < (O.size : Int) := by omega
    go_wp2_with (first
        | (go_at_call 10; first | refine (HSM.out _ HS6.out.a).mono ?_; rintro e w7 ⟨rfl, hb7⟩; have HS7 := Lib.hid (HS6.out.on hb7) | refine (HSM.out _ HS5.out.a).mono ?_; rintro e w7 ⟨rfl, hb7⟩; have HS7 := Lib.hid (HS5.out.on hb7))
        | (go_at_call 34; first | refine (HNB.out _).mono ?_; rintro e w6 ⟨rfl, hb6⟩; have HS6 := Lib.hid (HS5.out.on hb6); have f1 := HS6.out.x.cell 1 _ rfl; have f2 := HS6.out.x.cell 2 _ rfl | refine (HNB.out _).mono ?_; rintro e w6 ⟨rfl, hb6⟩; have HS6 := Lib.hid (HS4.out.on hb6); have f1 := HS6.out.x.cell 1 _ rfl; have f2 := HS6.out.x.cell 2 _ rfl)
        | (go_at_call 33; refine (HNM.out _).mono ?_; rintro e w5 ⟨rfl, rfl⟩; have HS5 := HS4)
        | (go_at_call 32; refine (HCL.out _ HS3.out.a).mono ?_; rintro e w4 ⟨rfl, hb4⟩; have HS4 := Lib.hid (HS3.out.on hb4); have q1 := HS4.out.x.cell 1 _ rfl; have q2 := HS4.out.x.cell 2 _ rfl)
        | (refine wpL_load (by rfl) 33 (.tmp 1) rfl _ 0 rfl (rqC 1 lb lf k no l).toList dd HS6.out.x.range hu hd (by rw [hz]; rfl) ?_; simp only [Array.toArray_toList])
        | (refine wpL_load (by rfl) 33 (.tmp 6) rfl _ 0 rfl (rqC 1 lb lf k 0 lpZ).toList dd HS6.out.z.range hu hd (by rw [hz]; rfl) ?_; simp only [Array.toArray_toList])
        | (refine wpL_load (by rfl) 33 (.tmp 1) rfl _ 0 rfl (rqC 1 lb lf k no l).toList dd HS5.out.x.range hu hd (by rw [hz]; rfl) ?_; simp only [Array.toArray_toList])
        | (refine wpL_load (by rfl) 33 (.tmp 6) rfl _ 0 rfl (rqC 1 lb lf k 0 lpZ).toList dd HS5.out.z.range hu hd (by rw [hz]; rfl) ?_; simp only [Array.toArray_toList]))
    go_ret2
    exact ⟨by rw [HV.out, HC.out, if_pos (show 4096 < O.size from hlg)]; rfl, HS7.out.b⟩
  · have hlg' : ¬ (4096 : Int) < (O.size : Int) := by omega
    go_wp2_with (first
        | (go_at_call 10; first | refine (HSM.out _ HS6.out.a).mono ?_; rintro e w7 ⟨rfl, hb7⟩; have HS7 := Lib.hid (HS6.out.on hb7) | refine (HSM.out _ HS5.out.a).mono ?_; rintro e w7 ⟨rfl, hb7⟩; have HS7 := Lib.hid (HS5.out.on hb7))
        | (go_at_call 34; first | refine (HNB.out _).mono ?_; rintro e w6 ⟨rfl, hb6⟩; have HS6 := Lib.hid (HS5.out.on hb6); have f1 := HS6.out.x.cell 1 _ rfl; have f2 := HS6.out.x.cell 2 _ rfl | refine (HNB.out _).mono ?_; rintro e w6 ⟨rfl, hb6⟩; have HS6 := Lib.hid (HS4.out.on hb6); have f1 := HS6.out.x.cell 1 _ rfl; have f2 := HS6.out.x.cell 2 _ rfl)
        | (go_at_call 33; refine (HNM.out _).mono ?_; rintro e w5 ⟨rfl, rfl⟩; have HS5 := HS4)
        | (go_at_call 32; refine (HCL.out _ HS3.out.a).mono ?_; rintro e w4 ⟨rfl, hb4⟩; have HS4 := Lib.hid (HS3.out.on hb4); have q1 := HS4.out.x.cell 1 _ rfl; have q2 := HS4.out.x.cell 2 _ rfl)
        | (refine wpL_load (by rfl) 33 (.tmp 1) rfl _ 0 rfl (rqC 1 lb lf k no l).toList dd HS6.out.x.range hu hd (by rw [hz]; rfl) ?_; simp only [Array.toArray_toList])
        | (refine wpL_load (by rfl) 33 (.tmp 6) rfl _ 0 rfl (rqC 1 lb lf k 0 lpZ).toList dd HS6.out.z.range hu hd (by rw [hz]; rfl) ?_; simp only [Array.toArray_toList])
        | (refine wpL_load (by rfl) 33 (.tmp 1) rfl _ 0 rfl (rqC 1 lb lf k no l).toList dd HS5.out.x.range hu hd (by rw [hz]; rfl) ?_; simp only [Array.toArray_toList])
        | (refine wpL_load (by rfl) 33 (.tmp 6) rfl _ 0 rfl (rqC 1 lb lf k 0 lpZ).toList dd HS5.out.z.range hu hd (by rw [hz]; rfl) ?_; simp only [Array.toArray_toList]))
    go_ret2
    exact ⟨by rw [HV.out, HC.out, if_neg (show ¬ 4096 < O.size from hlg)]; rfl, HS7.out.b⟩

set_option maxHeartbeats 32000000 in
set_option maxRecDepth 100000 in
theorem refprint1z (lb : ByteArray) (lf : Int) (k : Kp) (no : Int) (l : Lp) (w : World) (ha : RqArg 1 lb lf k no l w) (h0 : ¬ 0 < lf) :
    Calls Tryz.prog 13 #[.agg (rqC 1 lb lf k no l)] w fun e w' => e = .returned (printV 1 lb lf k no l) ∧ Below w.heap.size w w' := by
  have HO := Lib.hid (show outQ 1 lb lf k no l = ((⟨#[97, 115, 115, 101, 114, 116, 32]⟩ ++ lb) ++ ⟨#[32]⟩) ++ claT k by unfold outQ wordsQ; rw [if_pos rfl, if_neg h0, joinW3]; rfl)
  have HC := Lib.hid (show checkB 1 lb lf k no l = (k.check && (nameB lb && ((lf == 0 || boundB lf) && ((no == 0) && !isLitB l)))) by unfold checkB; rw [if_pos rfl]; cases k.check <;> cases nameB lb <;> cases (lf == 0 || boundB lf) <;> cases hn : (no == 0) <;> cases isLitB l <;> simp_all [bne])
  have HV := Lib.hid (show printV 1 lb lf k no l = (if checkB 1 lb lf k no l = true then (if 4096 < (outQ 1 lb lf k no l).size then .tuple #[.string ⟨#[]⟩, .int .i64 2] else .tuple #[.string (outQ 1 lb lf k no l), .int .i64 0]) else .tuple #[.string ⟨#[]⟩, .int .i64 1]) from rfl)
  have hcz := claT_size k ha.cl.nb
  have hdz := itoa_size lf ha.lf.1 ha.lf.2
  have HCL := Lib.hid (show ∀ X, RqArg 1 lb lf k no l X → _ from fun X hX => refcla_arg hX)
  have HNM := Lib.hid (fun X => refname_any lb X (by have := ha.lb; unfold maxLen; omega))
  have HNB := Lib.hid (fun X => number_any lf X ha.lf.1 ha.lf.2)
  have HSM := Lib.hid (show ∀ X, RqArg 1 lb lf k no l X → Calls Tryz.prog 10 #[.agg (rqC 1 lb lf k no l), .agg (rqC 1 lb lf k 0 lpZ)] X fun e w' => e = .returned (.bool ((no == 0) && !isLitB l)) ∧ Below X.heap.size X w' from fun X hX => (samereq_arg hX lb lf 0 k lpZ (.inl rfl) (.inr rfl)).mono fun e w' ⟨h1, h2⟩ => ⟨by rw [h1, sameL_zero, sameK_self, beq_self_eq_true, beq_self_eq_true]; rfl, h2⟩)
  obtain ⟨dd, hu, hd⟩ := rowReq
  have hz := sizeReq
  unfold Kp.agg at HCL
  generalize outQ 1 lb lf k no l = O at *
  generalize printV 1 lb lf k no l = V at *
  generalize checkB 1 lb lf k no l = CB at *
  generalize k.check = ck at *
  generalize nameB lb = nb at *
  generalize claT k = C at *
  generalize itoaS lf = D at *
  generalize ((no == 0) && !isLitB l) = sm at *
  have HA := Lib.hid ha
  have hlb := ha.lb
  have hst := fun (w : World) (kd : Int) (lb : ByteArray) (lf : Int) (cl : Kp) (no : Int) (lp : Lp) => run_storeReq w kd lb lf cl no lp
  have e1 : (⟨#[32]⟩ : ByteArray).size = 1 := rfl
  have e2 : (⟨#[97, 115, 115, 101, 114, 116, 32]⟩ : ByteArray).size = 7 := rfl
  have e3 : (⟨#[102, 111, 114, 32]⟩ : ByteArray).size = 4 := rfl
  clear ha
  go_enter Tryz.func13, Tryz.ntmps13
  go_upto_region 3 with fail
  have HX0 := Lib.hid (Bk.new w 33 (rqC 1 lb lf k no l))
  have HW0 := Lib.hid (below1 w (.cells (rqC 1 lb lf k no l) 33))
  have hs0 : w.heap.size + 1 ≤ (w.alloc (.cells (rqC 1 lb lf k no l) 33)).heap.size := by simp
  generalize w.alloc (.cells (rqC 1 lb lf k no l) 33) = W1 at *
  have m0 := HX0.out.cell 0 (.int .u8 1) rfl
  go_upto_region 4 with fail
  have HX := Lib.hid (HX0.out.on (below1 W1 (.cells #[.int .u8 1, .string ⟨#[]⟩, .int .i64 0, .int .u8 0, .string ⟨#[]⟩, .string ⟨#[]⟩, .int .i64 0, .string ⟨#[]⟩, .slice none 0 0, .slice none 0 0, .int .i64 0, .int .u8 0, .string ⟨#[]⟩, .string ⟨#[]⟩, .int .i64 0, .string ⟨#[]⟩, .slice none 0 0] 33)))
  have HZ := Lib.hid (show Bk (W1.alloc (.cells #[.int .u8 1, .string ⟨#[]⟩, .int .i64 0, .int .u8 0, .string ⟨#[]⟩, .string ⟨#[]⟩, .int .i64 0, .string ⟨#[]⟩, .slice none 0 0, .slice none 0 0, .int .i64 0, .int .u8 0, .string ⟨#[]⟩, .string ⟨#[]⟩, .int .i64 0, .string ⟨#[]⟩, .slice none 0 0] 33)) W1.heap.size 33 (rqC 1 ⟨#[]⟩ 0 kpZ 0 lpZ) from Bk.new W1 33 #[.int .u8 1, .string ⟨#[]⟩, .int .i64 0, .int .u8 0, .string ⟨#[]⟩, .string ⟨#[]⟩, .int .i64 0, .string ⟨#[]⟩, .slice none 0 0, .slice none 0 0, .int .i64 0, .int .u8 0, .string ⟨#[]⟩, .string ⟨#[]⟩, .int .i64 0, .string ⟨#[]⟩, .slice none 0 0])
  have HW := Lib.hid (HW0.out.trans ((below1 W1 (.cells #[.int .u8 1, .string ⟨#[]⟩, .int .i64 0, .int .u8 0, .string ⟨#[]⟩, .string ⟨#[]⟩, .int .i64 0, .string ⟨#[]⟩, .slice none 0 0, .slice none 0 0, .int .i64 0, .int .u8 0, .string ⟨#[]⟩, .string ⟨#[]⟩, .int .i64 0, .string ⟨#[]⟩, .slice none 0 0] 33)).mono HW0.out.size))
  generalize W1.alloc (.cells #[.int .u8 1, .string ⟨#[]⟩, .int .i64 0, .int .u8 0, .string ⟨#[]⟩, .string ⟨#[]⟩, .int .i64 0, .string ⟨#[]⟩, .slice none 0 0, .slice none 0 0, .int .i64 0, .int .u8 0, .string ⟨#[]⟩, .string ⟨#[]⟩, .int .i64 0, .string ⟨#[]⟩, .slice none 0 0] 33) = W2 at *
  have hne : w.heap.size < W1.heap.size := by omega
  clear HX0 HW0 hs0 m0 hst
  generalize W1.heap.size = wb at *
  clear W1
  have HS2 := Lib.hid (show PQ 1 lb lf k no l (rqC 1 ⟨#[]⟩ 0 kpZ 0 lpZ) w wb W2 from ⟨HW.out, HX.out, HZ.out, HA.out.on HW.out⟩)
  obtain ⟨m0, m1, m2, m3, m4, m5, m6, m7, m8, m9, m10, m11, m12, m13, m14, m15, m16⟩ := (show Bk W2 w.heap.size 33 #[.int .u8 1, .string lb, .int .i64 lf, .int .u8 k.head.kind, .string k.head.who.v, .string k.head.who.s, .int .i64 k.head.who.n, .string k.head.pred, .slice k.head.ptr k.head.args.length k.head.cap, .slice k.ptr k.body.length k.cap, .int .i64 no, .int .u8 l.kind, .string l.who.v, .string l.who.s, .int .i64 l.who.n, .string l.pred, .slice l.ptr l.args.length l.cap] from HX.out).cells17
  go_upto_region 6 with fail
  have hne' : w.heap.size ≠ wb := Nat.ne_of_lt hne
  have hne'' : wb ≠ w.heap.size := Nat.ne_of_gt hne
  obtain ⟨z0, z1, z2, z3, z4, z5, z6, z7, z8, z9, z10, z11, z12, z13, z14, z15, z16⟩ := HZ.out.softs17
  obtain ⟨y0, y1, y2, y3, y4, y5, y6, y7, y8, y9, y10, y11, y12, y13, y14, y15, y16⟩ := (show Bk W2 wb 33 #[.int .u8 1, .string ⟨#[]⟩, .int .i64 0, .int .u8 0, .string ⟨#[]⟩, .string ⟨#[]⟩, .int .i64 0, .string ⟨#[]⟩, .slice none 0 0, .slice none 0 0, .int .i64 0, .int .u8 0, .string ⟨#[]⟩, .string ⟨#[]⟩, .int .i64 0, .string ⟨#[]⟩, .slice none 0 0] from HZ.out).cells17
  go_region_held3 (fun X => X.cell? ⟨w.heap.size, 1, none⟩ = some (.string lb) ∧ X.cell? ⟨w.heap.size, 2, none⟩ = some (.int .i64 lf) ∧ X.cell? ⟨w.heap.size, 3, none⟩ = some (.int .u8 k.head.kind) ∧ X.cell? ⟨w.heap.size, 4, none⟩ = some (.string k.head.who.v) ∧ X.cell? ⟨w.heap.size, 5, none⟩ = some (.string k.head.who.s) ∧ X.cell? ⟨w.heap.size, 6, none⟩ = some (.int .i64 k.head.who.n) ∧ X.cell? ⟨w.heap.size, 7, none⟩ = some (.string k.head.pred) ∧ X.cell? ⟨w.heap.size, 8, none⟩ = some (.slice k.head.ptr k.head.args.length k.head.cap) ∧ X.cell? ⟨w.heap.size, 9, none⟩ = some (.slice k.ptr k.body.length k.cap)) (go_keep) (fail)
  obtain ⟨W3, e9, HZ3, HP3⟩ := want1 HZ.out lb lf k
  rw [e9] at *
  have HS3 := Lib.hid (HS2.out.put hne HA.out HP3 HZ3)
  clear m0 m1 m2 m3 m4 m5 m6 m7 m8 m9 m10 m11 m12 m13 m14 m15 m16 z0 z1 z2 z3 z4 z5 z6 z7 z8 z9 z10 z11 z12 z13 z14 z15 z16 y0 y1 y2 y3 y4 y5 y6 y7 y8 y9 y10 y11 y12 y13 y14 y15 y16 HZ3 HP3 e9
  obtain ⟨x0, x1, x2, x3, x4, x5, x6, x7, x8, x9, x10, x11, x12, x13, x14, x15, x16⟩ := (show Bk W3 w.heap.size 33 #[.int .u8 1, .string lb, .int .i64 lf, .int .u8 k.head.kind, .string k.head.who.v, .string k.head.who.s, .int .i64 k.head.who.n, .string k.head.pred, .slice k.head.ptr k.head.args.length k.head.cap, .slice k.ptr k.body.length k.cap, .int .i64 no, .int .u8 l.kind, .string l.who.v, .string l.who.s, .int .i64 l.who.n, .string l.pred, .slice l.ptr l.args.length l.cap] from HS3.out.x).cells17
  cases ck with
  | false =>
    go_wp2_with (first
        | (go_at_call 10; first | refine (HSM.out _ HS6.out.a).mono ?_; rintro e w7 ⟨rfl, hb7⟩; have HS7 := Lib.hid (HS6.out.on hb7) | refine (HSM.out _ HS5.out.a).mono ?_; rintro e w7 ⟨rfl, hb7⟩; have HS7 := Lib.hid (HS5.out.on hb7))
        | (go_at_call 34; first | refine (HNB.out _).mono ?_; rintro e w6 ⟨rfl, hb6⟩; have HS6 := Lib.hid (HS5.out.on hb6); have f1 := HS6.out.x.cell 1 _ rfl; have f2 := HS6.out.x.cell 2 _ rfl | refine (HNB.out _).mono ?_; rintro e w6 ⟨rfl, hb6⟩; have HS6 := Lib.hid (HS4.out.on hb6); have f1 := HS6.out.x.cell 1 _ rfl; have f2 := HS6.out.x.cell 2 _ rfl)
        | (go_at_call 33; refine (HNM.out _).mono ?_; rintro e w5 ⟨rfl, rfl⟩; have HS5 := HS4)
        | (go_at_call 32; refine (HCL.out _ HS3.out.a).mono ?_; rintro e w4 ⟨rfl, hb4⟩; have HS4 := Lib.hid (HS3.out.on hb4); have q1 := HS4.out.x.cell 1 _ rfl; have q2 := HS4.out.x.cell 2 _ rfl)
        | (refine wpL_load (by rfl) 33 (.tmp 1) rfl _ 0 rfl (rqC 1 lb lf k no l).toList dd HS6.out.x.range hu hd (by rw [hz]; rfl) ?_; simp only [Array.toArray_toList])
        | (refine wpL_load (by rfl) 33 (.tmp 6) rfl _ 0 rfl (rqC 1 lb lf k 0 lpZ).toList dd HS6.out.z.range hu hd (by rw [hz]; rfl) ?_; simp only [Array.toArray_toList])
        | (refine wpL_load (by rfl) 33 (.tmp 1) rfl _ 0 rfl (rqC 1 lb lf k no l).toList dd HS5.out.x.range hu hd (by rw [hz]; rfl) ?_; simp only [Array.toArray_toList])
        | (refine wpL_load (by rfl) 33 (.tmp 6) rfl _ 0 rfl (rqC 1 lb lf k 0 lpZ).toList dd HS5.out.z.range hu hd (by rw [hz]; rfl) ?_; simp only [Array.toArray_toList]))
    go_ret2
    exact ⟨by rw [HV.out, HC.out]; rfl, HS4.out.b⟩
  | true =>
  cases nb with
  | false =>
    go_wp2_with (first
        | (go_at_call 10; first | refine (HSM.out _ HS6.out.a).mono ?_; rintro e w7 ⟨rfl, hb7⟩; have HS7 := Lib.hid (HS6.out.on hb7) | refine (HSM.out _ HS5.out.a).mono ?_; rintro e w7 ⟨rfl, hb7⟩; have HS7 := Lib.hid (HS5.out.on hb7))
        | (go_at_call 34; first | refine (HNB.out _).mono ?_; rintro e w6 ⟨rfl, hb6⟩; have HS6 := Lib.hid (HS5.out.on hb6); have f1 := HS6.out.x.cell 1 _ rfl; have f2 := HS6.out.x.cell 2 _ rfl | refine (HNB.out _).mono ?_; rintro e w6 ⟨rfl, hb6⟩; have HS6 := Lib.hid (HS4.out.on hb6); have f1 := HS6.out.x.cell 1 _ rfl; have f2 := HS6.out.x.cell 2 _ rfl)
        | (go_at_call 33; refine (HNM.out _).mono ?_; rintro e w5 ⟨rfl, rfl⟩; have HS5 := HS4)
        | (go_at_call 32; refine (HCL.out _ HS3.out.a).mono ?_; rintro e w4 ⟨rfl, hb4⟩; have HS4 := Lib.hid (HS3.out.on hb4); have q1 := HS4.out.x.cell 1 _ rfl; have q2 := HS4.out.x.cell 2 _ rfl)
        | (refine wpL_load (by rfl) 33 (.tmp 1) rfl _ 0 rfl (rqC 1 lb lf k no l).toList dd HS6.out.x.range hu hd (by rw [hz]; rfl) ?_; simp only [Array.toArray_toList])
        | (refine wpL_load (by rfl) 33 (.tmp 6) rfl _ 0 rfl (rqC 1 lb lf k 0 lpZ).toList dd HS6.out.z.range hu hd (by rw [hz]; rfl) ?_; simp only [Array.toArray_toList])
        | (refine wpL_load (by rfl) 33 (.tmp 1) rfl _ 0 rfl (rqC 1 lb lf k no l).toList dd HS5.out.x.range hu hd (by rw [hz]; rfl) ?_; simp only [Array.toArray_toList])
        | (refine wpL_load (by rfl) 33 (.tmp 6) rfl _ 0 rfl (rqC 1 lb lf k 0 lpZ).toList dd HS5.out.z.range hu hd (by rw [hz]; rfl) ?_; simp only [Array.toArray_toList]))
    go_ret2
    exact ⟨by rw [HV.out, HC.out]; rfl, HS5.out.b⟩
  | true =>
  by_cases h4 : (0 : Int) ≤ lf
  rotate_left
  · have hb : (lf == 0 || boundB lf) = false := by unfold boundB; simp; omega
    go_wp2_with (first
        | (go_at_call 10; first | refine (HSM.out _ HS6.out.a).mono ?_; rintro e w7 ⟨rfl, hb7⟩; have HS7 := Lib.hid (HS6.out.on hb7) | refine (HSM.out _ HS5.out.a).mono ?_; rintro e w7 ⟨rfl, hb7⟩; have HS7 := Lib.hid (HS5.out.on hb7))
        | (go_at_call 34; first | refine (HNB.out _).mono ?_; rintro e w6 ⟨rfl, hb6⟩; have HS6 := Lib.hid (HS5.out.on hb6); have f1 := HS6.out.x.cell 1 _ rfl; have f2 := HS6.out.x.cell 2 _ rfl | refine (HNB.out _).mono ?_; rintro e w6 ⟨rfl, hb6⟩; have HS6 := Lib.hid (HS4.out.on hb6); have f1 := HS6.out.x.cell 1 _ rfl; have f2 := HS6.out.x.cell 2 _ rfl)
        | (go_at_call 33; refine (HNM.out _).mono ?_; rintro e w5 ⟨rfl, rfl⟩; have HS5 := HS4)
        | (go_at_call 32; refine (HCL.out _ HS3.out.a).mono ?_; rintro e w4 ⟨rfl, hb4⟩; have HS4 := Lib.hid (HS3.out.on hb4); have q1 := HS4.out.x.cell 1 _ rfl; have q2 := HS4.out.x.cell 2 _ rfl)
        | (refine wpL_load (by rfl) 33 (.tmp 1) rfl _ 0 rfl (rqC 1 lb lf k no l).toList dd HS6.out.x.range hu hd (by rw [hz]; rfl) ?_; simp only [Array.toArray_toList])
        | (refine wpL_load (by rfl) 33 (.tmp 6) rfl _ 0 rfl (rqC 1 lb lf k 0 lpZ).toList dd HS6.out.z.range hu hd (by rw [hz]; rfl) ?_; simp only [Array.toArray_toList])
        | (refine wpL_load (by rfl) 33 (.tmp 1) rfl _ 0 rfl (rqC 1 lb lf k no l).toList dd HS5.out.x.range hu hd (by rw [hz]; rfl) ?_; simp only [Array.toArray_toList])
        | (refine wpL_load (by rfl) 33 (.tmp 6) rfl _ 0 rfl (rqC 1 lb lf k 0 lpZ).toList dd HS5.out.z.range hu hd (by rw [hz]; rfl) ?_; simp only [Array.toArray_toList]))
    go_ret2
    exact ⟨by rw [HV.out, HC.out]; rw [hb]; rfl, HS5.out.b⟩
  have hb : (lf == 0 || boundB lf) = true := by unfold boundB; simp; omega
  have hp : lf ≤ 1099511627776 := by omega
  go_upto_region 28 with (first
    | (go_at_call 10; first | refine (HSM.out _ HS6.out.a).mono ?_; rintro e w7 ⟨rfl, hb7⟩; have HS7 := Lib.hid (HS6.out.on hb7) | refine (HSM.out _ HS5.out.a).mono ?_; rintro e w7 ⟨rfl, hb7⟩; have HS7 := Lib.hid (HS5.out.on hb7))
    | (go_at_call 34; first | refine (HNB.out _).mono ?_; rintro e w6 ⟨rfl, hb6⟩; have HS6 := Lib.hid (HS5.out.on hb6); have f1 := HS6.out.x.cell 1 _ rfl; have f2 := HS6.out.x.cell 2 _ rfl | refine (HNB.out _).mono ?_; rintro e w6 ⟨rfl, hb6⟩; have HS6 := Lib.hid (HS4.out.on hb6); have f1 := HS6.out.x.cell 1 _ rfl; have f2 := HS6.out.x.cell 2 _ rfl)
    | (go_at_call 33; refine (HNM.out _).mono ?_; rintro e w5 ⟨rfl, rfl⟩; have HS5 := HS4)
    | (go_at_call 32; refine (HCL.out _ HS3.out.a).mono ?_; rintro e w4 ⟨rfl, hb4⟩; have HS4 := Lib.hid (HS3.out.on hb4); have q1 := HS4.out.x.cell 1 _ rfl; have q2 := HS4.out.x.cell 2 _ rfl)
    | (refine wpL_load (by rfl) 33 (.tmp 1) rfl _ 0 rfl (rqC 1 lb lf k no l).toList dd HS6.out.x.range hu hd (by rw [hz]; rfl) ?_; simp only [Array.toArray_toList])
    | (refine wpL_load (by rfl) 33 (.tmp 6) rfl _ 0 rfl (rqC 1 lb lf k 0 lpZ).toList dd HS6.out.z.range hu hd (by rw [hz]; rfl) ?_; simp only [Array.toArray_toList])
    | (refine wpL_load (by rfl) 33 (.tmp 1) rfl _ 0 rfl (rqC 1 lb lf k no l).toList dd HS5.out.x.range hu hd (by rw [hz]; rfl) ?_; simp only [Array.toArray_toList])
    | (refine wpL_load (by rfl) 33 (.tmp 6) rfl _ 0 rfl (rqC 1 lb lf k 0 lpZ).toList dd HS5.out.z.range hu hd (by rw [hz]; rfl) ?_; simp only [Array.toArray_toList]))
  rw [hb] at HC
  rw [← HO.out]
  clear HO
  cases sm with
  | false =>
    go_wp2_with (first
        | (go_at_call 10; first | refine (HSM.out _ HS6.out.a).mono ?_; rintro e w7 ⟨rfl, hb7⟩; have HS7 := Lib.hid (HS6.out.on hb7) | refine (HSM.out _ HS5.out.a).mono ?_; rintro e w7 ⟨rfl, hb7⟩; have HS7 := Lib.hid (HS5.out.on hb7))
        | (go_at_call 34; first | refine (HNB.out _).mono ?_; rintro e w6 ⟨rfl, hb6⟩; have HS6 := Lib.hid (HS5.out.on hb6); have f1 := HS6.out.x.cell 1 _ rfl; have f2 := HS6.out.x.cell 2 _ rfl | refine (HNB.out _).mono ?_; rintro e w6 ⟨rfl, hb6⟩; have HS6 := Lib.hid (HS4.out.on hb6); have f1 := HS6.out.x.cell 1 _ rfl; have f2 := HS6.out.x.cell 2 _ rfl)
        | (go_at_call 33; refine (HNM.out _).mono ?_; rintro e w5 ⟨rfl, rfl⟩; have HS5 := HS4)
        | (go_at_call 32; refine (HCL.out _ HS3.out.a).mono ?_; rintro e w4 ⟨rfl, hb4⟩; have HS4 := Lib.hid (HS3.out.on hb4); have q1 := HS4.out.x.cell 1 _ rfl; have q2 := HS4.out.x.cell 2 _ rfl)
        | (refine wpL_load (by rfl) 33 (.tmp 1) rfl _ 0 rfl (rqC 1 lb lf k no l).toList dd HS6.out.x.range hu hd (by rw [hz]; rfl) ?_; simp only [Array.toArray_toList])
        | (refine wpL_load (by rfl) 33 (.tmp 6) rfl _ 0 rfl (rqC 1 lb lf k 0 lpZ).toList dd HS6.out.z.range hu hd (by rw [hz]; rfl) ?_; simp only [Array.toArray_toList])
        | (refine wpL_load (by rfl) 33 (.tmp 1) rfl _ 0 rfl (rqC 1 lb lf k no l).toList dd HS5.out.x.range hu hd (by rw [hz]; rfl) ?_; simp only [Array.toArray_toList])
        | (refine wpL_load (by rfl) 33 (.tmp 6) rfl _ 0 rfl (rqC 1 lb lf k 0 lpZ).toList dd HS5.out.z.range hu hd (by rw [hz]; rfl) ?_; simp only [Array.toArray_toList]))
    go_ret2
    exact ⟨by rw [HV.out, HC.out]; rfl, HS7.out.b⟩
  | true =>
  by_cases hlg : 4096 < O.size
  · have hlg' : (4096 : Int) < (O.size : Int) := by omega
    go_wp2_with (first
        | (go_at_call 10; first | refine (HSM.out _ HS6.out.a).mono ?_; rintro e w7 ⟨rfl, hb7⟩; have HS7 := Lib.hid (HS6.out.on hb7) | refine (HSM.out _ HS5.out.a).mono ?_; rintro e w7 ⟨rfl, hb7⟩; have HS7 := Lib.hid (HS5.out.on hb7))
        | (go_at_call 34; first | refine (HNB.out _).mono ?_; rintro e w6 ⟨rfl, hb6⟩; have HS6 := Lib.hid (HS5.out.on hb6); have f1 := HS6.out.x.cell 1 _ rfl; have f2 := HS6.out.x.cell 2 _ rfl | refine (HNB.out _).mono ?_; rintro e w6 ⟨rfl, hb6⟩; have HS6 := Lib.hid (HS4.out.on hb6); have f1 := HS6.out.x.cell 1 _ rfl; have f2 := HS6.out.x.cell 2 _ rfl)
        | (go_at_call 33; refine (HNM.out _).mono ?_; rintro e w5 ⟨rfl, rfl⟩; have HS5 := HS4)
        | (go_at_call 32; refine (HCL.out _ HS3.out.a).mono ?_; rintro e w4 ⟨rfl, hb4⟩; have HS4 := Lib.hid (HS3.out.on hb4); have q1 := HS4.out.x.cell 1 _ rfl; have q2 := HS4.out.x.cell 2 _ rfl)
        | (refine wpL_load (by rfl) 33 (.tmp 1) rfl _ 0 rfl (rqC 1 lb lf k no l).toList dd HS6.out.x.range hu hd (by rw [hz]; rfl) ?_; simp only [Array.toArray_toList])
        | (refine wpL_load (by rfl) 33 (.tmp 6) rfl _ 0 rfl (rqC 1 lb lf k 0 lpZ).toList dd HS6.out.z.range hu hd (by rw [hz]; rfl) ?_; simp only [Array.toArray_toList])
        | (refine wpL_load (by rfl) 33 (.tmp 1) rfl _ 0 rfl (rqC 1 lb lf k no l).toList dd HS5.out.x.range hu hd (by rw [hz]; rfl) ?_; simp only [Array.toArray_toList])
        | (refine wpL_load (by rfl) 33 (.tmp 6) rfl _ 0 rfl (rqC 1 lb lf k 0 lpZ).toList dd HS5.out.z.range hu hd (by rw [hz]; rfl) ?_; simp only [Array.toArray_toList]))
    go_ret2
    exact ⟨by rw [HV.out, HC.out, if_pos (show 4096 < O.size from hlg)]; rfl, HS7.out.b⟩
  · have hlg' : ¬ (4096 : Int) < (O.size : Int) := by omega
    go_wp2_with (first
        | (go_at_call 10; first | refine (HSM.out _ HS6.out.a).mono ?_; rintro e w7 ⟨rfl, hb7⟩; have HS7 := Lib.hid (HS6.out.on hb7) | refine (HSM.out _ HS5.out.a).mono ?_; rintro e w7 ⟨rfl, hb7⟩; have HS7 := Lib.hid (HS5.out.on hb7))
        | (go_at_call 34; first | refine (HNB.out _).mono ?_; rintro e w6 ⟨rfl, hb6⟩; have HS6 := Lib.hid (HS5.out.on hb6); have f1 := HS6.out.x.cell 1 _ rfl; have f2 := HS6.out.x.cell 2 _ rfl | refine (HNB.out _).mono ?_; rintro e w6 ⟨rfl, hb6⟩; have HS6 := Lib.hid (HS4.out.on hb6); have f1 := HS6.out.x.cell 1 _ rfl; have f2 := HS6.out.x.cell 2 _ rfl)
        | (go_at_call 33; refine (HNM.out _).mono ?_; rintro e w5 ⟨rfl, rfl⟩; have HS5 := HS4)
        | (go_at_call 32; refine (HCL.out _ HS3.out.a).mono ?_; rintro e w4 ⟨rfl, hb4⟩; have HS4 := Lib.hid (HS3.out.on hb4); have q1 := HS4.out.x.cell 1 _ rfl; have q2 := HS4.out.x.cell 2 _ rfl)
        | (refine wpL_load (by rfl) 33 (.tmp 1) rfl _ 0 rfl (rqC 1 lb lf k no l).toList dd HS6.out.x.range hu hd (by rw [hz]; rfl) ?_; simp only [Array.toArray_toList])
        | (refine wpL_load (by rfl) 33 (.tmp 6) rfl _ 0 rfl (rqC 1 lb lf k 0 lpZ).toList dd HS6.out.z.range hu hd (by rw [hz]; rfl) ?_; simp only [Array.toArray_toList])
        | (refine wpL_load (by rfl) 33 (.tmp 1) rfl _ 0 rfl (rqC 1 lb lf k no l).toList dd HS5.out.x.range hu hd (by rw [hz]; rfl) ?_; simp only [Array.toArray_toList])
        | (refine wpL_load (by rfl) 33 (.tmp 6) rfl _ 0 rfl (rqC 1 lb lf k 0 lpZ).toList dd HS5.out.z.range hu hd (by rw [hz]; rfl) ?_; simp only [Array.toArray_toList]))
    go_ret2
    exact ⟨by rw [HV.out, HC.out, if_neg (show ¬ 4096 < O.size from hlg)]; rfl, HS7.out.b⟩
end Go.Proofs.YtfmkfabbiifolaaGreatDoor
