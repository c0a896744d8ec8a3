/-
  Joined of: Rqh.
-/
import Derived.Test.YtfmkfabbiifolaaGreatDoorJa22
set_option linter.unusedVariables false
set_option linter.unusedSimpArgs false
/-
  Contract: request.Parse. (Made by tools/mk_rqh.py.)
-/
set_option linter.unusedVariables false
set_option linter.unusedSimpArgs false
namespace Go.Proofs.YtfmkfabbiifolaaGreatDoor
open Go.RowKit

/-- how a request's reading ends -/
def ReqPost (w : World) (R : Except (Int × Int) Req) (e : Ending) (w' : World) : Prop := match R with
  | .ok r => ∃ cs, e = .returned (.tuple #[.agg cs, .int .i64 0, .int .i64 0]) ∧ ReqMem w' w.heap.size r cs ∧ Below w.heap.size w w'
  | .error (n, p) => e = .returned (.tuple #[.agg (rqC 0 ⟨#[]⟩ 0 kpZ 0 lpZ), .int .i64 p, .int .i64 n]) ∧ Below w.heap.size w w'
theorem ReqMem.form {w : World} {B : Nat} {r : Req} {cs : Array Value} (h : ReqMem w B r cs) : ∃ kd lb lf cl no lp, cs = rqC kd lb lf cl no lp := by
  cases r with
  | ass lb lf x => obtain ⟨cl, _, h, _⟩ := h; exact ⟨_, _, _, _, _, _, h⟩
  | rev n => exact ⟨_, _, _, _, _, _, h⟩
  | ask kd x => obtain ⟨qx, cx, h, _⟩ := h; exact ⟨_, _, _, _, _, _, h⟩
  | aud => exact ⟨_, _, _, _, _, _, h⟩
theorem ReqMem.above {w w' : World} {B G : Nat} {r : Req} {cs : Array Value} (h : ReqMem w B r cs) (ha : Above G w w') (hG : G ≤ B) (hs : w.heap.size ≤ w'.heap.size) : ReqMem w' B r cs := by
  cases r with
  | ass lb lf x => obtain ⟨cl, h1, h2, h3, h4⟩ := h; exact ⟨cl, h1, h2, h3.above (h4.mono hG) ha hs, h4⟩
  | rev n => exact h
  | ask kd x => obtain ⟨qx, cx, h1, h2, h3⟩ := h; exact ⟨qx, cx, h1, ha.rd h2 (fun b hb => Nat.le_trans hG (h3 b hb)) hs, h3⟩
  | aud => exact h
theorem ReqMem.mono {w : World} {B B' : Nat} {r : Req} {cs : Array Value} (h : ReqMem w B r cs) (hB : B' ≤ B) : ReqMem w B' r cs := by
  cases r with
  | ass lb lf x => obtain ⟨cl, h1, h2, h3, h4⟩ := h; exact ⟨cl, h1, h2, h3, h4.mono hB⟩
  | rev n => exact h
  | ask kd x => obtain ⟨qx, cx, h1, h2, h3⟩ := h; exact ⟨qx, cx, h1, h2, fun b hb => Nat.le_trans hB (h3 b hb)⟩
  | aud => exact h
theorem Two.belowAt {ab eb : Nat} {w a b : World} {B : Nat} (h : Below B w a) (k : Two ab eb a b) (h1 : B ≤ ab) (h2 : B ≤ eb) (hB : B ≤ a.heap.size) : Below B w b :=
  ⟨k.os.trans h.os, k.tape.trans h.tape, k.output.trans h.output, Nat.le_trans h.size k.size, fun i hi => (k.block i (by omega) (by omega) (by omega)).trans (h.block i hi)⟩
theorem Bk.two {w w' : World} {b : Nat} {T : TypeId} {cs : Array Value} {ab eb : Nat} (h : Bk w b T cs) (k : Two ab eb w w') (h1 : b ≠ ab) (h2 : b ≠ eb) : Bk w' b T cs := (k.block b h.lt h1 h2).trans h
theorem Bk.other17 {w : World} {b b' : Nat} {T : TypeId} {cs : Array Value} (h : Bk w b' T cs) (hn : b' ≠ b) (u0 u1 u2 u3 u4 u5 u6 u7 u8 u9 u10 u11 u12 u13 u14 u15 u16 : Value) : Bk (((((((((((((((((w.setCell ⟨b, 0, none⟩ u0).setCell ⟨b, 1, none⟩ u1).setCell ⟨b, 2, none⟩ u2).setCell ⟨b, 3, none⟩ u3).setCell ⟨b, 4, none⟩ u4).setCell ⟨b, 5, none⟩ u5).setCell ⟨b, 6, none⟩ u6).setCell ⟨b, 7, none⟩ u7).setCell ⟨b, 8, none⟩ u8).setCell ⟨b, 9, none⟩ u9).setCell ⟨b, 10, none⟩ u10).setCell ⟨b, 11, none⟩ u11).setCell ⟨b, 12, none⟩ u12).setCell ⟨b, 13, none⟩ u13).setCell ⟨b, 14, none⟩ u14).setCell ⟨b, 15, none⟩ u15).setCell ⟨b, 16, none⟩ u16) b' T cs := (((((((((((((((((h.other hn 0 u0).other hn 1 u1).other hn 2 u2).other hn 3 u3).other hn 4 u4).other hn 5 u5).other hn 6 u6).other hn 7 u7).other hn 8 u8).other hn 9 u9).other hn 10 u10).other hn 11 u11).other hn 12 u12).other hn 13 u13).other hn 14 u14).other hn 15 u15).other hn 16 u16)
def leadNo (x : ByteArray) : Prop := x ≠ wdAssert ∧ x ≠ wdRevoke ∧ x ≠ wdQuery ∧ x ≠ wdProve ∧ x ≠ wdAudit
theorem leadOf_assert {xq xr : Nat} : leadOf xq xr wdAssert = .tuple #[leadFn 43 xq xr, .bool true] := by
  unfold leadOf
  rw [if_pos rfl]
theorem leadOf_revoke {xq xr : Nat} : leadOf xq xr wdRevoke = .tuple #[leadFn 48 xq xr, .bool true] := by
  unfold leadOf
  rw [if_neg (by decide +kernel)]
  rw [if_pos rfl]
theorem leadOf_query {xq xr : Nat} : leadOf xq xr wdQuery = .tuple #[leadFn 51 xq xr, .bool true] := by
  unfold leadOf
  rw [if_neg (by decide +kernel)]
  rw [if_neg (by decide +kernel)]
  rw [if_pos rfl]
theorem leadOf_prove {xq xr : Nat} : leadOf xq xr wdProve = .tuple #[leadFn 54 xq xr, .bool true] := by
  unfold leadOf
  rw [if_neg (by decide +kernel)]
  rw [if_neg (by decide +kernel)]
  rw [if_neg (by decide +kernel)]
  rw [if_pos rfl]
theorem leadOf_audit {xq xr : Nat} : leadOf xq xr wdAudit = .tuple #[leadFn 55 xq xr, .bool true] := by
  unfold leadOf
  rw [if_neg (by decide +kernel)]
  rw [if_neg (by decide +kernel)]
  rw [if_neg (by decide +kernel)]
  rw [if_neg (by decide +kernel)]
  rw [if_pos rfl]
theorem leadOf_none {xq xr : Nat} {x : ByteArray} (h : leadNo x) : leadOf xq xr x = .tuple #[.nilFunc, .bool false] := by
  obtain ⟨h1, h2, h3, h4, h5⟩ := h
  unfold leadOf
  rw [if_neg h1, if_neg h2, if_neg h3, if_neg h4, if_neg h5]
set_option maxHeartbeats 8000000 in
set_option maxRecDepth 100000 in
theorem reqparse_lex (s : ByteArray) (w : World) (hm : s.size ≤ 140737488351232) (he : Env w) (hx : (allL s.data.toList).err ≠ 0) :
    Calls Tryz.prog 7 #[.string s] w (ReqPost w (.error ((allL s.data.toList).err, (allL s.data.toList).pl))) := by
  have HB := Lib.hid (below1 w)
  have HAL := Lib.hid (fun X (hX : Below w.heap.size w X) => all_any s X hm (he.on hX))
  unfold AllPost at HAL
  unfold ReqPost
  have hx1 : ((allL s.data.toList).err != 0) = true := by rw [bne_iff_ne]; exact hx
  generalize (allL s.data.toList).err = er at *
  generalize (allL s.data.toList).pl = pl at *
  clear he hx hm
  go_enter Tryz.func7, Tryz.ntmps7
  go_upto_region 3 with (go_at_call 15; refine (HAL.out _ (HB.out _)).mono ?_; rintro e w1 ⟨v1, rfl, ht1, hb1⟩; have HB1 := Lib.hid ((HB.out _).trans (hb1.mono (HB.out _).size)); have HZ1 := Lib.hid ((Bk.new w _ _).on hb1); have HT1 := Lib.hid ht1; have hs1 : w.heap.size + 1 ≤ w1.heap.size := (by simpa using hb1.size); clear hb1 ht1)
  obtain ⟨r0, r1, r2, r3, r4, r5, r6, r7, r8, r9, r10, r11, r12, r13, r14, r15, r16⟩ := HZ1.out.cells17
  obtain ⟨z0, z1, z2, z3, z4, z5, z6, z7, z8, z9, z10, z11, z12, z13, z14, z15, z16⟩ := HZ1.out.softs17
  go_wp2_with fail
  obtain ⟨q0, q1, q2, q3, q4, q5, q6, q7, q8, q9, q10, q11, q12, q13, q14, q15, q16⟩ := (set17 HZ1.out (.int .u8 0) (.string ⟨#[]⟩) (.int .i64 0) (.int .u8 0) (.string ⟨#[]⟩) (.string ⟨#[]⟩) (.int .i64 0) (.string ⟨#[]⟩) (.slice none 0 0) (.slice none 0 0) (.int .i64 0) (.int .u8 0) (.string ⟨#[]⟩) (.string ⟨#[]⟩) (.int .i64 0) (.string ⟨#[]⟩) (.slice none 0 0)).cells17
  refine bodyPost_ret (v := .tuple #[.agg (rqC 0 ⟨#[]⟩ 0 kpZ 0 lpZ), .int .i64 pl, .int .i64 er]) ?_ rfl ?_
  · simp [results, Tryz.results7, go_sem, q0, q1, q2, q3, q4, q5, q6, q7, q8, q9, q10, q11, q12, q13, q14, q15, q16, rqC, kpZ, lpZ, tmZ]
  · exact ⟨rfl, HB1.out.trans (below17 (Nat.le_refl _) _ _ _ _ _ _ _ _ _ _ _ _ _ _ _ _ _ )⟩
set_option maxHeartbeats 16000000 in
set_option maxRecDepth 100000 in
theorem reqparse_none (s : ByteArray) (w : World) (hm : s.size ≤ 140737488351232) (he : Env w) (hx : (allL s.data.toList).err = 0) (hwd : leadNo (textAt s (allL s.data.toList).toks 0)) :
    Calls Tryz.prog 7 #[.string s] w (ReqPost w (.error (6, placeAt s (allL s.data.toList).toks 0))) := by
  have HB := Lib.hid (below1 w)
  have HAL := Lib.hid (fun X (hX : Below w.heap.size w X) => all_any s X hm (he.on hX))
  unfold AllPost at HAL
  have hsr := (toks_of s hx).src
  rw [hx] at HAL
  generalize (allL s.data.toList).pl = pl at *
  generalize (allL s.data.toList).toks = ts at *
  have HEN := Lib.hid (fun X (hX : Below w.heap.size w X) => he.on hX)
  have HSR := Lib.hid hsr
  have hll := hsr.len
  clear he hx hm hsr
  go_enter Tryz.func7, Tryz.ntmps7
  go_upto_region 4 with (go_at_call 15; refine (HAL.out _ (HB.out _)).mono ?_; rintro e w1 ⟨v1, rfl, ht1, hb1⟩; have HB1 := Lib.hid ((HB.out _).trans (hb1.mono (HB.out _).size)); have HZ1 := Lib.hid ((Bk.new w _ _).on hb1); have HT1 := Lib.hid ht1; have hs1 : w.heap.size + 1 ≤ w1.heap.size := (by simpa using hb1.size); clear hb1 ht1)
  obtain ⟨q, c, rfl, hrd⟩ := tokrow_rd HT1.out
  have HRD := Lib.hid hrd
  clear hrd HT1
  go_upto_region 6 with fail
  have HR3 := Lib.hid (show Rb ((w1.alloc (.cells #[.string s, .slice q ts.length c, .int .i64 0, .int .i64 0, .int .i64 0] 55)).alloc (.cells #[.int .u8 0, .string ⟨#[]⟩, .int .i64 0, .int .u8 0, .string ⟨#[]⟩, .string ⟨#[]⟩, .int .i64 0, .string ⟨#[]⟩, .slice none 0 0, .slice none 0 0, .int .i64 0, .int .u8 0, .string ⟨#[]⟩, .string ⟨#[]⟩, .int .i64 0, .string ⟨#[]⟩, .slice none 0 0] 33)) w1.heap.size s q c ts 0 0 0 from ⟨(Bk.new w1 _ _).on (below1 _ _), (HRD.out.below (below1 w1 _) (Nat.le_refl _)).below (below1 _ _) (by simp), Nat.zero_le _, HSR.out, fun w' hb => HEN.out _ (((HB1.out.trans ((below1 w1 _).mono HB1.out.size)).trans ((below1 _ _).mono (by simp; omega))).trans (hb.mono (by omega)))⟩)
  have HM3 := Lib.hid (show Bk ((w1.alloc (.cells #[.string s, .slice q ts.length c, .int .i64 0, .int .i64 0, .int .i64 0] 55)).alloc (.cells #[.int .u8 0, .string ⟨#[]⟩, .int .i64 0, .int .u8 0, .string ⟨#[]⟩, .string ⟨#[]⟩, .int .i64 0, .string ⟨#[]⟩, .slice none 0 0, .slice none 0 0, .int .i64 0, .int .u8 0, .string ⟨#[]⟩, .string ⟨#[]⟩, .int .i64 0, .string ⟨#[]⟩, .slice none 0 0] 33)) (w1.heap.size + 1) 33 #[.int .u8 0, .string ⟨#[]⟩, .int .i64 0, .int .u8 0, .string ⟨#[]⟩, .string ⟨#[]⟩, .int .i64 0, .string ⟨#[]⟩, .slice none 0 0, .slice none 0 0, .int .i64 0, .int .u8 0, .string ⟨#[]⟩, .string ⟨#[]⟩, .int .i64 0, .string ⟨#[]⟩, .slice none 0 0] from (by simpa using Bk.new (w1.alloc (.cells #[.string s, .slice q ts.length c, .int .i64 0, .int .i64 0, .int .i64 0] 55)) 33 #[.int .u8 0, .string ⟨#[]⟩, .int .i64 0, .int .u8 0, .string ⟨#[]⟩, .string ⟨#[]⟩, .int .i64 0, .string ⟨#[]⟩, .slice none 0 0, .slice none 0 0, .int .i64 0, .int .u8 0, .string ⟨#[]⟩, .string ⟨#[]⟩, .int .i64 0, .string ⟨#[]⟩, .slice none 0 0]))
  have HZ3 := Lib.hid ((HZ1.out.on (below1 w1 (.cells #[.string s, .slice q ts.length c, .int .i64 0, .int .i64 0, .int .i64 0] 55))).on (below1 _ (.cells #[.int .u8 0, .string ⟨#[]⟩, .int .i64 0, .int .u8 0, .string ⟨#[]⟩, .string ⟨#[]⟩, .int .i64 0, .string ⟨#[]⟩, .slice none 0 0, .slice none 0 0, .int .i64 0, .int .u8 0, .string ⟨#[]⟩, .string ⟨#[]⟩, .int .i64 0, .string ⟨#[]⟩, .slice none 0 0] 33)))
  have HB3 := Lib.hid ((HB1.out.trans ((below1 w1 (.cells #[.string s, .slice q ts.length c, .int .i64 0, .int .i64 0, .int .i64 0] 55)).mono HB1.out.size)).trans ((below1 _ (.cells #[.int .u8 0, .string ⟨#[]⟩, .int .i64 0, .int .u8 0, .string ⟨#[]⟩, .string ⟨#[]⟩, .int .i64 0, .string ⟨#[]⟩, .slice none 0 0, .slice none 0 0, .int .i64 0, .int .u8 0, .string ⟨#[]⟩, .string ⟨#[]⟩, .int .i64 0, .string ⟨#[]⟩, .slice none 0 0] 33)).mono (by simp; omega)))
  have hs3 : ((w1.alloc (.cells #[.string s, .slice q ts.length c, .int .i64 0, .int .i64 0, .int .i64 0] 55)).alloc (.cells #[.int .u8 0, .string ⟨#[]⟩, .int .i64 0, .int .u8 0, .string ⟨#[]⟩, .string ⟨#[]⟩, .int .i64 0, .string ⟨#[]⟩, .slice none 0 0, .slice none 0 0, .int .i64 0, .int .u8 0, .string ⟨#[]⟩, .string ⟨#[]⟩, .int .i64 0, .string ⟨#[]⟩, .slice none 0 0] 33)).heap.size = w1.heap.size + 2 := by simp
  generalize (w1.alloc (.cells #[.string s, .slice q ts.length c, .int .i64 0, .int .i64 0, .int .i64 0] 55)).alloc (.cells #[.int .u8 0, .string ⟨#[]⟩, .int .i64 0, .int .u8 0, .string ⟨#[]⟩, .string ⟨#[]⟩, .int .i64 0, .string ⟨#[]⟩, .slice none 0 0, .slice none 0 0, .int .i64 0, .int .u8 0, .string ⟨#[]⟩, .string ⟨#[]⟩, .int .i64 0, .string ⟨#[]⟩, .slice none 0 0] 33) = W3 at *
  clear HB1 HZ1 HRD HB HAL
  have HLE := Lib.hid (leads_any w1.heap.size (w1.heap.size + 1) W3)
  rw [hs3] at HLE
  simp only [Nat.add_assoc, Nat.reduceAdd] at HLE
  go_wp2_with fail
  refine HLE.out.mono ?_
  rintro e w4 ⟨rfl, hw4⟩
  have hb4 : Below W3.heap.size W3 w4 := by
    rw [hw4]
    exact (((Below.refl _ _).alloc (Nat.le_refl _) _).alloc (by simp) _).alloc (by simp; omega) _
  have HXR := Lib.hid (show Bk w4 (w1.heap.size + 2) 53 #[.pointer (some ⟨w1.heap.size, 0, none⟩)] from by
    rw [hw4, ← hs3]
    exact ((Bk.new W3 _ _).on (below1 _ _)).on (below1 _ _))
  have HXQ := Lib.hid (show Bk w4 (w1.heap.size + 3) 59 #[.pointer (some ⟨w1.heap.size + 1, 0, none⟩)] from by
    rw [hw4]
    have := (Bk.new (W3.alloc (.cells #[.pointer (some ⟨w1.heap.size, 0, none⟩)] 53)) 59 #[.pointer (some ⟨w1.heap.size + 1, 0, none⟩)]).on (below1 _ (.map (leadE5 (w1.heap.size + 3) (w1.heap.size + 2)) 5))
    simpa [hs3] using this)
  have HMP := Lib.hid (show w4.heap[w1.heap.size + 4]? = some (.map (leadE5 (w1.heap.size + 3) (w1.heap.size + 2)) 5) from by
    rw [hw4]
    have := heap_alloc_new ((W3.alloc (.cells #[.pointer (some ⟨w1.heap.size, 0, none⟩)] 53)).alloc (.cells #[.pointer (some ⟨w1.heap.size + 1, 0, none⟩)] 59)) (.map (leadE5 (w1.heap.size + 3) (w1.heap.size + 2)) 5)
    simpa [hs3] using this)
  have hs4 : w4.heap.size = w1.heap.size + 5 := by rw [hw4]; simp [hs3]
  clear hw4 HLE
  have HR4 := Lib.hid (HR3.out.on hb4)
  have HM4 := Lib.hid (HM3.out.on hb4)
  have HZ4 := Lib.hid (HZ3.out.on hb4)
  have HB4 := Lib.hid (HB3.out.trans (hb4.mono HB3.out.size))
  clear hb4 HR3 HM3 HZ3 HB3
  have HSP := Lib.hid (rspelt_any w4 w1.heap.size s q c ts 0 0 0 HR4.out)
  go_wp2_with fail
  refine HSP.out.mono ?_
  rintro e w5 ⟨rfl, hb5⟩
  have hlk := lookL w5 (w1.heap.size + 4) (w1.heap.size + 3) (w1.heap.size + 2) (textAt s ts 0) ((hb5.block _ (by omega)).trans HMP.out)
  rw [leadOf_none hwd] at hlk
  have HR5 := Lib.hid (HR4.out.on hb5)
  have HM5 := Lib.hid (HM4.out.on hb5)
  have HZ5 := Lib.hid (HZ4.out.on hb5)
  have HX5 := Lib.hid (HXR.out.on hb5)
  have HY5 := Lib.hid (HXQ.out.on hb5)
  have HB5 := Lib.hid (HB4.out.trans (hb5.mono HB4.out.size))
  have hs5 : w1.heap.size + 5 ≤ w5.heap.size := hs4 ▸ hb5.size
  clear hb5 HR4 HM4 HZ4 HB4 HXR HXQ HMP HSP hs4
  have HPL := Lib.hid (rplace_any w5 w1.heap.size s q c ts 0 0 0 HR5.out)
  have HWR := Lib.hid (fun X (hX : Below w5.heap.size w5 X) => rwrong_any X w1.heap.size s q c ts 0 0 0 (placeAt s ts 0) 6 (HR5.out.on hX))
  rw [first_none] at HWR
  have hn0 : (6 : Int) ≠ 0 := by decide
  generalize placeAt s ts 0 = p at *
  generalize textAt s ts 0 = T at *
  go_upto_region 11 with (first
    | (go_at_call 19; refine HPL.out.mono ?_; rintro e w6 ⟨rfl, hb6⟩; have HB6 := Lib.hid hb6; clear hb6)
    | (go_at_call 18; refine (HWR.out _ HB6.out).mono ?_; rintro e w7 ⟨rfl, hr7, ho7⟩; have HR7 := Lib.hid hr7; have HO7 := Lib.hid ho7; clear hr7 ho7))
  have HZ7 := Lib.hid ((HZ5.out.on HB6.out).only HO7.out (by omega))
  have HBW := Lib.hid (show Below w.heap.size w w7 from (HB5.out.trans (HB6.out.mono HB5.out.size)).trans ((HO7.out.below (by have := HB6.out.size; omega)).mono (by omega)))
  clear HPL HWR HB6 HO7 HR5 HM5 HZ5 HX5 HY5 HB5 hlk
  have c3 := HR7.out.c3
  have c4 := HR7.out.c4
  have hnn : ((6 : Int) != 0) = true := by rw [bne_iff_ne]; exact hn0
  go_upto_region 12 with fail
  have HZ8 := Lib.hid (HZ7.out.on (Below.refl w7.heap.size w7).drew)
  have HR8 := Lib.hid (HR7.out.on (Below.refl w7.heap.size w7).drew)
  have HB8 := Lib.hid ((HBW.out).drew)
  refine wp_region_held_drew (S := fun X => X.cell? ⟨w1.heap.size, 3, none⟩ = some (.int .i64 p) ∧ X.cell? ⟨w1.heap.size, 4, none⟩ = some (.int .i64 6)) (by kernel_rfl) ⟨c3, c4⟩ (fun hHeld => ?_)
  refine wpAnyH_take (i := 0) (v := ?_) rfl (by kernel_rfl) (by kernel_rfl) (by kernel_rfl) (fun _ _ _ h => h) (Or.inl ⟨by rfl, ?hy⟩) (by assumption) ?_
  case hy =>
    intro wx hSw
    obtain ⟨q0, q1⟩ := hSw
    go_simp
    all_goals with_reducible rfl
  (try simp only [Act.put, List.getElem_toArray, List.getElem_cons_succ, List.getElem_cons_zero, List.setIfInBounds_toArray, List.set_cons_zero, List.set_cons_succ])
  refine wpAnyH_take (i := 1) (v := ?_) rfl (by kernel_rfl) (by kernel_rfl) (by kernel_rfl) (fun _ _ _ h => h) (Or.inl ⟨by rfl, ?hy⟩) (by assumption) ?_
  case hy =>
    intro wx hSw
    obtain ⟨q0, q1⟩ := hSw
    go_simp
    all_goals with_reducible rfl
  (try simp only [Act.put, List.getElem_toArray, List.getElem_cons_succ, List.getElem_cons_zero, List.setIfInBounds_toArray, List.set_cons_zero, List.set_cons_succ])
  refine wpAnyH_take (i := 2) (v := ?_) rfl (by kernel_rfl) (by kernel_rfl) (by kernel_rfl) (fun _ _ _ h => h) (Or.inl ⟨by rfl, ?hy⟩) (by assumption) ?_
  case hy =>
    intro wx hSw
    obtain ⟨q0, q1⟩ := hSw
    go_simp
    all_goals with_reducible rfl
  (try simp only [Act.put, List.getElem_toArray, List.getElem_cons_succ, List.getElem_cons_zero, List.setIfInBounds_toArray, List.set_cons_zero, List.set_cons_succ])
  refine wpAnyH_take (i := 3) (v := ?_) rfl (by kernel_rfl) (by kernel_rfl) (by kernel_rfl) (fun _ _ _ h => h) (Or.inl ⟨by rfl, ?hy⟩) (by assumption) ?_
  case hy =>
    intro wx hSw
    obtain ⟨q0, q1⟩ := hSw
    go_simp
    all_goals with_reducible rfl
  (try simp only [Act.put, List.getElem_toArray, List.getElem_cons_succ, List.getElem_cons_zero, List.setIfInBounds_toArray, List.set_cons_zero, List.set_cons_succ])
  refine wpAnyH_take (i := 4) (v := ?_) rfl (by kernel_rfl) (by kernel_rfl) (by kernel_rfl) (fun _ _ _ h => h) (Or.inl ⟨by rfl, ?hy⟩) (by assumption) ?_
  case hy =>
    intro wx hSw
    obtain ⟨q0, q1⟩ := hSw
    go_simp
    all_goals with_reducible rfl
  (try simp only [Act.put, List.getElem_toArray, List.getElem_cons_succ, List.getElem_cons_zero, List.setIfInBounds_toArray, List.set_cons_zero, List.set_cons_succ])
  refine wpAnyH_take (i := 5) (v := ?_) rfl (by kernel_rfl) (by kernel_rfl) (by kernel_rfl) (fun _ _ _ h => h) (Or.inl ⟨by rfl, ?hy⟩) (by assumption) ?_
  case hy =>
    intro wx hSw
    obtain ⟨q0, q1⟩ := hSw
    go_simp
    all_goals with_reducible rfl
  (try simp only [Act.put, List.getElem_toArray, List.getElem_cons_succ, List.getElem_cons_zero, List.setIfInBounds_toArray, List.set_cons_zero, List.set_cons_succ])
  refine wpAnyH_take (i := 6) (v := ?_) rfl (by kernel_rfl) (by kernel_rfl) (by kernel_rfl) (fun _ _ _ h => h) (Or.inl ⟨by rfl, ?hy⟩) (by assumption) ?_
  case hy =>
    intro wx hSw
    obtain ⟨q0, q1⟩ := hSw
    go_simp
    all_goals with_reducible rfl
  (try simp only [Act.put, List.getElem_toArray, List.getElem_cons_succ, List.getElem_cons_zero, List.setIfInBounds_toArray, List.set_cons_zero, List.set_cons_succ])
  refine wpAnyH_take (i := 7) (v := ?_) rfl (by kernel_rfl) (by kernel_rfl) (by kernel_rfl) (fun _ _ _ h => h) (Or.inl ⟨by rfl, ?hy⟩) (by assumption) ?_
  case hy =>
    intro wx hSw
    obtain ⟨q0, q1⟩ := hSw
    go_simp
    all_goals with_reducible rfl
  (try simp only [Act.put, List.getElem_toArray, List.getElem_cons_succ, List.getElem_cons_zero, List.setIfInBounds_toArray, List.set_cons_zero, List.set_cons_succ])
  refine wpAnyH_take (i := 8) (v := ?_) rfl (by kernel_rfl) (by kernel_rfl) (by kernel_rfl) (fun _ _ _ h => h) (Or.inl ⟨by rfl, ?hy⟩) (by assumption) ?_
  case hy =>
    intro wx hSw
    obtain ⟨q0, q1⟩ := hSw
    go_simp
    all_goals with_reducible rfl
  (try simp only [Act.put, List.getElem_toArray, List.getElem_cons_succ, List.getElem_cons_zero, List.setIfInBounds_toArray, List.set_cons_zero, List.set_cons_succ])
  refine wpAnyH_ready (rs := [9]) (by kernel_rfl) (by simp) ?_
  refine AllReadyH.cons rfl (fun K hK => ?_) AllReadyH.nil
  rw [if_pos (by rfl)]
  refine wp_store_mid 33 (.tmp 2) (.tmp 54) rfl w.heap.size 0 (rqC 0 ⟨#[]⟩ 0 kpZ 0 lpZ) rfl rfl HZ8.out.there (by rw [sizeReq]; rfl) (rqC_one _ _ _ _ _ _) ?_
  have HB9 := Lib.hid (HB8.out.trans (below_setCells (rqC 0 ⟨#[]⟩ 0 kpZ 0 lpZ).toList w.heap.size 0 w7.drew (Nat.le_refl _)))
  have HR9 := Lib.hid (HR8.out.box.apart (show w1.heap.size ≠ w.heap.size by omega) (rqC 0 ⟨#[]⟩ 0 kpZ 0 lpZ).toList)
  have HZ9 := Lib.hid (HZ8.out.setAll 0 ⟨#[]⟩ 0 kpZ 0 lpZ ⟨_, _, _, kpZ, _, lpZ, rfl⟩)
  generalize w7.drew.setCells w.heap.size 0 (rqC 0 ⟨#[]⟩ 0 kpZ 0 lpZ).toList = w9 at *
  refine hK.out _ _ (⟨HR9.out.cell 3 _ rfl, HR9.out.cell 4 _ rfl⟩) (fun hHeld => ?_)
  clear hK K
  (try simp only [Act.put, List.getElem_toArray, List.getElem_cons_succ, List.getElem_cons_zero, List.setIfInBounds_toArray, List.set_cons_zero, List.set_cons_succ])
  refine wpAnyH_take (i := 10) (v := ?_) rfl (by kernel_rfl) (by kernel_rfl) (by kernel_rfl) (fun _ _ _ h => h) (Or.inl ⟨by rfl, ?hy⟩) (by assumption) ?_
  case hy =>
    intro wx hSw
    obtain ⟨q0, q1⟩ := hSw
    go_simp
    all_goals with_reducible rfl
  (try simp only [Act.put, List.getElem_toArray, List.getElem_cons_succ, List.getElem_cons_zero, List.setIfInBounds_toArray, List.set_cons_zero, List.set_cons_succ])
  refine wpAnyH_take (i := 11) (v := ?_) rfl (by kernel_rfl) (by kernel_rfl) (by kernel_rfl) (fun _ _ _ h => h) (Or.inl ⟨by rfl, ?hy⟩) (by assumption) ?_
  case hy =>
    intro wx hSw
    obtain ⟨q0, q1⟩ := hSw
    go_simp
    all_goals with_reducible rfl
  (try simp only [Act.put, List.getElem_toArray, List.getElem_cons_succ, List.getElem_cons_zero, List.setIfInBounds_toArray, List.set_cons_zero, List.set_cons_succ])
  refine wpAnyH_done (by kernel_rfl) ?_ _
  go_wp2_with fail
  refine bodyPost_ret (results_req rfl _ _ w.heap.size 0 ⟨#[]⟩ 0 kpZ 0 lpZ rfl HZ9.out) rfl ?_
  exact ⟨rfl, HB9.out⟩
set_option maxHeartbeats 16000000 in
set_option maxRecDepth 100000 in
theorem reqparse_assert (s : ByteArray) (w : World) (hm : s.size ≤ 140737488351232) (he : Env w) (hx : (allL s.data.toList).err = 0) (hwd : textAt s (allL s.data.toList).toks 0 = wdAssert) :
    Calls Tryz.prog 7 #[.string s] w (ReqPost w (assR s (allL s.data.toList).toks)) := by
  have HB := Lib.hid (below1 w)
  have HAL := Lib.hid (fun X (hX : Below w.heap.size w X) => all_any s X hm (he.on hX))
  unfold AllPost at HAL
  have hsr := (toks_of s hx).src
  rw [hx] at HAL
  generalize (allL s.data.toList).pl = pl at *
  generalize (allL s.data.toList).toks = ts at *
  have HEN := Lib.hid (fun X (hX : Below w.heap.size w X) => he.on hX)
  have HSR := Lib.hid hsr
  have hlt : 0 < ts.length := text_lt hwd (by decide +kernel)
  have hll := hsr.len
  clear he hx hm hsr
  go_enter Tryz.func7, Tryz.ntmps7
  go_upto_region 4 with (go_at_call 15; refine (HAL.out _ (HB.out _)).mono ?_; rintro e w1 ⟨v1, rfl, ht1, hb1⟩; have HB1 := Lib.hid ((HB.out _).trans (hb1.mono (HB.out _).size)); have HZ1 := Lib.hid ((Bk.new w _ _).on hb1); have HT1 := Lib.hid ht1; have hs1 : w.heap.size + 1 ≤ w1.heap.size := (by simpa using hb1.size); clear hb1 ht1)
  obtain ⟨q, c, rfl, hrd⟩ := tokrow_rd HT1.out
  have HRD := Lib.hid hrd
  clear hrd HT1
  go_upto_region 6 with fail
  have HR3 := Lib.hid (show Rb ((w1.alloc (.cells #[.string s, .slice q ts.length c, .int .i64 0, .int .i64 0, .int .i64 0] 55)).alloc (.cells #[.int .u8 0, .string ⟨#[]⟩, .int .i64 0, .int .u8 0, .string ⟨#[]⟩, .string ⟨#[]⟩, .int .i64 0, .string ⟨#[]⟩, .slice none 0 0, .slice none 0 0, .int .i64 0, .int .u8 0, .string ⟨#[]⟩, .string ⟨#[]⟩, .int .i64 0, .string ⟨#[]⟩, .slice none 0 0] 33)) w1.heap.size s q c ts 0 0 0 from ⟨(Bk.new w1 _ _).on (below1 _ _), (HRD.out.below (below1 w1 _) (Nat.le_refl _)).below (below1 _ _) (by simp), Nat.zero_le _, HSR.out, fun w' hb => HEN.out _ (((HB1.out.trans ((below1 w1 _).mono HB1.out.size)).trans ((below1 _ _).mono (by simp; omega))).trans (hb.mono (by omega)))⟩)
  have HM3 := Lib.hid (show Bk ((w1.alloc (.cells #[.string s, .slice q ts.length c, .int .i64 0, .int .i64 0, .int .i64 0] 55)).alloc (.cells #[.int .u8 0, .string ⟨#[]⟩, .int .i64 0, .int .u8 0, .string ⟨#[]⟩, .string ⟨#[]⟩, .int .i64 0, .string ⟨#[]⟩, .slice none 0 0, .slice none 0 0, .int .i64 0, .int .u8 0, .string ⟨#[]⟩, .string ⟨#[]⟩, .int .i64 0, .string ⟨#[]⟩, .slice none 0 0] 33)) (w1.heap.size + 1) 33 #[.int .u8 0, .string ⟨#[]⟩, .int .i64 0, .int .u8 0, .string ⟨#[]⟩, .string ⟨#[]⟩, .int .i64 0, .string ⟨#[]⟩, .slice none 0 0, .slice none 0 0, .int .i64 0, .int .u8 0, .string ⟨#[]⟩, .string ⟨#[]⟩, .int .i64 0, .string ⟨#[]⟩, .slice none 0 0] from (by simpa using Bk.new (w1.alloc (.cells #[.string s, .slice q ts.length c, .int .i64 0, .int .i64 0, .int .i64 0] 55)) 33 #[.int .u8 0, .string ⟨#[]⟩, .int .i64 0, .int .u8 0, .string ⟨#[]⟩, .string ⟨#[]⟩, .int .i64 0, .string ⟨#[]⟩, .slice none 0 0, .slice none 0 0, .int .i64 0, .int .u8 0, .string ⟨#[]⟩, .string ⟨#[]⟩, .int .i64 0, .string ⟨#[]⟩, .slice none 0 0]))
  have HZ3 := Lib.hid ((HZ1.out.on (below1 w1 (.cells #[.string s, .slice q ts.length c, .int .i64 0, .int .i64 0, .int .i64 0] 55))).on (below1 _ (.cells #[.int .u8 0, .string ⟨#[]⟩, .int .i64 0, .int .u8 0, .string ⟨#[]⟩, .string ⟨#[]⟩, .int .i64 0, .string ⟨#[]⟩, .slice none 0 0, .slice none 0 0, .int .i64 0, .int .u8 0, .string ⟨#[]⟩, .string ⟨#[]⟩, .int .i64 0, .string ⟨#[]⟩, .slice none 0 0] 33)))
  have HB3 := Lib.hid ((HB1.out.trans ((below1 w1 (.cells #[.string s, .slice q ts.length c, .int .i64 0, .int .i64 0, .int .i64 0] 55)).mono HB1.out.size)).trans ((below1 _ (.cells #[.int .u8 0, .string ⟨#[]⟩, .int .i64 0, .int .u8 0, .string ⟨#[]⟩, .string ⟨#[]⟩, .int .i64 0, .string ⟨#[]⟩, .slice none 0 0, .slice none 0 0, .int .i64 0, .int .u8 0, .string ⟨#[]⟩, .string ⟨#[]⟩, .int .i64 0, .string ⟨#[]⟩, .slice none 0 0] 33)).mono (by simp; omega)))
  have hs3 : ((w1.alloc (.cells #[.string s, .slice q ts.length c, .int .i64 0, .int .i64 0, .int .i64 0] 55)).alloc (.cells #[.int .u8 0, .string ⟨#[]⟩, .int .i64 0, .int .u8 0, .string ⟨#[]⟩, .string ⟨#[]⟩, .int .i64 0, .string ⟨#[]⟩, .slice none 0 0, .slice none 0 0, .int .i64 0, .int .u8 0, .string ⟨#[]⟩, .string ⟨#[]⟩, .int .i64 0, .string ⟨#[]⟩, .slice none 0 0] 33)).heap.size = w1.heap.size + 2 := by simp
  generalize (w1.alloc (.cells #[.string s, .slice q ts.length c, .int .i64 0, .int .i64 0, .int .i64 0] 55)).alloc (.cells #[.int .u8 0, .string ⟨#[]⟩, .int .i64 0, .int .u8 0, .string ⟨#[]⟩, .string ⟨#[]⟩, .int .i64 0, .string ⟨#[]⟩, .slice none 0 0, .slice none 0 0, .int .i64 0, .int .u8 0, .string ⟨#[]⟩, .string ⟨#[]⟩, .int .i64 0, .string ⟨#[]⟩, .slice none 0 0] 33) = W3 at *
  clear HB1 HZ1 HRD HB HAL
  have HLE := Lib.hid (leads_any w1.heap.size (w1.heap.size + 1) W3)
  rw [hs3] at HLE
  simp only [Nat.add_assoc, Nat.reduceAdd] at HLE
  go_wp2_with fail
  refine HLE.out.mono ?_
  rintro e w4 ⟨rfl, hw4⟩
  have hb4 : Below W3.heap.size W3 w4 := by
    rw [hw4]
    exact (((Below.refl _ _).alloc (Nat.le_refl _) _).alloc (by simp) _).alloc (by simp; omega) _
  have HXR := Lib.hid (show Bk w4 (w1.heap.size + 2) 53 #[.pointer (some ⟨w1.heap.size, 0, none⟩)] from by
    rw [hw4, ← hs3]
    exact ((Bk.new W3 _ _).on (below1 _ _)).on (below1 _ _))
  have HXQ := Lib.hid (show Bk w4 (w1.heap.size + 3) 59 #[.pointer (some ⟨w1.heap.size + 1, 0, none⟩)] from by
    rw [hw4]
    have := (Bk.new (W3.alloc (.cells #[.pointer (some ⟨w1.heap.size, 0, none⟩)] 53)) 59 #[.pointer (some ⟨w1.heap.size + 1, 0, none⟩)]).on (below1 _ (.map (leadE5 (w1.heap.size + 3) (w1.heap.size + 2)) 5))
    simpa [hs3] using this)
  have HMP := Lib.hid (show w4.heap[w1.heap.size + 4]? = some (.map (leadE5 (w1.heap.size + 3) (w1.heap.size + 2)) 5) from by
    rw [hw4]
    have := heap_alloc_new ((W3.alloc (.cells #[.pointer (some ⟨w1.heap.size, 0, none⟩)] 53)).alloc (.cells #[.pointer (some ⟨w1.heap.size + 1, 0, none⟩)] 59)) (.map (leadE5 (w1.heap.size + 3) (w1.heap.size + 2)) 5)
    simpa [hs3] using this)
  have hs4 : w4.heap.size = w1.heap.size + 5 := by rw [hw4]; simp [hs3]
  clear hw4 HLE
  have HR4 := Lib.hid (HR3.out.on hb4)
  have HM4 := Lib.hid (HM3.out.on hb4)
  have HZ4 := Lib.hid (HZ3.out.on hb4)
  have HB4 := Lib.hid (HB3.out.trans (hb4.mono HB3.out.size))
  clear hb4 HR3 HM3 HZ3 HB3
  have HSP := Lib.hid (rspelt_any w4 w1.heap.size s q c ts 0 0 0 HR4.out)
  rw [hwd] at HSP
  clear hwd
  go_wp2_with fail
  refine HSP.out.mono ?_
  rintro e w5 ⟨rfl, hb5⟩
  have hlk := lookL w5 (w1.heap.size + 4) (w1.heap.size + 3) (w1.heap.size + 2) wdAssert ((hb5.block _ (by omega)).trans HMP.out)
  rw [leadOf_assert] at hlk
  have HR5 := Lib.hid (HR4.out.on hb5)
  have HM5 := Lib.hid (HM4.out.on hb5)
  have HZ5 := Lib.hid (HZ4.out.on hb5)
  have HX5 := Lib.hid (HXR.out.on hb5)
  have HY5 := Lib.hid (HXQ.out.on hb5)
  have HB5 := Lib.hid (HB4.out.trans (hb5.mono HB4.out.size))
  have hs5 : w1.heap.size + 5 ≤ w5.heap.size := hs4 ▸ hb5.size
  clear hb5 HR4 HM4 HZ4 HB4 HXR HXQ HMP HSP hs4
  unfold leadFn at hlk
  have c2 := HR5.out.c2
  have f2 := HR5.out.box.soft 2
  go_upto_region 9 with fail
  clear hlk c2 f2
  have HR6 := Lib.hid (HR5.out.set 1 (by omega))
  have hb6 : Below w1.heap.size w5 (w5.setCell ⟨w1.heap.size, 2, none⟩ (.int .i64 ((1 : Nat) : Int))) := (Below.refl _ _).setCell (p := ⟨w1.heap.size, 2, none⟩) (Nat.le_refl _) _
  have HZ6 := Lib.hid (HZ5.out.below hb6 (by omega))
  have HB6 := Lib.hid (HB5.out.trans (hb6.mono (by omega)))
  have HL6 := Lib.hid (show LD (w5.setCell ⟨w1.heap.size, 2, none⟩ (.int .i64 ((1 : Nat) : Int))) w1.heap.size (w1.heap.size + 1) (w1.heap.size + 2) (w1.heap.size + 3) s q c ts 1 0 0 (rqC 0 ⟨#[]⟩ 0 kpZ 0 lpZ) (w5.setCell ⟨w1.heap.size, 2, none⟩ (.int .i64 ((1 : Nat) : Int))) from ⟨HR6.out, HM5.out.other (by omega) 2 _, HX5.out.other (by omega) 2 _, HY5.out.other (by omega) 2 _, Two.refl _ _ _, ⟨by omega, by omega, by omega⟩⟩)
  have hs6 : w1.heap.size + 5 ≤ (w5.setCell ⟨w1.heap.size, 2, none⟩ (.int .i64 ((1 : Nat) : Int))).heap.size := by simpa [World.setCell] using hs5
  rw [show ((1 : Nat) : Int) = 1 from rfl] at HL6 HZ6 HB6 hs6
  clear HR6 HR5 HM5 HZ5 HX5 HY5 HB5 hb6 hs5
  generalize w5.setCell ⟨w1.heap.size, 2, none⟩ (.int .i64 1) = w6 at *
  have HC := Lib.hid (lead1_any HL6.out)
  unfold LeadPost at HC
  generalize assR s ts = R at *
  match R, HC with
  | .error (n, p), HC =>
    go_upto_region 11 with (go_at_call 43; refine HC.out.mono ?_; rintro e w7 ⟨rfl, hn0, k7, cs7, hld⟩; have HR7 := Lib.hid hld.r; have HT7 := Lib.hid hld.t; clear hld)
    have HZ7 := Lib.hid (HZ6.out.two HT7.out (by omega) (by omega))
    have HBW := Lib.hid (Two.belowAt HB6.out HT7.out (by omega) (by omega) (by omega))
    have c3 := HR7.out.c3
    have c4 := HR7.out.c4
    have hnn : (n != 0) = true := by rw [bne_iff_ne]; exact hn0
    go_upto_region 12 with fail
    have HZ8 := Lib.hid (HZ7.out.on (Below.refl w7.heap.size w7).drew)
    have HR8 := Lib.hid (HR7.out.on (Below.refl w7.heap.size w7).drew)
    have HB8 := Lib.hid ((HBW.out).drew)
    refine wp_region_held_drew (S := fun X => X.cell? ⟨w1.heap.size, 3, none⟩ = some (.int .i64 p) ∧ X.cell? ⟨w1.heap.size, 4, none⟩ = some (.int .i64 n)) (by kernel_rfl) ⟨c3, c4⟩ (fun hHeld => ?_)
    refine wpAnyH_take (i := 0) (v := ?_) rfl (by kernel_rfl) (by kernel_rfl) (by kernel_rfl) (fun _ _ _ h => h) (Or.inl ⟨by rfl, ?hy⟩) (by assumption) ?_
    case hy =>
      intro wx hSw
      obtain ⟨q0, q1⟩ := hSw
      go_simp
      all_goals with_reducible rfl
    (try simp only [Act.put, List.getElem_toArray, List.getElem_cons_succ, List.getElem_cons_zero, List.setIfInBounds_toArray, List.set_cons_zero, List.set_cons_succ])
    refine wpAnyH_take (i := 1) (v := ?_) rfl (by kernel_rfl) (by kernel_rfl) (by kernel_rfl) (fun _ _ _ h => h) (Or.inl ⟨by rfl, ?hy⟩) (by assumption) ?_
    case hy =>
      intro wx hSw
      obtain ⟨q0, q1⟩ := hSw
      go_simp
      all_goals with_reducible rfl
    (try simp only [Act.put, List.getElem_toArray, List.getElem_cons_succ, List.getElem_cons_zero, List.setIfInBounds_toArray, List.set_cons_zero, List.set_cons_succ])
    refine wpAnyH_take (i := 2) (v := ?_) rfl (by kernel_rfl) (by kernel_rfl) (by kernel_rfl) (fun _ _ _ h => h) (Or.inl ⟨by rfl, ?hy⟩) (by assumption) ?_
    case hy =>
      intro wx hSw
      obtain ⟨q0, q1⟩ := hSw
      go_simp
      all_goals with_reducible rfl
    (try simp only [Act.put, List.getElem_toArray, List.getElem_cons_succ, List.getElem_cons_zero, List.setIfInBounds_toArray, List.set_cons_zero, List.set_cons_succ])
    refine wpAnyH_take (i := 3) (v := ?_) rfl (by kernel_rfl) (by kernel_rfl) (by kernel_rfl) (fun _ _ _ h => h) (Or.inl ⟨by rfl, ?hy⟩) (by assumption) ?_
    case hy =>
      intro wx hSw
      obtain ⟨q0, q1⟩ := hSw
      go_simp
      all_goals with_reducible rfl
    (try simp only [Act.put, List.getElem_toArray, List.getElem_cons_succ, List.getElem_cons_zero, List.setIfInBounds_toArray, List.set_cons_zero, List.set_cons_succ])
    refine wpAnyH_take (i := 4) (v := ?_) rfl (by kernel_rfl) (by kernel_rfl) (by kernel_rfl) (fun _ _ _ h => h) (Or.inl ⟨by rfl, ?hy⟩) (by assumption) ?_
    case hy =>
      intro wx hSw
      obtain ⟨q0, q1⟩ := hSw
      go_simp
      all_goals with_reducible rfl
    (try simp only [Act.put, List.getElem_toArray, List.getElem_cons_succ, List.getElem_cons_zero, List.setIfInBounds_toArray, List.set_cons_zero, List.set_cons_succ])
    refine wpAnyH_take (i := 5) (v := ?_) rfl (by kernel_rfl) (by kernel_rfl) (by kernel_rfl) (fun _ _ _ h => h) (Or.inl ⟨by rfl, ?hy⟩) (by assumption) ?_
    case hy =>
      intro wx hSw
      obtain ⟨q0, q1⟩ := hSw
      go_simp
      all_goals with_reducible rfl
    (try simp only [Act.put, List.getElem_toArray, List.getElem_cons_succ, List.getElem_cons_zero, List.setIfInBounds_toArray, List.set_cons_zero, List.set_cons_succ])
    refine wpAnyH_take (i := 6) (v := ?_) rfl (by kernel_rfl) (by kernel_rfl) (by kernel_rfl) (fun _ _ _ h => h) (Or.inl ⟨by rfl, ?hy⟩) (by assumption) ?_
    case hy =>
      intro wx hSw
      obtain ⟨q0, q1⟩ := hSw
      go_simp
      all_goals with_reducible rfl
    (try simp only [Act.put, List.getElem_toArray, List.getElem_cons_succ, List.getElem_cons_zero, List.setIfInBounds_toArray, List.set_cons_zero, List.set_cons_succ])
    refine wpAnyH_take (i := 7) (v := ?_) rfl (by kernel_rfl) (by kernel_rfl) (by kernel_rfl) (fun _ _ _ h => h) (Or.inl ⟨by rfl, ?hy⟩) (by assumption) ?_
    case hy =>
      intro wx hSw
      obtain ⟨q0, q1⟩ := hSw
      go_simp
      all_goals with_reducible rfl
    (try simp only [Act.put, List.getElem_toArray, List.getElem_cons_succ, List.getElem_cons_zero, List.setIfInBounds_toArray, List.set_cons_zero, List.set_cons_succ])
    refine wpAnyH_take (i := 8) (v := ?_) rfl (by kernel_rfl) (by kernel_rfl) (by kernel_rfl) (fun _ _ _ h => h) (Or.inl ⟨by rfl, ?hy⟩) (by assumption) ?_
    case hy =>
      intro wx hSw
      obtain ⟨q0, q1⟩ := hSw
      go_simp
      all_goals with_reducible rfl
    (try simp only [Act.put, List.getElem_toArray, List.getElem_cons_succ, List.getElem_cons_zero, List.setIfInBounds_toArray, List.set_cons_zero, List.set_cons_succ])
    refine wpAnyH_ready (rs := [9]) (by kernel_rfl) (by simp) ?_
    refine AllReadyH.cons rfl (fun K hK => ?_) AllReadyH.nil
    rw [if_pos (by rfl)]
    refine wp_store_mid 33 (.tmp 2) (.tmp 54) rfl w.heap.size 0 (rqC 0 ⟨#[]⟩ 0 kpZ 0 lpZ) rfl rfl HZ8.out.there (by rw [sizeReq]; rfl) (rqC_one _ _ _ _ _ _) ?_
    have HB9 := Lib.hid (HB8.out.trans (below_setCells (rqC 0 ⟨#[]⟩ 0 kpZ 0 lpZ).toList w.heap.size 0 w7.drew (Nat.le_refl _)))
    have HR9 := Lib.hid (HR8.out.box.apart (show w1.heap.size ≠ w.heap.size by omega) (rqC 0 ⟨#[]⟩ 0 kpZ 0 lpZ).toList)
    have HZ9 := Lib.hid (HZ8.out.setAll 0 ⟨#[]⟩ 0 kpZ 0 lpZ ⟨_, _, _, kpZ, _, lpZ, rfl⟩)
    generalize w7.drew.setCells w.heap.size 0 (rqC 0 ⟨#[]⟩ 0 kpZ 0 lpZ).toList = w9 at *
    refine hK.out _ _ (⟨HR9.out.cell 3 _ rfl, HR9.out.cell 4 _ rfl⟩) (fun hHeld => ?_)
    clear hK K
    (try simp only [Act.put, List.getElem_toArray, List.getElem_cons_succ, List.getElem_cons_zero, List.setIfInBounds_toArray, List.set_cons_zero, List.set_cons_succ])
    refine wpAnyH_take (i := 10) (v := ?_) rfl (by kernel_rfl) (by kernel_rfl) (by kernel_rfl) (fun _ _ _ h => h) (Or.inl ⟨by rfl, ?hy⟩) (by assumption) ?_
    case hy =>
      intro wx hSw
      obtain ⟨q0, q1⟩ := hSw
      go_simp
      all_goals with_reducible rfl
    (try simp only [Act.put, List.getElem_toArray, List.getElem_cons_succ, List.getElem_cons_zero, List.setIfInBounds_toArray, List.set_cons_zero, List.set_cons_succ])
    refine wpAnyH_take (i := 11) (v := ?_) rfl (by kernel_rfl) (by kernel_rfl) (by kernel_rfl) (fun _ _ _ h => h) (Or.inl ⟨by rfl, ?hy⟩) (by assumption) ?_
    case hy =>
      intro wx hSw
      obtain ⟨q0, q1⟩ := hSw
      go_simp
      all_goals with_reducible rfl
    (try simp only [Act.put, List.getElem_toArray, List.getElem_cons_succ, List.getElem_cons_zero, List.setIfInBounds_toArray, List.set_cons_zero, List.set_cons_succ])
    refine wpAnyH_done (by kernel_rfl) ?_ _
    go_wp2_with fail
    refine bodyPost_ret (results_req rfl _ _ w.heap.size 0 ⟨#[]⟩ 0 kpZ 0 lpZ rfl HZ9.out) rfl ?_
    exact ⟨rfl, HB9.out⟩
  | .ok r, HC =>
    go_upto_region 11 with (go_at_call 43; refine HC.out.mono ?_; rintro e w7 ⟨rfl, k7, cs7, hld, hrm⟩; have HR7 := Lib.hid hld.r; have HT7 := Lib.hid hld.t; have HM7 := Lib.hid hld.m; clear hld)
    have HZ7 := Lib.hid (HZ6.out.two HT7.out (by omega) (by omega))
    have HBW := Lib.hid (Two.belowAt HB6.out HT7.out (by omega) (by omega) (by omega))
    obtain ⟨kd, lb, lf, cl, no, lp, rfl⟩ := hrm.form
    have HRM := Lib.hid hrm
    clear hrm
    have c4 := HR7.out.c4
    obtain ⟨d9, hu9, hd9⟩ := rowReq
    go_upto_region 13 with fail
    refine wp_region_list (show wpList _ _ _ (_ :: _ :: _) _ _ from ?_)
    refine wpList_load_mid rfl 33 (.tmp 9) rfl (w1.heap.size + 1) 0 rfl (rqC kd lb lf cl no lp).toList d9 HM7.out.range hu9 hd9 (by rw [sizeReq]; rfl) ?_
    refine wpList_store_mid rfl 33 (.tmp 2) (.tmp 63) rfl w.heap.size 0 (rqC kd lb lf cl no lp) rfl rfl HZ7.out.there (by rw [sizeReq]; rfl) (rqC_one _ _ _ _ _ _) ?_
    have HB8 := Lib.hid (HBW.out.trans (below_setCells (rqC kd lb lf cl no lp).toList w.heap.size 0 w7 (Nat.le_refl _)))
    have HZ8 := Lib.hid (HZ7.out.setAll kd lb lf cl no lp ⟨_, _, _, kpZ, _, lpZ, rfl⟩)
    have HR8 := Lib.hid ((HRM.out.above (above_setCells (Above.refl (w.heap.size + 1) w7) (Nat.lt_succ_self _) (rqC kd lb lf cl no lp).toList) (by omega) (below_setCells (B := w.heap.size) (rqC kd lb lf cl no lp).toList w.heap.size 0 w7 (Nat.le_refl _)).size).mono (show w.heap.size ≤ w6.heap.size by omega))
    generalize w7.setCells w.heap.size 0 (rqC kd lb lf cl no lp).toList = w9 at *
    go_wp2_with fail
    refine bodyPost_ret (results_req rfl _ _ w.heap.size kd lb lf cl no lp rfl HZ8.out) rfl ?_
    exact ⟨_, rfl, HR8.out, HB8.out⟩
set_option maxHeartbeats 16000000 in
set_option maxRecDepth 100000 in
theorem reqparse_revoke (s : ByteArray) (w : World) (hm : s.size ≤ 140737488351232) (he : Env w) (hx : (allL s.data.toList).err = 0) (hwd : textAt s (allL s.data.toList).toks 0 = wdRevoke) :
    Calls Tryz.prog 7 #[.string s] w (ReqPost w (revR s (allL s.data.toList).toks)) := by
  have HB := Lib.hid (below1 w)
  have HAL := Lib.hid (fun X (hX : Below w.heap.size w X) => all_any s X hm (he.on hX))
  unfold AllPost at HAL
  have hsr := (toks_of s hx).src
  rw [hx] at HAL
  generalize (allL s.data.toList).pl = pl at *
  generalize (allL s.data.toList).toks = ts at *
  have HEN := Lib.hid (fun X (hX : Below w.heap.size w X) => he.on hX)
  have HSR := Lib.hid hsr
  have hlt : 0 < ts.length := text_lt hwd (by decide +kernel)
  have hll := hsr.len
  clear he hx hm hsr
  go_enter Tryz.func7, Tryz.ntmps7
  go_upto_region 4 with (go_at_call 15; refine (HAL.out _ (HB.out _)).mono ?_; rintro e w1 ⟨v1, rfl, ht1, hb1⟩; have HB1 := Lib.hid ((HB.out _).trans (hb1.mono (HB.out _).size)); have HZ1 := Lib.hid ((Bk.new w _ _).on hb1); have HT1 := Lib.hid ht1; have hs1 : w.heap.size + 1 ≤ w1.heap.size := (by simpa using hb1.size); clear hb1 ht1)
  obtain ⟨q, c, rfl, hrd⟩ := tokrow_rd HT1.out
  have HRD := Lib.hid hrd
  clear hrd HT1
  go_upto_region 6 with fail
  have HR3 := Lib.hid (show Rb ((w1.alloc (.cells #[.string s, .slice q ts.length c, .int .i64 0, .int .i64 0, .int .i64 0] 55)).alloc (.cells #[.int .u8 0, .string ⟨#[]⟩, .int .i64 0, .int .u8 0, .string ⟨#[]⟩, .string ⟨#[]⟩, .int .i64 0, .string ⟨#[]⟩, .slice none 0 0, .slice none 0 0, .int .i64 0, .int .u8 0, .string ⟨#[]⟩, .string ⟨#[]⟩, .int .i64 0, .string ⟨#[]⟩, .slice none 0 0] 33)) w1.heap.size s q c ts 0 0 0 from ⟨(Bk.new w1 _ _).on (below1 _ _), (HRD.out.below (below1 w1 _) (Nat.le_refl _)).below (below1 _ _) (by simp), Nat.zero_le _, HSR.out, fun w' hb => HEN.out _ (((HB1.out.trans ((below1 w1 _).mono HB1.out.size)).trans ((below1 _ _).mono (by simp; omega))).trans (hb.mono (by omega)))⟩)
  have HM3 := Lib.hid (show Bk ((w1.alloc (.cells #[.string s, .slice q ts.length c, .int .i64 0, .int .i64 0, .int .i64 0] 55)).alloc (.cells #[.int .u8 0, .string ⟨#[]⟩, .int .i64 0, .int .u8 0, .string ⟨#[]⟩, .string ⟨#[]⟩, .int .i64 0, .string ⟨#[]⟩, .slice none 0 0, .slice none 0 0, .int .i64 0, .int .u8 0, .string ⟨#[]⟩, .string ⟨#[]⟩, .int .i64 0, .string ⟨#[]⟩, .slice none 0 0] 33)) (w1.heap.size + 1) 33 #[.int .u8 0, .string ⟨#[]⟩, .int .i64 0, .int .u8 0, .string ⟨#[]⟩, .string ⟨#[]⟩, .int .i64 0, .string ⟨#[]⟩, .slice none 0 0, .slice none 0 0, .int .i64 0, .int .u8 0, .string ⟨#[]⟩, .string ⟨#[]⟩, .int .i64 0, .string ⟨#[]⟩, .slice none 0 0] from (by simpa using Bk.new (w1.alloc (.cells #[.string s, .slice q ts.length c, .int .i64 0, .int .i64 0, .int .i64 0] 55)) 33 #[.int .u8 0, .string ⟨#[]⟩, .int .i64 0, .int .u8 0, .string ⟨#[]⟩, .string ⟨#[]⟩, .int .i64 0, .string ⟨#[]⟩, .slice none 0 0, .slice none 0 0, .int .i64 0, .int .u8 0, .string ⟨#[]⟩, .string ⟨#[]⟩, .int .i64 0, .string ⟨#[]⟩, .slice none 0 0]))
  have HZ3 := Lib.hid ((HZ1.out.on (below1 w1 (.cells #[.string s, .slice q ts.length c, .int .i64 0, .int .i64 0, .int .i64 0] 55))).on (below1 _ (.cells #[.int .u8 0, .string ⟨#[]⟩, .int .i64 0, .int .u8 0, .string ⟨#[]⟩, .string ⟨#[]⟩, .int .i64 0, .string ⟨#[]⟩, .slice none 0 0, .slice none 0 0, .int .i64 0, .int .u8 0, .string ⟨#[]⟩, .string ⟨#[]⟩, .int .i64 0, .string ⟨#[]⟩, .slice none 0 0] 33)))
  have HB3 := Lib.hid ((HB1.out.trans ((below1 w1 (.cells #[.string s, .slice q ts.length c, .int .i64 0, .int .i64 0, .int .i64 0] 55)).mono HB1.out.size)).trans ((below1 _ (.cells #[.int .u8 0, .string ⟨#[]⟩, .int .i64 0, .int .u8 0, .string ⟨#[]⟩, .string ⟨#[]⟩, .int .i64 0, .string ⟨#[]⟩, .slice none 0 0, .slice none 0 0, .int .i64 0, .int .u8 0, .string ⟨#[]⟩, .string ⟨#[]⟩, .int .i64 0, .string ⟨#[]⟩, .slice none 0 0] 33)).mono (by simp; omega)))
  have hs3 : ((w1.alloc (.cells #[.string s, .slice q ts.length c, .int .i64 0, .int .i64 0, .int .i64 0] 55)).alloc (.cells #[.int .u8 0, .string ⟨#[]⟩, .int .i64 0, .int .u8 0, .string ⟨#[]⟩, .string ⟨#[]⟩, .int .i64 0, .string ⟨#[]⟩, .slice none 0 0, .slice none 0 0, .int .i64 0, .int .u8 0, .string ⟨#[]⟩, .string ⟨#[]⟩, .int .i64 0, .string ⟨#[]⟩, .slice none 0 0] 33)).heap.size = w1.heap.size + 2 := by simp
  generalize (w1.alloc (.cells #[.string s, .slice q ts.length c, .int .i64 0, .int .i64 0, .int .i64 0] 55)).alloc (.cells #[.int .u8 0, .string ⟨#[]⟩, .int .i64 0, .int .u8 0, .string ⟨#[]⟩, .string ⟨#[]⟩, .int .i64 0, .string ⟨#[]⟩, .slice none 0 0, .slice none 0 0, .int .i64 0, .int .u8 0, .string ⟨#[]⟩, .string ⟨#[]⟩, .int .i64 0, .string ⟨#[]⟩, .slice none 0 0] 33) = W3 at *
  clear HB1 HZ1 HRD HB HAL
  have HLE := Lib.hid (leads_any w1.heap.size (w1.heap.size + 1) W3)
  rw [hs3] at HLE
  simp only [Nat.add_assoc, Nat.reduceAdd] at HLE
  go_wp2_with fail
  refine HLE.out.mono ?_
  rintro e w4 ⟨rfl, hw4⟩
  have hb4 : Below W3.heap.size W3 w4 := by
    rw [hw4]
    exact (((Below.refl _ _).alloc (Nat.le_refl _) _).alloc (by simp) _).alloc (by simp; omega) _
  have HXR := Lib.hid (show Bk w4 (w1.heap.size + 2) 53 #[.pointer (some ⟨w1.heap.size, 0, none⟩)] from by
    rw [hw4, ← hs3]
    exact ((Bk.new W3 _ _).on (below1 _ _)).on (below1 _ _))
  have HXQ := Lib.hid (show Bk w4 (w1.heap.size + 3) 59 #[.pointer (some ⟨w1.heap.size + 1, 0, none⟩)] from by
    rw [hw4]
    have := (Bk.new (W3.alloc (.cells #[.pointer (some ⟨w1.heap.size, 0, none⟩)] 53)) 59 #[.pointer (some ⟨w1.heap.size + 1, 0, none⟩)]).on (below1 _ (.map (leadE5 (w1.heap.size + 3) (w1.heap.size + 2)) 5))
    simpa [hs3] using this)
  have HMP := Lib.hid (show w4.heap[w1.heap.size + 4]? = some (.map (leadE5 (w1.heap.size + 3) (w1.heap.size + 2)) 5) from by
    rw [hw4]
    have := heap_alloc_new ((W3.alloc (.cells #[.pointer (some ⟨w1.heap.size, 0, none⟩)] 53)).alloc (.cells #[.pointer (some ⟨w1.heap.size + 1, 0, none⟩)] 59)) (.map (leadE5 (w1.heap.size + 3) (w1.heap.size + 2)) 5)
    simpa [hs3] using this)
  have hs4 : w4.heap.size = w1.heap.size + 5 := by rw [hw4]; simp [hs3]
  clear hw4 HLE
  have HR4 := Lib.hid (HR3.out.on hb4)
  have HM4 := Lib.hid (HM3.out.on hb4)
  have HZ4 := Lib.hid (HZ3.out.on hb4)
  have HB4 := Lib.hid (HB3.out.trans (hb4.mono HB3.out.size))
  clear hb4 HR3 HM3 HZ3 HB3
  have HSP := Lib.hid (rspelt_any w4 w1.heap.size s q c ts 0 0 0 HR4.out)
  rw [hwd] at HSP
  clear hwd
  go_wp2_with fail
  refine HSP.out.mono ?_
  rintro e w5 ⟨rfl, hb5⟩
  have hlk := lookL w5 (w1.heap.size + 4) (w1.heap.size + 3) (w1.heap.size + 2) wdRevoke ((hb5.block _ (by omega)).trans HMP.out)
  rw [leadOf_revoke] at hlk
  have HR5 := Lib.hid (HR4.out.on hb5)
  have HM5 := Lib.hid (HM4.out.on hb5)
  have HZ5 := Lib.hid (HZ4.out.on hb5)
  have HX5 := Lib.hid (HXR.out.on hb5)
  have HY5 := Lib.hid (HXQ.out.on hb5)
  have HB5 := Lib.hid (HB4.out.trans (hb5.mono HB4.out.size))
  have hs5 : w1.heap.size + 5 ≤ w5.heap.size := hs4 ▸ hb5.size
  clear hb5 HR4 HM4 HZ4 HB4 HXR HXQ HMP HSP hs4
  unfold leadFn at hlk
  have c2 := HR5.out.c2
  have f2 := HR5.out.box.soft 2
  go_upto_region 9 with fail
  clear hlk c2 f2
  have HR6 := Lib.hid (HR5.out.set 1 (by omega))
  have hb6 : Below w1.heap.size w5 (w5.setCell ⟨w1.heap.size, 2, none⟩ (.int .i64 ((1 : Nat) : Int))) := (Below.refl _ _).setCell (p := ⟨w1.heap.size, 2, none⟩) (Nat.le_refl _) _
  have HZ6 := Lib.hid (HZ5.out.below hb6 (by omega))
  have HB6 := Lib.hid (HB5.out.trans (hb6.mono (by omega)))
  have HL6 := Lib.hid (show LD (w5.setCell ⟨w1.heap.size, 2, none⟩ (.int .i64 ((1 : Nat) : Int))) w1.heap.size (w1.heap.size + 1) (w1.heap.size + 2) (w1.heap.size + 3) s q c ts 1 0 0 (rqC 0 ⟨#[]⟩ 0 kpZ 0 lpZ) (w5.setCell ⟨w1.heap.size, 2, none⟩ (.int .i64 ((1 : Nat) : Int))) from ⟨HR6.out, HM5.out.other (by omega) 2 _, HX5.out.other (by omega) 2 _, HY5.out.other (by omega) 2 _, Two.refl _ _ _, ⟨by omega, by omega, by omega⟩⟩)
  have hs6 : w1.heap.size + 5 ≤ (w5.setCell ⟨w1.heap.size, 2, none⟩ (.int .i64 ((1 : Nat) : Int))).heap.size := by simpa [World.setCell] using hs5
  rw [show ((1 : Nat) : Int) = 1 from rfl] at HL6 HZ6 HB6 hs6
  clear HR6 HR5 HM5 HZ5 HX5 HY5 HB5 hb6 hs5
  generalize w5.setCell ⟨w1.heap.size, 2, none⟩ (.int .i64 1) = w6 at *
  have HC := Lib.hid (lead2_any HL6.out)
  unfold LeadPost at HC
  generalize revR s ts = R at *
  match R, HC with
  | .error (n, p), HC =>
    go_upto_region 11 with (go_at_call 48; refine HC.out.mono ?_; rintro e w7 ⟨rfl, hn0, k7, cs7, hld⟩; have HR7 := Lib.hid hld.r; have HT7 := Lib.hid hld.t; clear hld)
    have HZ7 := Lib.hid (HZ6.out.two HT7.out (by omega) (by omega))
    have HBW := Lib.hid (Two.belowAt HB6.out HT7.out (by omega) (by omega) (by omega))
    have c3 := HR7.out.c3
    have c4 := HR7.out.c4
    have hnn : (n != 0) = true := by rw [bne_iff_ne]; exact hn0
    go_upto_region 12 with fail
    have HZ8 := Lib.hid (HZ7.out.on (Below.refl w7.heap.size w7).drew)
    have HR8 := Lib.hid (HR7.out.on (Below.refl w7.heap.size w7).drew)
    have HB8 := Lib.hid ((HBW.out).drew)
    refine wp_region_held_drew (S := fun X => X.cell? ⟨w1.heap.size, 3, none⟩ = some (.int .i64 p) ∧ X.cell? ⟨w1.heap.size, 4, none⟩ = some (.int .i64 n)) (by kernel_rfl) ⟨c3, c4⟩ (fun hHeld => ?_)
    refine wpAnyH_take (i := 0) (v := ?_) rfl (by kernel_rfl) (by kernel_rfl) (by kernel_rfl) (fun _ _ _ h => h) (Or.inl ⟨by rfl, ?hy⟩) (by assumption) ?_
    case hy =>
      intro wx hSw
      obtain ⟨q0, q1⟩ := hSw
      go_simp
      all_goals with_reducible rfl
    (try simp only [Act.put, List.getElem_toArray, List.getElem_cons_succ, List.getElem_cons_zero, List.setIfInBounds_toArray, List.set_cons_zero, List.set_cons_succ])
    refine wpAnyH_take (i := 1) (v := ?_) rfl (by kernel_rfl) (by kernel_rfl) (by kernel_rfl) (fun _ _ _ h => h) (Or.inl ⟨by rfl, ?hy⟩) (by assumption) ?_
    case hy =>
      intro wx hSw
      obtain ⟨q0, q1⟩ := hSw
      go_simp
      all_goals with_reducible rfl
    (try simp only [Act.put, List.getElem_toArray, List.getElem_cons_succ, List.getElem_cons_zero, List.setIfInBounds_toArray, List.set_cons_zero, List.set_cons_succ])
    refine wpAnyH_take (i := 2) (v := ?_) rfl (by kernel_rfl) (by kernel_rfl) (by kernel_rfl) (fun _ _ _ h => h) (Or.inl ⟨by rfl, ?hy⟩) (by assumption) ?_
    case hy =>
      intro wx hSw
      obtain ⟨q0, q1⟩ := hSw
      go_simp
      all_goals with_reducible rfl
    (try simp only [Act.put, List.getElem_toArray, List.getElem_cons_succ, List.getElem_cons_zero, List.setIfInBounds_toArray, List.set_cons_zero, List.set_cons_succ])
    refine wpAnyH_take (i := 3) (v := ?_) rfl (by kernel_rfl) (by kernel_rfl) (by kernel_rfl) (fun _ _ _ h => h) (Or.inl ⟨by rfl, ?hy⟩) (by assumption) ?_
    case hy =>
      intro wx hSw
      obtain ⟨q0, q1⟩ := hSw
      go_simp
      all_goals with_reducible rfl
    (try simp only [Act.put, List.getElem_toArray, List.getElem_cons_succ, List.getElem_cons_zero, List.setIfInBounds_toArray, List.set_cons_zero, List.set_cons_succ])
    refine wpAnyH_take (i := 4) (v := ?_) rfl (by kernel_rfl) (by kernel_rfl) (by kernel_rfl) (fun _ _ _ h => h) (Or.inl ⟨by rfl, ?hy⟩) (by assumption) ?_
    case hy =>
      intro wx hSw
      obtain ⟨q0, q1⟩ := hSw
      go_simp
      all_goals with_reducible rfl
    (try simp only [Act.put, List.getElem_toArray, List.getElem_cons_succ, List.getElem_cons_zero, List.setIfInBounds_toArray, List.set_cons_zero, List.set_cons_succ])
    refine wpAnyH_take (i := 5) (v := ?_) rfl (by kernel_rfl) (by kernel_rfl) (by kernel_rfl) (fun _ _ _ h => h) (Or.inl ⟨by rfl, ?hy⟩) (by assumption) ?_
    case hy =>
      intro wx hSw
      obtain ⟨q0, q1⟩ := hSw
      go_simp
      all_goals with_reducible rfl
    (try simp only [Act.put, List.getElem_toArray, List.getElem_cons_succ, List.getElem_cons_zero, List.setIfInBounds_toArray, List.set_cons_zero, List.set_cons_succ])
    refine wpAnyH_take (i := 6) (v := ?_) rfl (by kernel_rfl) (by kernel_rfl) (by kernel_rfl) (fun _ _ _ h => h) (Or.inl ⟨by rfl, ?hy⟩) (by assumption) ?_
    case hy =>
      intro wx hSw
      obtain ⟨q0, q1⟩ := hSw
      go_simp
      all_goals with_reducible rfl
    (try simp only [Act.put, List.getElem_toArray, List.getElem_cons_succ, List.getElem_cons_zero, List.setIfInBounds_toArray, List.set_cons_zero, List.set_cons_succ])
    refine wpAnyH_take (i := 7) (v := ?_) rfl (by kernel_rfl) (by kernel_rfl) (by kernel_rfl) (fun _ _ _ h => h) (Or.inl ⟨by rfl, ?hy⟩) (by assumption) ?_
    case hy =>
      intro wx hSw
      obtain ⟨q0, q1⟩ := hSw
      go_simp
      all_goals with_reducible rfl
    (try simp only [Act.put, List.getElem_toArray, List.getElem_cons_succ, List.getElem_cons_zero, List.setIfInBounds_toArray, List.set_cons_zero, List.set_cons_succ])
    refine wpAnyH_take (i := 8) (v := ?_) rfl (by kernel_rfl) (by kernel_rfl) (by kernel_rfl) (fun _ _ _ h => h) (Or.inl ⟨by rfl, ?hy⟩) (by assumption) ?_
    case hy =>
      intro wx hSw
      obtain ⟨q0, q1⟩ := hSw
      go_simp
      all_goals with_reducible rfl
    (try simp only [Act.put, List.getElem_toArray, List.getElem_cons_succ, List.getElem_cons_zero, List.setIfInBounds_toArray, List.set_cons_zero, List.set_cons_succ])
    refine wpAnyH_ready (rs := [9]) (by kernel_rfl) (by simp) ?_
    refine AllReadyH.cons rfl (fun K hK => ?_) AllReadyH.nil
    rw [if_pos (by rfl)]
    refine wp_store_mid 33 (.tmp 2) (.tmp 54) rfl w.heap.size 0 (rqC 0 ⟨#[]⟩ 0 kpZ 0 lpZ) rfl rfl HZ8.out.there (by rw [sizeReq]; rfl) (rqC_one _ _ _ _ _ _) ?_
    have HB9 := Lib.hid (HB8.out.trans (below_setCells (rqC 0 ⟨#[]⟩ 0 kpZ 0 lpZ).toList w.heap.size 0 w7.drew (Nat.le_refl _)))
    have HR9 := Lib.hid (HR8.out.box.apart (show w1.heap.size ≠ w.heap.size by omega) (rqC 0 ⟨#[]⟩ 0 kpZ 0 lpZ).toList)
    have HZ9 := Lib.hid (HZ8.out.setAll 0 ⟨#[]⟩ 0 kpZ 0 lpZ ⟨_, _, _, kpZ, _, lpZ, rfl⟩)
    generalize w7.drew.setCells w.heap.size 0 (rqC 0 ⟨#[]⟩ 0 kpZ 0 lpZ).toList = w9 at *
    refine hK.out _ _ (⟨HR9.out.cell 3 _ rfl, HR9.out.cell 4 _ rfl⟩) (fun hHeld => ?_)
    clear hK K
    (try simp only [Act.put, List.getElem_toArray, List.getElem_cons_succ, List.getElem_cons_zero, List.setIfInBounds_toArray, List.set_cons_zero, List.set_cons_succ])
    refine wpAnyH_take (i := 10) (v := ?_) rfl (by kernel_rfl) (by kernel_rfl) (by kernel_rfl) (fun _ _ _ h => h) (Or.inl ⟨by rfl, ?hy⟩) (by assumption) ?_
    case hy =>
      intro wx hSw
      obtain ⟨q0, q1⟩ := hSw
      go_simp
      all_goals with_reducible rfl
    (try simp only [Act.put, List.getElem_toArray, List.getElem_cons_succ, List.getElem_cons_zero, List.setIfInBounds_toArray, List.set_cons_zero, List.set_cons_succ])
    refine wpAnyH_take (i := 11) (v := ?_) rfl (by kernel_rfl) (by kernel_rfl) (by kernel_rfl) (fun _ _ _ h => h) (Or.inl ⟨by rfl, ?hy⟩) (by assumption) ?_
    case hy =>
      intro wx hSw
      obtain ⟨q0, q1⟩ := hSw
      go_simp
      all_goals with_reducible rfl
    (try simp only [Act.put, List.getElem_toArray, List.getElem_cons_succ, List.getElem_cons_zero, List.setIfInBounds_toArray, List.set_cons_zero, List.set_cons_succ])
    refine wpAnyH_done (by kernel_rfl) ?_ _
    go_wp2_with fail
    refine bodyPost_ret (results_req rfl _ _ w.heap.size 0 ⟨#[]⟩ 0 kpZ 0 lpZ rfl HZ9.out) rfl ?_
    exact ⟨rfl, HB9.out⟩
  | .ok r, HC =>
    go_upto_region 11 with (go_at_call 48; refine HC.out.mono ?_; rintro e w7 ⟨rfl, k7, cs7, hld, hrm⟩; have HR7 := Lib.hid hld.r; have HT7 := Lib.hid hld.t; have HM7 := Lib.hid hld.m; clear hld)
    have HZ7 := Lib.hid (HZ6.out.two HT7.out (by omega) (by omega))
    have HBW := Lib.hid (Two.belowAt HB6.out HT7.out (by omega) (by omega) (by omega))
    obtain ⟨kd, lb, lf, cl, no, lp, rfl⟩ := hrm.form
    have HRM := Lib.hid hrm
    clear hrm
    have c4 := HR7.out.c4
    obtain ⟨d9, hu9, hd9⟩ := rowReq
    go_upto_region 13 with fail
    refine wp_region_list (show wpList _ _ _ (_ :: _ :: _) _ _ from ?_)
    refine wpList_load_mid rfl 33 (.tmp 9) rfl (w1.heap.size + 1) 0 rfl (rqC kd lb lf cl no lp).toList d9 HM7.out.range hu9 hd9 (by rw [sizeReq]; rfl) ?_
    refine wpList_store_mid rfl 33 (.tmp 2) (.tmp 63) rfl w.heap.size 0 (rqC kd lb lf cl no lp) rfl rfl HZ7.out.there (by rw [sizeReq]; rfl) (rqC_one _ _ _ _ _ _) ?_
    have HB8 := Lib.hid (HBW.out.trans (below_setCells (rqC kd lb lf cl no lp).toList w.heap.size 0 w7 (Nat.le_refl _)))
    have HZ8 := Lib.hid (HZ7.out.setAll kd lb lf cl no lp ⟨_, _, _, kpZ, _, lpZ, rfl⟩)
    have HR8 := Lib.hid ((HRM.out.above (above_setCells (Above.refl (w.heap.size + 1) w7) (Nat.lt_succ_self _) (rqC kd lb lf cl no lp).toList) (by omega) (below_setCells (B := w.heap.size) (rqC kd lb lf cl no lp).toList w.heap.size 0 w7 (Nat.le_refl _)).size).mono (show w.heap.size ≤ w6.heap.size by omega))
    generalize w7.setCells w.heap.size 0 (rqC kd lb lf cl no lp).toList = w9 at *
    go_wp2_with fail
    refine bodyPost_ret (results_req rfl _ _ w.heap.size kd lb lf cl no lp rfl HZ8.out) rfl ?_
    exact ⟨_, rfl, HR8.out, HB8.out⟩
set_option maxHeartbeats 16000000 in
set_option maxRecDepth 100000 in
theorem reqparse_query (s : ByteArray) (w : World) (hm : s.size ≤ 140737488351232) (he : Env w) (hx : (allL s.data.toList).err = 0) (hwd : textAt s (allL s.data.toList).toks 0 = wdQuery) :
    Calls Tryz.prog 7 #[.string s] w (ReqPost w (askR 3 s (allL s.data.toList).toks)) := by
  have HB := Lib.hid (below1 w)
  have HAL := Lib.hid (fun X (hX : Below w.heap.size w X) => all_any s X hm (he.on hX))
  unfold AllPost at HAL
  have hsr := (toks_of s hx).src
  rw [hx] at HAL
  generalize (allL s.data.toList).pl = pl at *
  generalize (allL s.data.toList).toks = ts at *
  have HEN := Lib.hid (fun X (hX : Below w.heap.size w X) => he.on hX)
  have HSR := Lib.hid hsr
  have hlt : 0 < ts.length := text_lt hwd (by decide +kernel)
  have hll := hsr.len
  clear he hx hm hsr
  go_enter Tryz.func7, Tryz.ntmps7
  go_upto_region 4 with (go_at_call 15; refine (HAL.out _ (HB.out _)).mono ?_; rintro e w1 ⟨v1, rfl, ht1, hb1⟩; have HB1 := Lib.hid ((HB.out _).trans (hb1.mono (HB.out _).size)); have HZ1 := Lib.hid ((Bk.new w _ _).on hb1); have HT1 := Lib.hid ht1; have hs1 : w.heap.size + 1 ≤ w1.heap.size := (by simpa using hb1.size); clear hb1 ht1)
  obtain ⟨q, c, rfl, hrd⟩ := tokrow_rd HT1.out
  have HRD := Lib.hid hrd
  clear hrd HT1
  go_upto_region 6 with fail
  have HR3 := Lib.hid (show Rb ((w1.alloc (.cells #[.string s, .slice q ts.length c, .int .i64 0, .int .i64 0, .int .i64 0] 55)).alloc (.cells #[.int .u8 0, .string ⟨#[]⟩, .int .i64 0, .int .u8 0, .string ⟨#[]⟩, .string ⟨#[]⟩, .int .i64 0, .string ⟨#[]⟩, .slice none 0 0, .slice none 0 0, .int .i64 0, .int .u8 0, .string ⟨#[]⟩, .string ⟨#[]⟩, .int .i64 0, .string ⟨#[]⟩, .slice none 0 0] 33)) w1.heap.size s q c ts 0 0 0 from ⟨(Bk.new w1 _ _).on (below1 _ _), (HRD.out.below (below1 w1 _) (Nat.le_refl _)).below (below1 _ _) (by simp), Nat.zero_le _, HSR.out, fun w' hb => HEN.out _ (((HB1.out.trans ((below1 w1 _).mono HB1.out.size)).trans ((below1 _ _).mono (by simp; omega))).trans (hb.mono (by omega)))⟩)
  have HM3 := Lib.hid (show Bk ((w1.alloc (.cells #[.string s, .slice q ts.length c, .int .i64 0, .int .i64 0, .int .i64 0] 55)).alloc (.cells #[.int .u8 0, .string ⟨#[]⟩, .int .i64 0, .int .u8 0, .string ⟨#[]⟩, .string ⟨#[]⟩, .int .i64 0, .string ⟨#[]⟩, .slice none 0 0, .slice none 0 0, .int .i64 0, .int .u8 0, .string ⟨#[]⟩, .string ⟨#[]⟩, .int .i64 0, .string ⟨#[]⟩, .slice none 0 0] 33)) (w1.heap.size + 1) 33 #[.int .u8 0, .string ⟨#[]⟩, .int .i64 0, .int .u8 0, .string ⟨#[]⟩, .string ⟨#[]⟩, .int .i64 0, .string ⟨#[]⟩, .slice none 0 0, .slice none 0 0, .int .i64 0, .int .u8 0, .string ⟨#[]⟩, .string ⟨#[]⟩, .int .i64 0, .string ⟨#[]⟩, .slice none 0 0] from (by simpa using Bk.new (w1.alloc (.cells #[.string s, .slice q ts.length c, .int .i64 0, .int .i64 0, .int .i64 0] 55)) 33 #[.int .u8 0, .string ⟨#[]⟩, .int .i64 0, .int .u8 0, .string ⟨#[]⟩, .string ⟨#[]⟩, .int .i64 0, .string ⟨#[]⟩, .slice none 0 0, .slice none 0 0, .int .i64 0, .int .u8 0, .string ⟨#[]⟩, .string ⟨#[]⟩, .int .i64 0, .string ⟨#[]⟩, .slice none 0 0]))
  have HZ3 := Lib.hid ((HZ1.out.on (below1 w1 (.cells #[.string s, .slice q ts.length c, .int .i64 0, .int .i64 0, .int .i64 0] 55))).on (below1 _ (.cells #[.int .u8 0, .string ⟨#[]⟩, .int .i64 0, .int .u8 0, .string ⟨#[]⟩, .string ⟨#[]⟩, .int .i64 0, .string ⟨#[]⟩, .slice none 0 0, .slice none 0 0, .int .i64 0, .int .u8 0, .string ⟨#[]⟩, .string ⟨#[]⟩, .int .i64 0, .string ⟨#[]⟩, .slice none 0 0] 33)))
  have HB3 := Lib.hid ((HB1.out.trans ((below1 w1 (.cells #[.string s, .slice q ts.length c, .int .i64 0, .int .i64 0, .int .i64 0] 55)).mono HB1.out.size)).trans ((below1 _ (.cells #[.int .u8 0, .string ⟨#[]⟩, .int .i64 0, .int .u8 0, .string ⟨#[]⟩, .string ⟨#[]⟩, .int .i64 0, .string ⟨#[]⟩, .slice none 0 0, .slice none 0 0, .int .i64 0, .int .u8 0, .string ⟨#[]⟩, .string ⟨#[]⟩, .int .i64 0, .string ⟨#[]⟩, .slice none 0 0] 33)).mono (by simp; omega)))
  have hs3 : ((w1.alloc (.cells #[.string s, .slice q ts.length c, .int .i64 0, .int .i64 0, .int .i64 0] 55)).alloc (.cells #[.int .u8 0, .string ⟨#[]⟩, .int .i64 0, .int .u8 0, .string ⟨#[]⟩, .string ⟨#[]⟩, .int .i64 0, .string ⟨#[]⟩, .slice none 0 0, .slice none 0 0, .int .i64 0, .int .u8 0, .string ⟨#[]⟩, .string ⟨#[]⟩, .int .i64 0, .string ⟨#[]⟩, .slice none 0 0] 33)).heap.size = w1.heap.size + 2 := by simp
  generalize (w1.alloc (.cells #[.string s, .slice q ts.length c, .int .i64 0, .int .i64 0, .int .i64 0] 55)).alloc (.cells #[.int .u8 0, .string ⟨#[]⟩, .int .i64 0, .int .u8 0, .string ⟨#[]⟩, .string ⟨#[]⟩, .int .i64 0, .string ⟨#[]⟩, .slice none 0 0, .slice none 0 0, .int .i64 0, .int .u8 0, .string ⟨#[]⟩, .string ⟨#[]⟩, .int .i64 0, .string ⟨#[]⟩, .slice none 0 0] 33) = W3 at *
  clear HB1 HZ1 HRD HB HAL
  have HLE := Lib.hid (leads_any w1.heap.size (w1.heap.size + 1) W3)
  rw [hs3] at HLE
  simp only [Nat.add_assoc, Nat.reduceAdd] at HLE
  go_wp2_with fail
  refine HLE.out.mono ?_
  rintro e w4 ⟨rfl, hw4⟩
  have hb4 : Below W3.heap.size W3 w4 := by
    rw [hw4]
    exact (((Below.refl _ _).alloc (Nat.le_refl _) _).alloc (by simp) _).alloc (by simp; omega) _
  have HXR := Lib.hid (show Bk w4 (w1.heap.size + 2) 53 #[.pointer (some ⟨w1.heap.size, 0, none⟩)] from by
    rw [hw4, ← hs3]
    exact ((Bk.new W3 _ _).on (below1 _ _)).on (below1 _ _))
  have HXQ := Lib.hid (show Bk w4 (w1.heap.size + 3) 59 #[.pointer (some ⟨w1.heap.size + 1, 0, none⟩)] from by
    rw [hw4]
    have := (Bk.new (W3.alloc (.cells #[.pointer (some ⟨w1.heap.size, 0, none⟩)] 53)) 59 #[.pointer (some ⟨w1.heap.size + 1, 0, none⟩)]).on (below1 _ (.map (leadE5 (w1.heap.size + 3) (w1.heap.size + 2)) 5))
    simpa [hs3] using this)
  have HMP := Lib.hid (show w4.heap[w1.heap.size + 4]? = some (.map (leadE5 (w1.heap.size + 3) (w1.heap.size + 2)) 5) from by
    rw [hw4]
    have := heap_alloc_new ((W3.alloc (.cells #[.pointer (some ⟨w1.heap.size, 0, none⟩)] 53)).alloc (.cells #[.pointer (some ⟨w1.heap.size + 1, 0, none⟩)] 59)) (.map (leadE5 (w1.heap.size + 3) (w1.heap.size + 2)) 5)
    simpa [hs3] using this)
  have hs4 : w4.heap.size = w1.heap.size + 5 := by rw [hw4]; simp [hs3]
  clear hw4 HLE
  have HR4 := Lib.hid (HR3.out.on hb4)
  have HM4 := Lib.hid (HM3.out.on hb4)
  have HZ4 := Lib.hid (HZ3.out.on hb4)
  have HB4 := Lib.hid (HB3.out.trans (hb4.mono HB3.out.size))
  clear hb4 HR3 HM3 HZ3 HB3
  have HSP := Lib.hid (rspelt_any w4 w1.heap.size s q c ts 0 0 0 HR4.out)
  rw [hwd] at HSP
  clear hwd
  go_wp2_with fail
  refine HSP.out.mono ?_
  rintro e w5 ⟨rfl, hb5⟩
  have hlk := lookL w5 (w1.heap.size + 4) (w1.heap.size + 3) (w1.heap.size + 2) wdQuery ((hb5.block _ (by omega)).trans HMP.out)
  rw [leadOf_query] at hlk
  have HR5 := Lib.hid (HR4.out.on hb5)
  have HM5 := Lib.hid (HM4.out.on hb5)
  have HZ5 := Lib.hid (HZ4.out.on hb5)
  have HX5 := Lib.hid (HXR.out.on hb5)
  have HY5 := Lib.hid (HXQ.out.on hb5)
  have HB5 := Lib.hid (HB4.out.trans (hb5.mono HB4.out.size))
  have hs5 : w1.heap.size + 5 ≤ w5.heap.size := hs4 ▸ hb5.size
  clear hb5 HR4 HM4 HZ4 HB4 HXR HXQ HMP HSP hs4
  unfold leadFn at hlk
  have c2 := HR5.out.c2
  have f2 := HR5.out.box.soft 2
  go_upto_region 9 with fail
  clear hlk c2 f2
  have HR6 := Lib.hid (HR5.out.set 1 (by omega))
  have hb6 : Below w1.heap.size w5 (w5.setCell ⟨w1.heap.size, 2, none⟩ (.int .i64 ((1 : Nat) : Int))) := (Below.refl _ _).setCell (p := ⟨w1.heap.size, 2, none⟩) (Nat.le_refl _) _
  have HZ6 := Lib.hid (HZ5.out.below hb6 (by omega))
  have HB6 := Lib.hid (HB5.out.trans (hb6.mono (by omega)))
  have HL6 := Lib.hid (show LD (w5.setCell ⟨w1.heap.size, 2, none⟩ (.int .i64 ((1 : Nat) : Int))) w1.heap.size (w1.heap.size + 1) (w1.heap.size + 2) (w1.heap.size + 3) s q c ts 1 0 0 (rqC 0 ⟨#[]⟩ 0 kpZ 0 lpZ) (w5.setCell ⟨w1.heap.size, 2, none⟩ (.int .i64 ((1 : Nat) : Int))) from ⟨HR6.out, HM5.out.other (by omega) 2 _, HX5.out.other (by omega) 2 _, HY5.out.other (by omega) 2 _, Two.refl _ _ _, ⟨by omega, by omega, by omega⟩⟩)
  have hs6 : w1.heap.size + 5 ≤ (w5.setCell ⟨w1.heap.size, 2, none⟩ (.int .i64 ((1 : Nat) : Int))).heap.size := by simpa [World.setCell] using hs5
  rw [show ((1 : Nat) : Int) = 1 from rfl] at HL6 HZ6 HB6 hs6
  clear HR6 HR5 HM5 HZ5 HX5 HY5 HB5 hb6 hs5
  generalize w5.setCell ⟨w1.heap.size, 2, none⟩ (.int .i64 1) = w6 at *
  have HC := Lib.hid (lead3_any HL6.out)
  unfold LeadPost at HC
  generalize askR 3 s ts = R at *
  match R, HC with
  | .error (n, p), HC =>
    go_upto_region 11 with (go_at_call 51; refine HC.out.mono ?_; rintro e w7 ⟨rfl, hn0, k7, cs7, hld⟩; have HR7 := Lib.hid hld.r; have HT7 := Lib.hid hld.t; clear hld)
    have HZ7 := Lib.hid (HZ6.out.two HT7.out (by omega) (by omega))
    have HBW := Lib.hid (Two.belowAt HB6.out HT7.out (by omega) (by omega) (by omega))
    have c3 := HR7.out.c3
    have c4 := HR7.out.c4
    have hnn : (n != 0) = true := by rw [bne_iff_ne]; exact hn0
    go_upto_region 12 with fail
    have HZ8 := Lib.hid (HZ7.out.on (Below.refl w7.heap.size w7).drew)
    have HR8 := Lib.hid (HR7.out.on (Below.refl w7.heap.size w7).drew)
    have HB8 := Lib.hid ((HBW.out).drew)
    refine wp_region_held_drew (S := fun X => X.cell? ⟨w1.heap.size, 3, none⟩ = some (.int .i64 p) ∧ X.cell? ⟨w1.heap.size, 4, none⟩ = some (.int .i64 n)) (by kernel_rfl) ⟨c3, c4⟩ (fun hHeld => ?_)
    refine wpAnyH_take (i := 0) (v := ?_) rfl (by kernel_rfl) (by kernel_rfl) (by kernel_rfl) (fun _ _ _ h => h) (Or.inl ⟨by rfl, ?hy⟩) (by assumption) ?_
    case hy =>
      intro wx hSw
      obtain ⟨q0, q1⟩ := hSw
      go_simp
      all_goals with_reducible rfl
    (try simp only [Act.put, List.getElem_toArray, List.getElem_cons_succ, List.getElem_cons_zero, List.setIfInBounds_toArray, List.set_cons_zero, List.set_cons_succ])
    refine wpAnyH_take (i := 1) (v := ?_) rfl (by kernel_rfl) (by kernel_rfl) (by kernel_rfl) (fun _ _ _ h => h) (Or.inl ⟨by rfl, ?hy⟩) (by assumption) ?_
    case hy =>
      intro wx hSw
      obtain ⟨q0, q1⟩ := hSw
      go_simp
      all_goals with_reducible rfl
    (try simp only [Act.put, List.getElem_toArray, List.getElem_cons_succ, List.getElem_cons_zero, List.setIfInBounds_toArray, List.set_cons_zero, List.set_cons_succ])
    refine wpAnyH_take (i := 2) (v := ?_) rfl (by kernel_rfl) (by kernel_rfl) (by kernel_rfl) (fun _ _ _ h => h) (Or.inl ⟨by rfl, ?hy⟩) (by assumption) ?_
    case hy =>
      intro wx hSw
      obtain ⟨q0, q1⟩ := hSw
      go_simp
      all_goals with_reducible rfl
    (try simp only [Act.put, List.getElem_toArray, List.getElem_cons_succ, List.getElem_cons_zero, List.setIfInBounds_toArray, List.set_cons_zero, List.set_cons_succ])
    refine wpAnyH_take (i := 3) (v := ?_) rfl (by kernel_rfl) (by kernel_rfl) (by kernel_rfl) (fun _ _ _ h => h) (Or.inl ⟨by rfl, ?hy⟩) (by assumption) ?_
    case hy =>
      intro wx hSw
      obtain ⟨q0, q1⟩ := hSw
      go_simp
      all_goals with_reducible rfl
    (try simp only [Act.put, List.getElem_toArray, List.getElem_cons_succ, List.getElem_cons_zero, List.setIfInBounds_toArray, List.set_cons_zero, List.set_cons_succ])
    refine wpAnyH_take (i := 4) (v := ?_) rfl (by kernel_rfl) (by kernel_rfl) (by kernel_rfl) (fun _ _ _ h => h) (Or.inl ⟨by rfl, ?hy⟩) (by assumption) ?_
    case hy =>
      intro wx hSw
      obtain ⟨q0, q1⟩ := hSw
      go_simp
      all_goals with_reducible rfl
    (try simp only [Act.put, List.getElem_toArray, List.getElem_cons_succ, List.getElem_cons_zero, List.setIfInBounds_toArray, List.set_cons_zero, List.set_cons_succ])
    refine wpAnyH_take (i := 5) (v := ?_) rfl (by kernel_rfl) (by kernel_rfl) (by kernel_rfl) (fun _ _ _ h => h) (Or.inl ⟨by rfl, ?hy⟩) (by assumption) ?_
    case hy =>
      intro wx hSw
      obtain ⟨q0, q1⟩ := hSw
      go_simp
      all_goals with_reducible rfl
    (try simp only [Act.put, List.getElem_toArray, List.getElem_cons_succ, List.getElem_cons_zero, List.setIfInBounds_toArray, List.set_cons_zero, List.set_cons_succ])
    refine wpAnyH_take (i := 6) (v := ?_) rfl (by kernel_rfl) (by kernel_rfl) (by kernel_rfl) (fun _ _ _ h => h) (Or.inl ⟨by rfl, ?hy⟩) (by assumption) ?_
    case hy =>
      intro wx hSw
      obtain ⟨q0, q1⟩ := hSw
      go_simp
      all_goals with_reducible rfl
    (try simp only [Act.put, List.getElem_toArray, List.getElem_cons_succ, List.getElem_cons_zero, List.setIfInBounds_toArray, List.set_cons_zero, List.set_cons_succ])
    refine wpAnyH_take (i := 7) (v := ?_) rfl (by kernel_rfl) (by kernel_rfl) (by kernel_rfl) (fun _ _ _ h => h) (Or.inl ⟨by rfl, ?hy⟩) (by assumption) ?_
    case hy =>
      intro wx hSw
      obtain ⟨q0, q1⟩ := hSw
      go_simp
      all_goals with_reducible rfl
    (try simp only [Act.put, List.getElem_toArray, List.getElem_cons_succ, List.getElem_cons_zero, List.setIfInBounds_toArray, List.set_cons_zero, List.set_cons_succ])
    refine wpAnyH_take (i := 8) (v := ?_) rfl (by kernel_rfl) (by kernel_rfl) (by kernel_rfl) (fun _ _ _ h => h) (Or.inl ⟨by rfl, ?hy⟩) (by assumption) ?_
    case hy =>
      intro wx hSw
      obtain ⟨q0, q1⟩ := hSw
      go_simp
      all_goals with_reducible rfl
    (try simp only [Act.put, List.getElem_toArray, List.getElem_cons_succ, List.getElem_cons_zero, List.setIfInBounds_toArray, List.set_cons_zero, List.set_cons_succ])
    refine wpAnyH_ready (rs := [9]) (by kernel_rfl) (by simp) ?_
    refine AllReadyH.cons rfl (fun K hK => ?_) AllReadyH.nil
    rw [if_pos (by rfl)]
    refine wp_store_mid 33 (.tmp 2) (.tmp 54) rfl w.heap.size 0 (rqC 0 ⟨#[]⟩ 0 kpZ 0 lpZ) rfl rfl HZ8.out.there (by rw [sizeReq]; rfl) (rqC_one _ _ _ _ _ _) ?_
    have HB9 := Lib.hid (HB8.out.trans (below_setCells (rqC 0 ⟨#[]⟩ 0 kpZ 0 lpZ).toList w.heap.size 0 w7.drew (Nat.le_refl _)))
    have HR9 := Lib.hid (HR8.out.box.apart (show w1.heap.size ≠ w.heap.size by omega) (rqC 0 ⟨#[]⟩ 0 kpZ 0 lpZ).toList)
    have HZ9 := Lib.hid (HZ8.out.setAll 0 ⟨#[]⟩ 0 kpZ 0 lpZ ⟨_, _, _, kpZ, _, lpZ, rfl⟩)
    generalize w7.drew.setCells w.heap.size 0 (rqC 0 ⟨#[]⟩ 0 kpZ 0 lpZ).toList = w9 at *
    refine hK.out _ _ (⟨HR9.out.cell 3 _ rfl, HR9.out.cell 4 _ rfl⟩) (fun hHeld => ?_)
    clear hK K
    (try simp only [Act.put, List.getElem_toArray, List.getElem_cons_succ, List.getElem_cons_zero, List.setIfInBounds_toArray, List.set_cons_zero, List.set_cons_succ])
    refine wpAnyH_take (i := 10) (v := ?_) rfl (by kernel_rfl) (by kernel_rfl) (by kernel_rfl) (fun _ _ _ h => h) (Or.inl ⟨by rfl, ?hy⟩) (by assumption) ?_
    case hy =>
      intro wx hSw
      obtain ⟨q0, q1⟩ := hSw
      go_simp
      all_goals with_reducible rfl
    (try simp only [Act.put, List.getElem_toArray, List.getElem_cons_succ, List.getElem_cons_zero, List.setIfInBounds_toArray, List.set_cons_zero, List.set_cons_succ])
    refine wpAnyH_take (i := 11) (v := ?_) rfl (by kernel_rfl) (by kernel_rfl) (by kernel_rfl) (fun _ _ _ h => h) (Or.inl ⟨by rfl, ?hy⟩) (by assumption) ?_
    case hy =>
      intro wx hSw
      obtain ⟨q0, q1⟩ := hSw
      go_simp
      all_goals with_reducible rfl
    (try simp only [Act.put, List.getElem_toArray, List.getElem_cons_succ, List.getElem_cons_zero, List.setIfInBounds_toArray, List.set_cons_zero, List.set_cons_succ])
    refine wpAnyH_done (by kernel_rfl) ?_ _
    go_wp2_with fail
    refine bodyPost_ret (results_req rfl _ _ w.heap.size 0 ⟨#[]⟩ 0 kpZ 0 lpZ rfl HZ9.out) rfl ?_
    exact ⟨rfl, HB9.out⟩
  | .ok r, HC =>
    go_upto_region 11 with (go_at_call 51; refine HC.out.mono ?_; rintro e w7 ⟨rfl, k7, cs7, hld, hrm⟩; have HR7 := Lib.hid hld.r; have HT7 := Lib.hid hld.t; have HM7 := Lib.hid hld.m; clear hld)
    have HZ7 := Lib.hid (HZ6.out.two HT7.out (by omega) (by omega))
    have HBW := Lib.hid (Two.belowAt HB6.out HT7.out (by omega) (by omega) (by omega))
    obtain ⟨kd, lb, lf, cl, no, lp, rfl⟩ := hrm.form
    have HRM := Lib.hid hrm
    clear hrm
    have c4 := HR7.out.c4
    obtain ⟨d9, hu9, hd9⟩ := rowReq
    go_upto_region 13 with fail
    refine wp_region_list (show wpList _ _ _ (_ :: _ :: _) _ _ from ?_)
    refine wpList_load_mid rfl 33 (.tmp 9) rfl (w1.heap.size + 1) 0 rfl (rqC kd lb lf cl no lp).toList d9 HM7.out.range hu9 hd9 (by rw [sizeReq]; rfl) ?_
    refine wpList_store_mid rfl 33 (.tmp 2) (.tmp 63) rfl w.heap.size 0 (rqC kd lb lf cl no lp) rfl rfl HZ7.out.there (by rw [sizeReq]; rfl) (rqC_one _ _ _ _ _ _) ?_
    have HB8 := Lib.hid (HBW.out.trans (below_setCells (rqC kd lb lf cl no lp).toList w.heap.size 0 w7 (Nat.le_refl _)))
    have HZ8 := Lib.hid (HZ7.out.setAll kd lb lf cl no lp ⟨_, _, _, kpZ, _, lpZ, rfl⟩)
    have HR8 := Lib.hid ((HRM.out.above (above_setCells (Above.refl (w.heap.size + 1) w7) (Nat.lt_succ_self _) (rqC kd lb lf cl no lp).toList) (by omega) (below_setCells (B := w.heap.size) (rqC kd lb lf cl no lp).toList w.heap.size 0 w7 (Nat.le_refl _)).size).mono (show w.heap.size ≤ w6.heap.size by omega))
    generalize w7.setCells w.heap.size 0 (rqC kd lb lf cl no lp).toList = w9 at *
    go_wp2_with fail
    refine bodyPost_ret (results_req rfl _ _ w.heap.size kd lb lf cl no lp rfl HZ8.out) rfl ?_
    exact ⟨_, rfl, HR8.out, HB8.out⟩
set_option maxHeartbeats 16000000 in
set_option maxRecDepth 100000 in
theorem reqparse_prove (s : ByteArray) (w : World) (hm : s.size ≤ 140737488351232) (he : Env w) (hx : (allL s.data.toList).err = 0) (hwd : textAt s (allL s.data.toList).toks 0 = wdProve) :
    Calls Tryz.prog 7 #[.string s] w (ReqPost w (askR 4 s (allL s.data.toList).toks)) := by
  have HB := Lib.hid (below1 w)
  have HAL := Lib.hid (fun X (hX : Below w.heap.size w X) => all_any s X hm (he.on hX))
  unfold AllPost at HAL
  have hsr := (toks_of s hx).src
  rw [hx] at HAL
  generalize (allL s.data.toList).pl = pl at *
  generalize (allL s.data.toList).toks = ts at *
  have HEN := Lib.hid (fun X (hX : Below w.heap.size w X) => he.on hX)
  have HSR := Lib.hid hsr
  have hlt : 0 < ts.length := text_lt hwd (by decide +kernel)
  have hll := hsr.len
  clear he hx hm hsr
  go_enter Tryz.func7, Tryz.ntmps7
  go_upto_region 4 with (go_at_call 15; refine (HAL.out _ (HB.out _)).mono ?_; rintro e w1 ⟨v1, rfl, ht1, hb1⟩; have HB1 := Lib.hid ((HB.out _).trans (hb1.mono (HB.out _).size)); have HZ1 := Lib.hid ((Bk.new w _ _).on hb1); have HT1 := Lib.hid ht1; have hs1 : w.heap.size + 1 ≤ w1.heap.size := (by simpa using hb1.size); clear hb1 ht1)
  obtain ⟨q, c, rfl, hrd⟩ := tokrow_rd HT1.out
  have HRD := Lib.hid hrd
  clear hrd HT1
  go_upto_region 6 with fail
  have HR3 := Lib.hid (show Rb ((w1.alloc (.cells #[.string s, .slice q ts.length c, .int .i64 0, .int .i64 0, .int .i64 0] 55)).alloc (.cells #[.int .u8 0, .string ⟨#[]⟩, .int .i64 0, .int .u8 0, .string ⟨#[]⟩, .string ⟨#[]⟩, .int .i64 0, .string ⟨#[]⟩, .slice none 0 0, .slice none 0 0, .int .i64 0, .int .u8 0, .string ⟨#[]⟩, .string ⟨#[]⟩, .int .i64 0, .string ⟨#[]⟩, .slice none 0 0] 33)) w1.heap.size s q c ts 0 0 0 from ⟨(Bk.new w1 _ _).on (below1 _ _), (HRD.out.below (below1 w1 _) (Nat.le_refl _)).below (below1 _ _) (by simp), Nat.zero_le _, HSR.out, fun w' hb => HEN.out _ (((HB1.out.trans ((below1 w1 _).mono HB1.out.size)).trans ((below1 _ _).mono (by simp; omega))).trans (hb.mono (by omega)))⟩)
  have HM3 := Lib.hid (show Bk ((w1.alloc (.cells #[.string s, .slice q ts.length c, .int .i64 0, .int .i64 0, .int .i64 0] 55)).alloc (.cells #[.int .u8 0, .string ⟨#[]⟩, .int .i64 0, .int .u8 0, .string ⟨#[]⟩, .string ⟨#[]⟩, .int .i64 0, .string ⟨#[]⟩, .slice none 0 0, .slice none 0 0, .int .i64 0, .int .u8 0, .string ⟨#[]⟩, .string ⟨#[]⟩, .int .i64 0, .string ⟨#[]⟩, .slice none 0 0] 33)) (w1.heap.size + 1) 33 #[.int .u8 0, .string ⟨#[]⟩, .int .i64 0, .int .u8 0, .string ⟨#[]⟩, .string ⟨#[]⟩, .int .i64 0, .string ⟨#[]⟩, .slice none 0 0, .slice none 0 0, .int .i64 0, .int .u8 0, .string ⟨#[]⟩, .string ⟨#[]⟩, .int .i64 0, .string ⟨#[]⟩, .slice none 0 0] from (by simpa using Bk.new (w1.alloc (.cells #[.string s, .slice q ts.length c, .int .i64 0, .int .i64 0, .int .i64 0] 55)) 33 #[.int .u8 0, .string ⟨#[]⟩, .int .i64 0, .int .u8 0, .string ⟨#[]⟩, .string ⟨#[]⟩, .int .i64 0, .string ⟨#[]⟩, .slice none 0 0, .slice none 0 0, .int .i64 0, .int .u8 0, .string ⟨#[]⟩, .string ⟨#[]⟩, .int .i64 0, .string ⟨#[]⟩, .slice none 0 0]))
  have HZ3 := Lib.hid ((HZ1.out.on (below1 w1 (.cells #[.string s, .slice q ts.length c, .int .i64 0, .int .i64 0, .int .i64 0] 55))).on (below1 _ (.cells #[.int .u8 0, .string ⟨#[]⟩, .int .i64 0, .int .u8 0, .string ⟨#[]⟩, .string ⟨#[]⟩, .int .i64 0, .string ⟨#[]⟩, .slice none 0 0, .slice none 0 0, .int .i64 0, .int .u8 0, .string ⟨#[]⟩, .string ⟨#[]⟩, .int .i64 0, .string ⟨#[]⟩, .slice none 0 0] 33)))
  have HB3 := Lib.hid ((HB1.out.trans ((below1 w1 (.cells #[.string s, .slice q ts.length c, .int .i64 0, .int .i64 0, .int .i64 0] 55)).mono HB1.out.size)).trans ((below1 _ (.cells #[.int .u8 0, .string ⟨#[]⟩, .int .i64 0, .int .u8 0, .string ⟨#[]⟩, .string ⟨#[]⟩, .int .i64 0, .string ⟨#[]⟩, .slice none 0 0, .slice none 0 0, .int .i64 0, .int .u8 0, .string ⟨#[]⟩, .string ⟨#[]⟩, .int .i64 0, .string ⟨#[]⟩, .slice none 0 0] 33)).mono (by simp; omega)))
  have hs3 : ((w1.alloc (.cells #[.string s, .slice q ts.length c, .int .i64 0, .int .i64 0, .int .i64 0] 55)).alloc (.cells #[.int .u8 0, .string ⟨#[]⟩, .int .i64 0, .int .u8 0, .string ⟨#[]⟩, .string ⟨#[]⟩, .int .i64 0, .string ⟨#[]⟩, .slice none 0 0, .slice none 0 0, .int .i64 0, .int .u8 0, .string ⟨#[]⟩, .string ⟨#[]⟩, .int .i64 0, .string ⟨#[]⟩, .slice none 0 0] 33)).heap.size = w1.heap.size + 2 := by simp
  generalize (w1.alloc (.cells #[.string s, .slice q ts.length c, .int .i64 0, .int .i64 0, .int .i64 0] 55)).alloc (.cells #[.int .u8 0, .string ⟨#[]⟩, .int .i64 0, .int .u8 0, .string ⟨#[]⟩, .string ⟨#[]⟩, .int .i64 0, .string ⟨#[]⟩, .slice none 0 0, .slice none 0 0, .int .i64 0, .int .u8 0, .string ⟨#[]⟩, .string ⟨#[]⟩, .int .i64 0, .string ⟨#[]⟩, .slice none 0 0] 33) = W3 at *
  clear HB1 HZ1 HRD HB HAL
  have HLE := Lib.hid (leads_any w1.heap.size (w1.heap.size + 1) W3)
  rw [hs3] at HLE
  simp only [Nat.add_assoc, Nat.reduceAdd] at HLE
  go_wp2_with fail
  refine HLE.out.mono ?_
  rintro e w4 ⟨rfl, hw4⟩
  have hb4 : Below W3.heap.size W3 w4 := by
    rw [hw4]
    exact (((Below.refl _ _).alloc (Nat.le_refl _) _).alloc (by simp) _).alloc (by simp; omega) _
  have HXR := Lib.hid (show Bk w4 (w1.heap.size + 2) 53 #[.pointer (some ⟨w1.heap.size, 0, none⟩)] from by
    rw [hw4, ← hs3]
    exact ((Bk.new W3 _ _).on (below1 _ _)).on (below1 _ _))
  have HXQ := Lib.hid (show Bk w4 (w1.heap.size + 3) 59 #[.pointer (some ⟨w1.heap.size + 1, 0, none⟩)] from by
    rw [hw4]
    have := (Bk.new (W3.alloc (.cells #[.pointer (some ⟨w1.heap.size, 0, none⟩)] 53)) 59 #[.pointer (some ⟨w1.heap.size + 1, 0, none⟩)]).on (below1 _ (.map (leadE5 (w1.heap.size + 3) (w1.heap.size + 2)) 5))
    simpa [hs3] using this)
  have HMP := Lib.hid (show w4.heap[w1.heap.size + 4]? = some (.map (leadE5 (w1.heap.size + 3) (w1.heap.size + 2)) 5) from by
    rw [hw4]
    have := heap_alloc_new ((W3.alloc (.cells #[.pointer (some ⟨w1.heap.size, 0, none⟩)] 53)).alloc (.cells #[.pointer (some ⟨w1.heap.size + 1, 0, none⟩)] 59)) (.map (leadE5 (w1.heap.size + 3) (w1.heap.size + 2)) 5)
    simpa [hs3] using this)
  have hs4 : w4.heap.size = w1.heap.size + 5 := by rw [hw4]; simp [hs3]
  clear hw4 HLE
  have HR4 := Lib.hid (HR3.out.on hb4)
  have HM4 := Lib.hid (HM3.out.on hb4)
  have HZ4 := Lib.hid (HZ3.out.on hb4)
  have HB4 := Lib.hid (HB3.out.trans (hb4.mono HB3.out.size))
  clear hb4 HR3 HM3 HZ3 HB3
  have HSP := Lib.hid (rspelt_any w4 w1.heap.size s q c ts 0 0 0 HR4.out)
  rw [hwd] at HSP
  clear hwd
  go_wp2_with fail
  refine HSP.out.mono ?_
  rintro e w5 ⟨rfl, hb5⟩
  have hlk := lookL w5 (w1.heap.size + 4) (w1.heap.size + 3) (w1.heap.size + 2) wdProve ((hb5.block _ (by omega)).trans HMP.out)
  rw [leadOf_prove] at hlk
  have HR5 := Lib.hid (HR4.out.on hb5)
  have HM5 := Lib.hid (HM4.out.on hb5)
  have HZ5 := Lib.hid (HZ4.out.on hb5)
  have HX5 := Lib.hid (HXR.out.on hb5)
  have HY5 := Lib.hid (HXQ.out.on hb5)
  have HB5 := Lib.hid (HB4.out.trans (hb5.mono HB4.out.size))
  have hs5 : w1.heap.size + 5 ≤ w5.heap.size := hs4 ▸ hb5.size
  clear hb5 HR4 HM4 HZ4 HB4 HXR HXQ HMP HSP hs4
  unfold leadFn at hlk
  have c2 := HR5.out.c2
  have f2 := HR5.out.box.soft 2
  go_upto_region 9 with fail
  clear hlk c2 f2
  have HR6 := Lib.hid (HR5.out.set 1 (by omega))
  have hb6 : Below w1.heap.size w5 (w5.setCell ⟨w1.heap.size, 2, none⟩ (.int .i64 ((1 : Nat) : Int))) := (Below.refl _ _).setCell (p := ⟨w1.heap.size, 2, none⟩) (Nat.le_refl _) _
  have HZ6 := Lib.hid (HZ5.out.below hb6 (by omega))
  have HB6 := Lib.hid (HB5.out.trans (hb6.mono (by omega)))
  have HL6 := Lib.hid (show LD (w5.setCell ⟨w1.heap.size, 2, none⟩ (.int .i64 ((1 : Nat) : Int))) w1.heap.size (w1.heap.size + 1) (w1.heap.size + 2) (w1.heap.size + 3) s q c ts 1 0 0 (rqC 0 ⟨#[]⟩ 0 kpZ 0 lpZ) (w5.setCell ⟨w1.heap.size, 2, none⟩ (.int .i64 ((1 : Nat) : Int))) from ⟨HR6.out, HM5.out.other (by omega) 2 _, HX5.out.other (by omega) 2 _, HY5.out.other (by omega) 2 _, Two.refl _ _ _, ⟨by omega, by omega, by omega⟩⟩)
  have hs6 : w1.heap.size + 5 ≤ (w5.setCell ⟨w1.heap.size, 2, none⟩ (.int .i64 ((1 : Nat) : Int))).heap.size := by simpa [World.setCell] using hs5
  rw [show ((1 : Nat) : Int) = 1 from rfl] at HL6 HZ6 HB6 hs6
  clear HR6 HR5 HM5 HZ5 HX5 HY5 HB5 hb6 hs5
  generalize w5.setCell ⟨w1.heap.size, 2, none⟩ (.int .i64 1) = w6 at *
  have HC := Lib.hid (lead4_any HL6.out)
  unfold LeadPost at HC
  generalize askR 4 s ts = R at *
  match R, HC with
  | .error (n, p), HC =>
    go_upto_region 11 with (go_at_call 54; refine HC.out.mono ?_; rintro e w7 ⟨rfl, hn0, k7, cs7, hld⟩; have HR7 := Lib.hid hld.r; have HT7 := Lib.hid hld.t; clear hld)
    have HZ7 := Lib.hid (HZ6.out.two HT7.out (by omega) (by omega))
    have HBW := Lib.hid (Two.belowAt HB6.out HT7.out (by omega) (by omega) (by omega))
    have c3 := HR7.out.c3
    have c4 := HR7.out.c4
    have hnn : (n != 0) = true := by rw [bne_iff_ne]; exact hn0
    go_upto_region 12 with fail
    have HZ8 := Lib.hid (HZ7.out.on (Below.refl w7.heap.size w7).drew)
    have HR8 := Lib.hid (HR7.out.on (Below.refl w7.heap.size w7).drew)
    have HB8 := Lib.hid ((HBW.out).drew)
    refine wp_region_held_drew (S := fun X => X.cell? ⟨w1.heap.size, 3, none⟩ = some (.int .i64 p) ∧ X.cell? ⟨w1.heap.size, 4, none⟩ = some (.int .i64 n)) (by kernel_rfl) ⟨c3, c4⟩ (fun hHeld => ?_)
    refine wpAnyH_take (i := 0) (v := ?_) rfl (by kernel_rfl) (by kernel_rfl) (by kernel_rfl) (fun _ _ _ h => h) (Or.inl ⟨by rfl, ?hy⟩) (by assumption) ?_
    case hy =>
      intro wx hSw
      obtain ⟨q0, q1⟩ := hSw
      go_simp
      all_goals with_reducible rfl
    (try simp only [Act.put, List.getElem_toArray, List.getElem_cons_succ, List.getElem_cons_zero, List.setIfInBounds_toArray, List.set_cons_zero, List.set_cons_succ])
    refine wpAnyH_take (i := 1) (v := ?_) rfl (by kernel_rfl) (by kernel_rfl) (by kernel_rfl) (fun _ _ _ h => h) (Or.inl ⟨by rfl, ?hy⟩) (by assumption) ?_
    case hy =>
      intro wx hSw
      obtain ⟨q0, q1⟩ := hSw
      go_simp
      all_goals with_reducible rfl
    (try simp only [Act.put, List.getElem_toArray, List.getElem_cons_succ, List.getElem_cons_zero, List.setIfInBounds_toArray, List.set_cons_zero, List.set_cons_succ])
    refine wpAnyH_take (i := 2) (v := ?_) rfl (by kernel_rfl) (by kernel_rfl) (by kernel_rfl) (fun _ _ _ h => h) (Or.inl ⟨by rfl, ?hy⟩) (by assumption) ?_
    case hy =>
      intro wx hSw
      obtain ⟨q0, q1⟩ := hSw
      go_simp
      all_goals with_reducible rfl
    (try simp only [Act.put, List.getElem_toArray, List.getElem_cons_succ, List.getElem_cons_zero, List.setIfInBounds_toArray, List.set_cons_zero, List.set_cons_succ])
    refine wpAnyH_take (i := 3) (v := ?_) rfl (by kernel_rfl) (by kernel_rfl) (by kernel_rfl) (fun _ _ _ h => h) (Or.inl ⟨by rfl, ?hy⟩) (by assumption) ?_
    case hy =>
      intro wx hSw
      obtain ⟨q0, q1⟩ := hSw
      go_simp
      all_goals with_reducible rfl
    (try simp only [Act.put, List.getElem_toArray, List.getElem_cons_succ, List.getElem_cons_zero, List.setIfInBounds_toArray, List.set_cons_zero, List.set_cons_succ])
    refine wpAnyH_take (i := 4) (v := ?_) rfl (by kernel_rfl) (by kernel_rfl) (by kernel_rfl) (fun _ _ _ h => h) (Or.inl ⟨by rfl, ?hy⟩) (by assumption) ?_
    case hy =>
      intro wx hSw
      obtain ⟨q0, q1⟩ := hSw
      go_simp
      all_goals with_reducible rfl
    (try simp only [Act.put, List.getElem_toArray, List.getElem_cons_succ, List.getElem_cons_zero, List.setIfInBounds_toArray, List.set_cons_zero, List.set_cons_succ])
    refine wpAnyH_take (i := 5) (v := ?_) rfl (by kernel_rfl) (by kernel_rfl) (by kernel_rfl) (fun _ _ _ h => h) (Or.inl ⟨by rfl, ?hy⟩) (by assumption) ?_
    case hy =>
      intro wx hSw
      obtain ⟨q0, q1⟩ := hSw
      go_simp
      all_goals with_reducible rfl
    (try simp only [Act.put, List.getElem_toArray, List.getElem_cons_succ, List.getElem_cons_zero, List.setIfInBounds_toArray, List.set_cons_zero, List.set_cons_succ])
    refine wpAnyH_take (i := 6) (v := ?_) rfl (by kernel_rfl) (by kernel_rfl) (by kernel_rfl) (fun _ _ _ h => h) (Or.inl ⟨by rfl, ?hy⟩) (by assumption) ?_
    case hy =>
      intro wx hSw
      obtain ⟨q0, q1⟩ := hSw
      go_simp
      all_goals with_reducible rfl
    (try simp only [Act.put, List.getElem_toArray, List.getElem_cons_succ, List.getElem_cons_zero, List.setIfInBounds_toArray, List.set_cons_zero, List.set_cons_succ])
    refine wpAnyH_take (i := 7) (v := ?_) rfl (by kernel_rfl) (by kernel_rfl) (by kernel_rfl) (fun _ _ _ h => h) (Or.inl ⟨by rfl, ?hy⟩) (by assumption) ?_
    case hy =>
      intro wx hSw
      obtain ⟨q0, q1⟩ := hSw
      go_simp
      all_goals with_reducible rfl
    (try simp only [Act.put, List.getElem_toArray, List.getElem_cons_succ, List.getElem_cons_zero, List.setIfInBounds_toArray, List.set_cons_zero, List.set_cons_succ])
    refine wpAnyH_take (i := 8) (v := ?_) rfl (by kernel_rfl) (by kernel_rfl) (by kernel_rfl) (fun _ _ _ h => h) (Or.inl ⟨by rfl, ?hy⟩) (by assumption) ?_
    case hy =>
      intro wx hSw
      obtain ⟨q0, q1⟩ := hSw
      go_simp
      all_goals with_reducible rfl
    (try simp only [Act.put, List.getElem_toArray, List.getElem_cons_succ, List.getElem_cons_zero, List.setIfInBounds_toArray, List.set_cons_zero, List.set_cons_succ])
    refine wpAnyH_ready (rs := [9]) (by kernel_rfl) (by simp) ?_
    refine AllReadyH.cons rfl (fun K hK => ?_) AllReadyH.nil
    rw [if_pos (by rfl)]
    refine wp_store_mid 33 (.tmp 2) (.tmp 54) rfl w.heap.size 0 (rqC 0 ⟨#[]⟩ 0 kpZ 0 lpZ) rfl rfl HZ8.out.there (by rw [sizeReq]; rfl) (rqC_one _ _ _ _ _ _) ?_
    have HB9 := Lib.hid (HB8.out.trans (below_setCells (rqC 0 ⟨#[]⟩ 0 kpZ 0 lpZ).toList w.heap.size 0 w7.drew (Nat.le_refl _)))
    have HR9 := Lib.hid (HR8.out.box.apart (show w1.heap.size ≠ w.heap.size by omega) (rqC 0 ⟨#[]⟩ 0 kpZ 0 lpZ).toList)
    have HZ9 := Lib.hid (HZ8.out.setAll 0 ⟨#[]⟩ 0 kpZ 0 lpZ ⟨_, _, _, kpZ, _, lpZ, rfl⟩)
    generalize w7.drew.setCells w.heap.size 0 (rqC 0 ⟨#[]⟩ 0 kpZ 0 lpZ).toList = w9 at *
    refine hK.out _ _ (⟨HR9.out.cell 3 _ rfl, HR9.out.cell 4 _ rfl⟩) (fun hHeld => ?_)
    clear hK K
    (try simp only [Act.put, List.getElem_toArray, List.getElem_cons_succ, List.getElem_cons_zero, List.setIfInBounds_toArray, List.set_cons_zero, List.set_cons_succ])
    refine wpAnyH_take (i := 10) (v := ?_) rfl (by kernel_rfl) (by kernel_rfl) (by kernel_rfl) (fun _ _ _ h => h) (Or.inl ⟨by rfl, ?hy⟩) (by assumption) ?_
    case hy =>
      intro wx hSw
      obtain ⟨q0, q1⟩ := hSw
      go_simp
      all_goals with_reducible rfl
    (try simp only [Act.put, List.getElem_toArray, List.getElem_cons_succ, List.getElem_cons_zero, List.setIfInBounds_toArray, List.set_cons_zero, List.set_cons_succ])
    refine wpAnyH_take (i := 11) (v := ?_) rfl (by kernel_rfl) (by kernel_rfl) (by kernel_rfl) (fun _ _ _ h => h) (Or.inl ⟨by rfl, ?hy⟩) (by assumption) ?_
    case hy =>
      intro wx hSw
      obtain ⟨q0, q1⟩ := hSw
      go_simp
      all_goals with_reducible rfl
    (try simp only [Act.put, List.getElem_toArray, List.getElem_cons_succ, List.getElem_cons_zero, List.setIfInBounds_toArray, List.set_cons_zero, List.set_cons_succ])
    refine wpAnyH_done (by kernel_rfl) ?_ _
    go_wp2_with fail
    refine bodyPost_ret (results_req rfl _ _ w.heap.size 0 ⟨#[]⟩ 0 kpZ 0 lpZ rfl HZ9.out) rfl ?_
    exact ⟨rfl, HB9.out⟩
  | .ok r, HC =>
    go_upto_region 11 with (go_at_call 54; refine HC.out.mono ?_; rintro e w7 ⟨rfl, k7, cs7, hld, hrm⟩; have HR7 := Lib.hid hld.r; have HT7 := Lib.hid hld.t; have HM7 := Lib.hid hld.m; clear hld)
    have HZ7 := Lib.hid (HZ6.out.two HT7.out (by omega) (by omega))
    have HBW := Lib.hid (Two.belowAt HB6.out HT7.out (by omega) (by omega) (by omega))
    obtain ⟨kd, lb, lf, cl, no, lp, rfl⟩ := hrm.form
    have HRM := Lib.hid hrm
    clear hrm
    have c4 := HR7.out.c4
    obtain ⟨d9, hu9, hd9⟩ := rowReq
    go_upto_region 13 with fail
    refine wp_region_list (show wpList _ _ _ (_ :: _ :: _) _ _ from ?_)
    refine wpList_load_mid rfl 33 (.tmp 9) rfl (w1.heap.size + 1) 0 rfl (rqC kd lb lf cl no lp).toList d9 HM7.out.range hu9 hd9 (by rw [sizeReq]; rfl) ?_
    refine wpList_store_mid rfl 33 (.tmp 2) (.tmp 63) rfl w.heap.size 0 (rqC kd lb lf cl no lp) rfl rfl HZ7.out.there (by rw [sizeReq]; rfl) (rqC_one _ _ _ _ _ _) ?_
    have HB8 := Lib.hid (HBW.out.trans (below_setCells (rqC kd lb lf cl no lp).toList w.heap.size 0 w7 (Nat.le_refl _)))
    have HZ8 := Lib.hid (HZ7.out.setAll kd lb lf cl no lp ⟨_, _, _, kpZ, _, lpZ, rfl⟩)
    have HR8 := Lib.hid ((HRM.out.above (above_setCells (Above.refl (w.heap.size + 1) w7) (Nat.lt_succ_self _) (rqC kd lb lf cl no lp).toList) (by omega) (below_setCells (B := w.heap.size) (rqC kd lb lf cl no lp).toList w.heap.size 0 w7 (Nat.le_refl _)).size).mono (show w.heap.size ≤ w6.heap.size by omega))
    generalize w7.setCells w.heap.size 0 (rqC kd lb lf cl no lp).toList = w9 at *
    go_wp2_with fail
    refine bodyPost_ret (results_req rfl _ _ w.heap.size kd lb lf cl no lp rfl HZ8.out) rfl ?_
    exact ⟨_, rfl, HR8.out, HB8.out⟩
set_option maxHeartbeats 16000000 in
set_option maxRecDepth 100000 in
theorem reqparse_audit (s : ByteArray) (w : World) (hm : s.size ≤ 140737488351232) (he : Env w) (hx : (allL s.data.toList).err = 0) (hwd : textAt s (allL s.data.toList).toks 0 = wdAudit) :
    Calls Tryz.prog 7 #[.string s] w (ReqPost w (audR s (allL s.data.toList).toks)) := by
  have HB := Lib.hid (below1 w)
  have HAL := Lib.hid (fun X (hX : Below w.heap.size w X) => all_any s X hm (he.on hX))
  unfold AllPost at HAL
  have hsr := (toks_of s hx).src
  rw [hx] at HAL
  generalize (allL s.data.toList).pl = pl at *
  generalize (allL s.data.toList).toks = ts at *
  have HEN := Lib.hid (fun X (hX : Below w.heap.size w X) => he.on hX)
  have HSR := Lib.hid hsr
  have hlt : 0 < ts.length := text_lt hwd (by decide +kernel)
  have hll := hsr.len
  clear he hx hm hsr
  go_enter Tryz.func7, Tryz.ntmps7
  go_upto_region 4 with (go_at_call 15; refine (HAL.out _ (HB.out _)).mono ?_; rintro e w1 ⟨v1, rfl, ht1, hb1⟩; have HB1 := Lib.hid ((HB.out _).trans (hb1.mono (HB.out _).size)); have HZ1 := Lib.hid ((Bk.new w _ _).on hb1); have HT1 := Lib.hid ht1; have hs1 : w.heap.size + 1 ≤ w1.heap.size := (by simpa using hb1.size); clear hb1 ht1)
  obtain ⟨q, c, rfl, hrd⟩ := tokrow_rd HT1.out
  have HRD := Lib.hid hrd
  clear hrd HT1
  go_upto_region 6 with fail
  have HR3 := Lib.hid (show Rb ((w1.alloc (.cells #[.string s, .slice q ts.length c, .int .i64 0, .int .i64 0, .int .i64 0] 55)).alloc (.cells #[.int .u8 0, .string ⟨#[]⟩, .int .i64 0, .int .u8 0, .string ⟨#[]⟩, .string ⟨#[]⟩, .int .i64 0, .string ⟨#[]⟩, .slice none 0 0, .slice none 0 0, .int .i64 0, .int .u8 0, .string ⟨#[]⟩, .string ⟨#[]⟩, .int .i64 0, .string ⟨#[]⟩, .slice none 0 0] 33)) w1.heap.size s q c ts 0 0 0 from ⟨(Bk.new w1 _ _).on (below1 _ _), (HRD.out.below (below1 w1 _) (Nat.le_refl _)).below (below1 _ _) (by simp), Nat.zero_le _, HSR.out, fun w' hb => HEN.out _ (((HB1.out.trans ((below1 w1 _).mono HB1.out.size)).trans ((below1 _ _).mono (by simp; omega))).trans (hb.mono (by omega)))⟩)
  have HM3 := Lib.hid (show Bk ((w1.alloc (.cells #[.string s, .slice q ts.length c, .int .i64 0, .int .i64 0, .int .i64 0] 55)).alloc (.cells #[.int .u8 0, .string ⟨#[]⟩, .int .i64 0, .int .u8 0, .string ⟨#[]⟩, .string ⟨#[]⟩, .int .i64 0, .string ⟨#[]⟩, .slice none 0 0, .slice none 0 0, .int .i64 0, .int .u8 0, .string ⟨#[]⟩, .string ⟨#[]⟩, .int .i64 0, .string ⟨#[]⟩, .slice none 0 0] 33)) (w1.heap.size + 1) 33 #[.int .u8 0, .string ⟨#[]⟩, .int .i64 0, .int .u8 0, .string ⟨#[]⟩, .string ⟨#[]⟩, .int .i64 0, .string ⟨#[]⟩, .slice none 0 0, .slice none 0 0, .int .i64 0, .int .u8 0, .string ⟨#[]⟩, .string ⟨#[]⟩, .int .i64 0, .string ⟨#[]⟩, .slice none 0 0] from (by simpa using Bk.new (w1.alloc (.cells #[.string s, .slice q ts.length c, .int .i64 0, .int .i64 0, .int .i64 0] 55)) 33 #[.int .u8 0, .string ⟨#[]⟩, .int .i64 0, .int .u8 0, .string ⟨#[]⟩, .string ⟨#[]⟩, .int .i64 0, .string ⟨#[]⟩, .slice none 0 0, .slice none 0 0, .int .i64 0, .int .u8 0, .string ⟨#[]⟩, .string ⟨#[]⟩, .int .i64 0, .string ⟨#[]⟩, .slice none 0 0]))
  have HZ3 := Lib.hid ((HZ1.out.on (below1 w1 (.cells #[.string s, .slice q ts.length c, .int .i64 0, .int .i64 0, .int .i64 0] 55))).on (below1 _ (.cells #[.int .u8 0, .string ⟨#[]⟩, .int .i64 0, .int .u8 0, .string ⟨#[]⟩, .string ⟨#[]⟩, .int .i64 0, .string ⟨#[]⟩, .slice none 0 0, .slice none 0 0, .int .i64 0, .int .u8 0, .string ⟨#[]⟩, .string ⟨#[]⟩, .int .i64 0, .string ⟨#[]⟩, .slice none 0 0] 33)))
  have HB3 := Lib.hid ((HB1.out.trans ((below1 w1 (.cells #[.string s, .slice q ts.length c, .int .i64 0, .int .i64 0, .int .i64 0] 55)).mono HB1.out.size)).trans ((below1 _ (.cells #[.int .u8 0, .string ⟨#[]⟩, .int .i64 0, .int .u8 0, .string ⟨#[]⟩, .string ⟨#[]⟩, .int .i64 0, .string ⟨#[]⟩, .slice none 0 0, .slice none 0 0, .int .i64 0, .int .u8 0, .string ⟨#[]⟩, .string ⟨#[]⟩, .int .i64 0, .string ⟨#[]⟩, .slice none 0 0] 33)).mono (by simp; omega)))
  have hs3 : ((w1.alloc (.cells #[.string s, .slice q ts.length c, .int .i64 0, .int .i64 0, .int .i64 0] 55)).alloc (.cells #[.int .u8 0, .string ⟨#[]⟩, .int .i64 0, .int .u8 0, .string ⟨#[]⟩, .string ⟨#[]⟩, .int .i64 0, .string ⟨#[]⟩, .slice none 0 0, .slice none 0 0, .int .i64 0, .int .u8 0, .string ⟨#[]⟩, .string ⟨#[]⟩, .int .i64 0, .string ⟨#[]⟩, .slice none 0 0] 33)).heap.size = w1.heap.size + 2 := by simp
  generalize (w1.alloc (.cells #[.string s, .slice q ts.length c, .int .i64 0, .int .i64 0, .int .i64 0] 55)).alloc (.cells #[.int .u8 0, .string ⟨#[]⟩, .int .i64 0, .int .u8 0, .string ⟨#[]⟩, .string ⟨#[]⟩, .int .i64 0, .string ⟨#[]⟩, .slice none 0 0, .slice none 0 0, .int .i64 0, .int .u8 0, .string ⟨#[]⟩, .string ⟨#[]⟩, .int .i64 0, .string ⟨#[]⟩, .slice none 0 0] 33) = W3 at *
  clear HB1 HZ1 HRD HB HAL
  have HLE := Lib.hid (leads_any w1.heap.size (w1.heap.size + 1) W3)
  rw [hs3] at HLE
  simp only [Nat.add_assoc, Nat.reduceAdd] at HLE
  go_wp2_with fail
  refine HLE.out.mono ?_
  rintro e w4 ⟨rfl, hw4⟩
  have hb4 : Below W3.heap.size W3 w4 := by
    rw [hw4]
    exact (((Below.refl _ _).alloc (Nat.le_refl _) _).alloc (by simp) _).alloc (by simp; omega) _
  have HXR := Lib.hid (show Bk w4 (w1.heap.size + 2) 53 #[.pointer (some ⟨w1.heap.size, 0, none⟩)] from by
    rw [hw4, ← hs3]
    exact ((Bk.new W3 _ _).on (below1 _ _)).on (below1 _ _))
  have HXQ := Lib.hid (show Bk w4 (w1.heap.size + 3) 59 #[.pointer (some ⟨w1.heap.size + 1, 0, none⟩)] from by
    rw [hw4]
    have := (Bk.new (W3.alloc (.cells #[.pointer (some ⟨w1.heap.size, 0, none⟩)] 53)) 59 #[.pointer (some ⟨w1.heap.size + 1, 0, none⟩)]).on (below1 _ (.map (leadE5 (w1.heap.size + 3) (w1.heap.size + 2)) 5))
    simpa [hs3] using this)
  have HMP := Lib.hid (show w4.heap[w1.heap.size + 4]? = some (.map (leadE5 (w1.heap.size + 3) (w1.heap.size + 2)) 5) from by
    rw [hw4]
    have := heap_alloc_new ((W3.alloc (.cells #[.pointer (some ⟨w1.heap.size, 0, none⟩)] 53)).alloc (.cells #[.pointer (some ⟨w1.heap.size + 1, 0, none⟩)] 59)) (.map (leadE5 (w1.heap.size + 3) (w1.heap.size + 2)) 5)
    simpa [hs3] using this)
  have hs4 : w4.heap.size = w1.heap.size + 5 := by rw [hw4]; simp [hs3]
  clear hw4 HLE
  have HR4 := Lib.hid (HR3.out.on hb4)
  have HM4 := Lib.hid (HM3.out.on hb4)
  have HZ4 := Lib.hid (HZ3.out.on hb4)
  have HB4 := Lib.hid (HB3.out.trans (hb4.mono HB3.out.size))
  clear hb4 HR3 HM3 HZ3 HB3
  have HSP := Lib.hid (rspelt_any w4 w1.heap.size s q c ts 0 0 0 HR4.out)
  rw [hwd] at HSP
  clear hwd
  go_wp2_with fail
  refine HSP.out.mono ?_
  rintro e w5 ⟨rfl, hb5⟩
  have hlk := lookL w5 (w1.heap.size + 4) (w1.heap.size + 3) (w1.heap.size + 2) wdAudit ((hb5.block _ (by omega)).trans HMP.out)
  rw [leadOf_audit] at hlk
  have HR5 := Lib.hid (HR4.out.on hb5)
  have HM5 := Lib.hid (HM4.out.on hb5)
  have HZ5 := Lib.hid (HZ4.out.on hb5)
  have HX5 := Lib.hid (HXR.out.on hb5)
  have HY5 := Lib.hid (HXQ.out.on hb5)
  have HB5 := Lib.hid (HB4.out.trans (hb5.mono HB4.out.size))
  have hs5 : w1.heap.size + 5 ≤ w5.heap.size := hs4 ▸ hb5.size
  clear hb5 HR4 HM4 HZ4 HB4 HXR HXQ HMP HSP hs4
  unfold leadFn at hlk
  have c2 := HR5.out.c2
  have f2 := HR5.out.box.soft 2
  go_upto_region 9 with fail
  clear hlk c2 f2
  have HR6 := Lib.hid (HR5.out.set 1 (by omega))
  have hb6 : Below w1.heap.size w5 (w5.setCell ⟨w1.heap.size, 2, none⟩ (.int .i64 ((1 : Nat) : Int))) := (Below.refl _ _).setCell (p := ⟨w1.heap.size, 2, none⟩) (Nat.le_refl _) _
  have HZ6 := Lib.hid (HZ5.out.below hb6 (by omega))
  have HB6 := Lib.hid (HB5.out.trans (hb6.mono (by omega)))
  have HL6 := Lib.hid (show LD (w5.setCell ⟨w1.heap.size, 2, none⟩ (.int .i64 ((1 : Nat) : Int))) w1.heap.size (w1.heap.size + 1) (w1.heap.size + 2) (w1.heap.size + 3) s q c ts 1 0 0 (rqC 0 ⟨#[]⟩ 0 kpZ 0 lpZ) (w5.setCell ⟨w1.heap.size, 2, none⟩ (.int .i64 ((1 : Nat) : Int))) from ⟨HR6.out, HM5.out.other (by omega) 2 _, HX5.out.other (by omega) 2 _, HY5.out.other (by omega) 2 _, Two.refl _ _ _, ⟨by omega, by omega, by omega⟩⟩)
  have hs6 : w1.heap.size + 5 ≤ (w5.setCell ⟨w1.heap.size, 2, none⟩ (.int .i64 ((1 : Nat) : Int))).heap.size := by simpa [World.setCell] using hs5
  rw [show ((1 : Nat) : Int) = 1 from rfl] at HL6 HZ6 HB6 hs6
  clear HR6 HR5 HM5 HZ5 HX5 HY5 HB5 hb6 hs5
  generalize w5.setCell ⟨w1.heap.size, 2, none⟩ (.int .i64 1) = w6 at *
  have HC := Lib.hid (lead5_any HL6.out)
  unfold LeadPost at HC
  generalize audR s ts = R at *
  match R, HC with
  | .error (n, p), HC =>
    go_upto_region 11 with (go_at_call 55; refine HC.out.mono ?_; rintro e w7 ⟨rfl, hn0, k7, cs7, hld⟩; have HR7 := Lib.hid hld.r; have HT7 := Lib.hid hld.t; clear hld)
    have HZ7 := Lib.hid (HZ6.out.two HT7.out (by omega) (by omega))
    have HBW := Lib.hid (Two.belowAt HB6.out HT7.out (by omega) (by omega) (by omega))
    have c3 := HR7.out.c3
    have c4 := HR7.out.c4
    have hnn : (n != 0) = true := by rw [bne_iff_ne]; exact hn0
    go_upto_region 12 with fail
    have HZ8 := Lib.hid (HZ7.out.on (Below.refl w7.heap.size w7).drew)
    have HR8 := Lib.hid (HR7.out.on (Below.refl w7.heap.size w7).drew)
    have HB8 := Lib.hid ((HBW.out).drew)
    refine wp_region_held_drew (S := fun X => X.cell? ⟨w1.heap.size, 3, none⟩ = some (.int .i64 p) ∧ X.cell? ⟨w1.heap.size, 4, none⟩ = some (.int .i64 n)) (by kernel_rfl) ⟨c3, c4⟩ (fun hHeld => ?_)
    refine wpAnyH_take (i := 0) (v := ?_) rfl (by kernel_rfl) (by kernel_rfl) (by kernel_rfl) (fun _ _ _ h => h) (Or.inl ⟨by rfl, ?hy⟩) (by assumption) ?_
    case hy =>
      intro wx hSw
      obtain ⟨q0, q1⟩ := hSw
      go_simp
      all_goals with_reducible rfl
    (try simp only [Act.put, List.getElem_toArray, List.getElem_cons_succ, List.getElem_cons_zero, List.setIfInBounds_toArray, List.set_cons_zero, List.set_cons_succ])
    refine wpAnyH_take (i := 1) (v := ?_) rfl (by kernel_rfl) (by kernel_rfl) (by kernel_rfl) (fun _ _ _ h => h) (Or.inl ⟨by rfl, ?hy⟩) (by assumption) ?_
    case hy =>
      intro wx hSw
      obtain ⟨q0, q1⟩ := hSw
      go_simp
      all_goals with_reducible rfl
    (try simp only [Act.put, List.getElem_toArray, List.getElem_cons_succ, List.getElem_cons_zero, List.setIfInBounds_toArray, List.set_cons_zero, List.set_cons_succ])
    refine wpAnyH_take (i := 2) (v := ?_) rfl (by kernel_rfl) (by kernel_rfl) (by kernel_rfl) (fun _ _ _ h => h) (Or.inl ⟨by rfl, ?hy⟩) (by assumption) ?_
    case hy =>
      intro wx hSw
      obtain ⟨q0, q1⟩ := hSw
      go_simp
      all_goals with_reducible rfl
    (try simp only [Act.put, List.getElem_toArray, List.getElem_cons_succ, List.getElem_cons_zero, List.setIfInBounds_toArray, List.set_cons_zero, List.set_cons_succ])
    refine wpAnyH_take (i := 3) (v := ?_) rfl (by kernel_rfl) (by kernel_rfl) (by kernel_rfl) (fun _ _ _ h => h) (Or.inl ⟨by rfl, ?hy⟩) (by assumption) ?_
    case hy =>
      intro wx hSw
      obtain ⟨q0, q1⟩ := hSw
      go_simp
      all_goals with_reducible rfl
    (try simp only [Act.put, List.getElem_toArray, List.getElem_cons_succ, List.getElem_cons_zero, List.setIfInBounds_toArray, List.set_cons_zero, List.set_cons_succ])
    refine wpAnyH_take (i := 4) (v := ?_) rfl (by kernel_rfl) (by kernel_rfl) (by kernel_rfl) (fun _ _ _ h => h) (Or.inl ⟨by rfl, ?hy⟩) (by assumption) ?_
    case hy =>
      intro wx hSw
      obtain ⟨q0, q1⟩ := hSw
      go_simp
      all_goals with_reducible rfl
    (try simp only [Act.put, List.getElem_toArray, List.getElem_cons_succ, List.getElem_cons_zero, List.setIfInBounds_toArray, List.set_cons_zero, List.set_cons_succ])
    refine wpAnyH_take (i := 5) (v := ?_) rfl (by kernel_rfl) (by kernel_rfl) (by kernel_rfl) (fun _ _ _ h => h) (Or.inl ⟨by rfl, ?hy⟩) (by assumption) ?_
    case hy =>
      intro wx hSw
      obtain ⟨q0, q1⟩ := hSw
      go_simp
      all_goals with_reducible rfl
    (try simp only [Act.put, List.getElem_toArray, List.getElem_cons_succ, List.getElem_cons_zero, List.setIfInBounds_toArray, List.set_cons_zero, List.set_cons_succ])
    refine wpAnyH_take (i := 6) (v := ?_) rfl (by kernel_rfl) (by kernel_rfl) (by kernel_rfl) (fun _ _ _ h => h) (Or.inl ⟨by rfl, ?hy⟩) (by assumption) ?_
    case hy =>
      intro wx hSw
      obtain ⟨q0, q1⟩ := hSw
      go_simp
      all_goals with_reducible rfl
    (try simp only [Act.put, List.getElem_toArray, List.getElem_cons_succ, List.getElem_cons_zero, List.setIfInBounds_toArray, List.set_cons_zero, List.set_cons_succ])
    refine wpAnyH_take (i := 7) (v := ?_) rfl (by kernel_rfl) (by kernel_rfl) (by kernel_rfl) (fun _ _ _ h => h) (Or.inl ⟨by rfl, ?hy⟩) (by assumption) ?_
    case hy =>
      intro wx hSw
      obtain ⟨q0, q1⟩ := hSw
      go_simp
      all_goals with_reducible rfl
    (try simp only [Act.put, List.getElem_toArray, List.getElem_cons_succ, List.getElem_cons_zero, List.setIfInBounds_toArray, List.set_cons_zero, List.set_cons_succ])
    refine wpAnyH_take (i := 8) (v := ?_) rfl (by kernel_rfl) (by kernel_rfl) (by kernel_rfl) (fun _ _ _ h => h) (Or.inl ⟨by rfl, ?hy⟩) (by assumption) ?_
    case hy =>
      intro wx hSw
      obtain ⟨q0, q1⟩ := hSw
      go_simp
      all_goals with_reducible rfl
    (try simp only [Act.put, List.getElem_toArray, List.getElem_cons_succ, List.getElem_cons_zero, List.setIfInBounds_toArray, List.set_cons_zero, List.set_cons_succ])
    refine wpAnyH_ready (rs := [9]) (by kernel_rfl) (by simp) ?_
    refine AllReadyH.cons rfl (fun K hK => ?_) AllReadyH.nil
    rw [if_pos (by rfl)]
    refine wp_store_mid 33 (.tmp 2) (.tmp 54) rfl w.heap.size 0 (rqC 0 ⟨#[]⟩ 0 kpZ 0 lpZ) rfl rfl HZ8.out.there (by rw [sizeReq]; rfl) (rqC_one _ _ _ _ _ _) ?_
    have HB9 := Lib.hid (HB8.out.trans (below_setCells (rqC 0 ⟨#[]⟩ 0 kpZ 0 lpZ).toList w.heap.size 0 w7.drew (Nat.le_refl _)))
    have HR9 := Lib.hid (HR8.out.box.apart (show w1.heap.size ≠ w.heap.size by omega) (rqC 0 ⟨#[]⟩ 0 kpZ 0 lpZ).toList)
    have HZ9 := Lib.hid (HZ8.out.setAll 0 ⟨#[]⟩ 0 kpZ 0 lpZ ⟨_, _, _, kpZ, _, lpZ, rfl⟩)
    generalize w7.drew.setCells w.heap.size 0 (rqC 0 ⟨#[]⟩ 0 kpZ 0 lpZ).toList = w9 at *
    refine hK.out _ _ (⟨HR9.out.cell 3 _ rfl, HR9.out.cell 4 _ rfl⟩) (fun hHeld => ?_)
    clear hK K
    (try simp only [Act.put, List.getElem_toArray, List.getElem_cons_succ, List.getElem_cons_zero, List.setIfInBounds_toArray, List.set_cons_zero, List.set_cons_succ])
    refine wpAnyH_take (i := 10) (v := ?_) rfl (by kernel_rfl) (by kernel_rfl) (by kernel_rfl) (fun _ _ _ h => h) (Or.inl ⟨by rfl, ?hy⟩) (by assumption) ?_
    case hy =>
      intro wx hSw
      obtain ⟨q0, q1⟩ := hSw
      go_simp
      all_goals with_reducible rfl
    (try simp only [Act.put, List.getElem_toArray, List.getElem_cons_succ, List.getElem_cons_zero, List.setIfInBounds_toArray, List.set_cons_zero, List.set_cons_succ])
    refine wpAnyH_take (i := 11) (v := ?_) rfl (by kernel_rfl) (by kernel_rfl) (by kernel_rfl) (fun _ _ _ h => h) (Or.inl ⟨by rfl, ?hy⟩) (by assumption) ?_
    case hy =>
      intro wx hSw
      obtain ⟨q0, q1⟩ := hSw
      go_simp
      all_goals with_reducible rfl
    (try simp only [Act.put, List.getElem_toArray, List.getElem_cons_succ, List.getElem_cons_zero, List.setIfInBounds_toArray, List.set_cons_zero, List.set_cons_succ])
    refine wpAnyH_done (by kernel_rfl) ?_ _
    go_wp2_with fail
    refine bodyPost_ret (results_req rfl _ _ w.heap.size 0 ⟨#[]⟩ 0 kpZ 0 lpZ rfl HZ9.out) rfl ?_
    exact ⟨rfl, HB9.out⟩
  | .ok r, HC =>
    go_upto_region 11 with (go_at_call 55; refine HC.out.mono ?_; rintro e w7 ⟨rfl, k7, cs7, hld, hrm⟩; have HR7 := Lib.hid hld.r; have HT7 := Lib.hid hld.t; have HM7 := Lib.hid hld.m; clear hld)
    have HZ7 := Lib.hid (HZ6.out.two HT7.out (by omega) (by omega))
    have HBW := Lib.hid (Two.belowAt HB6.out HT7.out (by omega) (by omega) (by omega))
    obtain ⟨kd, lb, lf, cl, no, lp, rfl⟩ := hrm.form
    have HRM := Lib.hid hrm
    clear hrm
    have c4 := HR7.out.c4
    obtain ⟨d9, hu9, hd9⟩ := rowReq
    go_upto_region 13 with fail
    refine wp_region_list (show wpList _ _ _ (_ :: _ :: _) _ _ from ?_)
    refine wpList_load_mid rfl 33 (.tmp 9) rfl (w1.heap.size + 1) 0 rfl (rqC kd lb lf cl no lp).toList d9 HM7.out.range hu9 hd9 (by rw [sizeReq]; rfl) ?_
    refine wpList_store_mid rfl 33 (.tmp 2) (.tmp 63) rfl w.heap.size 0 (rqC kd lb lf cl no lp) rfl rfl HZ7.out.there (by rw [sizeReq]; rfl) (rqC_one _ _ _ _ _ _) ?_
    have HB8 := Lib.hid (HBW.out.trans (below_setCells (rqC kd lb lf cl no lp).toList w.heap.size 0 w7 (Nat.le_refl _)))
    have HZ8 := Lib.hid (HZ7.out.setAll kd lb lf cl no lp ⟨_, _, _, kpZ, _, lpZ, rfl⟩)
    have HR8 := Lib.hid ((HRM.out.above (above_setCells (Above.refl (w.heap.size + 1) w7) (Nat.lt_succ_self _) (rqC kd lb lf cl no lp).toList) (by omega) (below_setCells (B := w.heap.size) (rqC kd lb lf cl no lp).toList w.heap.size 0 w7 (Nat.le_refl _)).size).mono (show w.heap.size ≤ w6.heap.size by omega))
    generalize w7.setCells w.heap.size 0 (rqC kd lb lf cl no lp).toList = w9 at *
    go_wp2_with fail
    refine bodyPost_ret (results_req rfl _ _ w.heap.size kd lb lf cl no lp rfl HZ8.out) rfl ?_
    exact ⟨_, rfl, HR8.out, HB8.out⟩
theorem reqparse_any (s : ByteArray) (w : World) (hm : s.size ≤ 140737488351232) (he : Env w) : Calls Tryz.prog 7 #[.string s] w (ReqPost w (reqR s)) := by
  unfold reqR
  by_cases hx : (allL s.data.toList).err = 0
  · rw [if_pos hx]
    unfold reqT
    by_cases h1 : textAt s (allL s.data.toList).toks 0 = wdAssert
    · rw [if_pos h1]; exact reqparse_assert s w hm he hx h1
    · rw [if_neg h1]
      by_cases h2 : textAt s (allL s.data.toList).toks 0 = wdRevoke
      · rw [if_pos h2]; exact reqparse_revoke s w hm he hx h2
      · rw [if_neg h2]
        by_cases h3 : textAt s (allL s.data.toList).toks 0 = wdQuery
        · rw [if_pos h3]; exact reqparse_query s w hm he hx h3
        · rw [if_neg h3]
          by_cases h4 : textAt s (allL s.data.toList).toks 0 = wdProve
          · rw [if_pos h4]; exact reqparse_prove s w hm he hx h4
          · rw [if_neg h4]
            by_cases h5 : textAt s (allL s.data.toList).toks 0 = wdAudit
            · rw [if_pos h5]; exact reqparse_audit s w hm he hx h5
            · rw [if_neg h5]; exact reqparse_none s w hm he hx ⟨h1, h2, h3, h4, h5⟩
  · rw [if_neg hx]; exact reqparse_lex s w hm he hx
end Go.Proofs.YtfmkfabbiifolaaGreatDoor
