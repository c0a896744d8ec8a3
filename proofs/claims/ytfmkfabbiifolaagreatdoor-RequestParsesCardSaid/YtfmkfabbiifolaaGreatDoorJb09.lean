/-
  Joined of: Rqj.
-/
import Derived.Test.YtfmkfabbiifolaaGreatDoorJa23
import Derived.Test.YtfmkfabbiifolaaGreatDoorJb04
import Derived.Test.YtfmkfabbiifolaaGreatDoorJb08
import Derived.Test.YtfmkfabbiifolaaGreatDoorJb05
set_option linter.unusedVariables false
set_option linter.unusedSimpArgs false
/-
  Contract: the reference's Parse. (Made by tools/mk_rqj.py.)
-/
set_option linter.unusedVariables false
set_option linter.unusedSimpArgs false
namespace Go.Proofs.YtfmkfabbiifolaaGreatDoor
open Go.RowKit

/-- the reference's request so far, behind w1 -/
structure RD (w1 : World) (cs : Array Value) (X : World) : Prop where
  b : Below w1.heap.size w1 X
  m : Bk X w1.heap.size 33 cs
theorem RD.on {w1 X X' : World} {cs : Array Value} (h : RD w1 cs X) (hb : Below X.heap.size X X') : RD w1 cs X' := ⟨h.b.trans (hb.mono h.b.size), h.m.on hb⟩
theorem RD.store {w1 X : World} {cs : Array Value} (h : RD w1 cs X) (i : Nat) (v : Value) : RD w1 (cs.setIfInBounds i v) (X.setCell ⟨w1.heap.size, i, none⟩ v) :=
  ⟨h.b.trans ((Below.refl w1.heap.size X).setCell (p := ⟨w1.heap.size, i, none⟩) (Nat.le_refl _) v), h.m.set i v⟩
theorem word_is {s : ByteArray} {ts : List Tok} {k : Nat} {c : UInt8} {r : List UInt8} (ht : TokS s ts) (h : textAt s ts k = ⟨(c :: r).toArray⟩) (hc : lowB (c.toNat : Int) = true) (h1 : kindL (c :: r) = 1) : wordR s ts k 1 = textAt s ts k := if_pos (ht.word h hc h1)
theorem word_not {s : ByteArray} {ts : List Tok} {k : Nat} {kd : Int} {x : ByteArray} (h : textAt s ts k ≠ x) (hx : x ≠ ⟨#[]⟩) : wordR s ts k kd ≠ x := by
  unfold wordR
  split
  · exact h
  · exact fun e => hx e.symm
theorem word_num {s : ByteArray} {ts : List Tok} {k : Nat} (ht : TokS s ts) : numR (wordR s ts k 3) = numR (textAt s ts k) := by
  unfold wordR
  split
  · rfl
  · rename_i h
    rw [numR_empty]
    by_cases h0 : numR (textAt s ts k) = 0
    · exact h0.symm
    · exact absurd (ht.num h0) h
theorem sizeReqC (kd : Int) (lb : ByteArray) (lf : Int) (cl : Kp) (no : Int) (lp : Lp) : (Tryz.prog.info? 33).map (·.size) = some (rqC kd lb lf cl no lp).size := by rw [sizeReq]; rfl
theorem ba_beqF {x : ByteArray} {l : List UInt8} (h : x ≠ ⟨l.toArray⟩) : (x.toList == l) = false := beq_eq_false_iff_ne.2 fun e => by
  rw [ByteArray.toList_eq] at e
  exact h (by rcases x with ⟨⟨a⟩⟩; cases e; rfl)
theorem ba_list {x : ByteArray} {l : List UInt8} (h : x ≠ ⟨l.toArray⟩) : ¬ x.toList = l := fun e => by
  rw [ByteArray.toList_eq] at e
  exact h (by rcases x with ⟨⟨a⟩⟩; cases e; rfl)
set_option maxHeartbeats 16000000 in
set_option maxRecDepth 100000 in
theorem refparse_lex (s : ByteArray) (w : World) (hm : s.size ≤ 140737488351232) (hx : (allL s.data.toList).err ≠ 0) :
    Calls Tryz.prog 8 #[.string s] w (ReqPost w (.error ((allL s.data.toList).err, (allL s.data.toList).pl))) := by
  have HB := Lib.hid (below1 w)
  have HAL := Lib.hid (fun X => refall_any s X hm)
  unfold AllPost at HAL
  have hx1 : ((allL s.data.toList).err != 0) = true := by rw [bne_iff_ne]; exact hx
  generalize (allL s.data.toList).err = er at *
  generalize (allL s.data.toList).pl = pl at *
  clear hx hm
  go_enter Tryz.func8, Tryz.ntmps8
  go_upto_region 3 with (go_at_call 20; refine (HAL.out _).mono ?_; rintro e w1 ⟨v1, rfl, ht1, hb1⟩; have HB1 := Lib.hid ((HB.out _).trans (hb1.mono (HB.out _).size)); have HZ1 := Lib.hid (show Bk w1 w.heap.size 33 (rqC 0 ⟨#[]⟩ 0 kpZ 0 lpZ) from (Bk.new w _ _).on hb1); have HT1 := Lib.hid ht1; have hs1 : w.heap.size + 1 ≤ w1.heap.size := (by simpa using hb1.size); clear hb1 ht1)
  refine wp_region_list (show wpList _ _ _ (_ :: _ :: _ :: _ :: _) _ _ from ?_)
  refine wpList_plain rfl (fun K hK => ?_)
  go_simp
  refine hK _ _ ?_
  clear hK K
  refine wpList_plain rfl (fun K hK => ?_)
  go_simp
  refine hK _ _ ?_
  clear hK K
  refine wpList_plain rfl (fun K hK => ?_)
  go_simp
  refine hK _ _ ?_
  clear hK K
  refine wpList_store_mid rfl 33 (.tmp 2) _ rfl w.heap.size 0 (rqC 0 ⟨#[]⟩ 0 kpZ 0 lpZ) rfl rfl HZ1.out.there (sizeReqC _ _ _ _ _ _) (rqC_one _ _ _ _ _ _) ?_
  have HZ8 := Lib.hid (HZ1.out.setAll 0 ⟨#[]⟩ 0 kpZ 0 lpZ ⟨_, _, _, kpZ, _, lpZ, rfl⟩)
  have HB8 := Lib.hid (HB1.out.trans (below_setCells (rqC 0 ⟨#[]⟩ 0 kpZ 0 lpZ).toList w.heap.size 0 w1 (Nat.le_refl _)))
  generalize w1.setCells w.heap.size 0 (rqC 0 ⟨#[]⟩ 0 kpZ 0 lpZ).toList = w9 at *
  go_wp2_with fail
  refine bodyPost_ret (results_req rfl _ _ w.heap.size 0 ⟨#[]⟩ 0 kpZ 0 lpZ rfl HZ8.out) rfl ?_
  exact ⟨rfl, HB8.out⟩
set_option maxHeartbeats 16000000 in
set_option maxRecDepth 100000 in
theorem refparse_none (s : ByteArray) (w : World) (hm : s.size ≤ 140737488351232) (hx : (allL s.data.toList).err = 0) (hwd : leadNo (textAt s (allL s.data.toList).toks 0)) :
    Calls Tryz.prog 8 #[.string s] w (ReqPost w (.error (6, placeAt s (allL s.data.toList).toks 0))) := by
  have HB := Lib.hid (below1 w)
  have HAL := Lib.hid (fun X => refall_any s X hm)
  unfold AllPost at HAL
  have hts := toks_of s hx
  have hsr := hts.src
  rw [hx] at HAL
  generalize (allL s.data.toList).pl = pl at *
  generalize (allL s.data.toList).toks = ts at *
  have hll := hsr.len
  have hsz := hsr.size
  obtain ⟨n1, n2, n3, n4, n5⟩ := hwd
  have l1 := ba_beqF (l := [97, 115, 115, 101, 114, 116]) (word_not (kd := 1) (show textAt s ts 0 ≠ ⟨#[97, 115, 115, 101, 114, 116]⟩ from n1) (by decide +kernel))
  have l2 := ba_beqF (l := [114, 101, 118, 111, 107, 101]) (word_not (kd := 1) (show textAt s ts 0 ≠ ⟨#[114, 101, 118, 111, 107, 101]⟩ from n2) (by decide +kernel))
  have l3 := ba_beqF (l := [113, 117, 101, 114, 121]) (word_not (kd := 1) (show textAt s ts 0 ≠ ⟨#[113, 117, 101, 114, 121]⟩ from n3) (by decide +kernel))
  have l4 := ba_beqF (l := [112, 114, 111, 118, 101]) (word_not (kd := 1) (show textAt s ts 0 ≠ ⟨#[112, 114, 111, 118, 101]⟩ from n4) (by decide +kernel))
  have l5 := ba_beqF (l := [97, 117, 100, 105, 116]) (word_not (kd := 1) (show textAt s ts 0 ≠ ⟨#[97, 117, 100, 105, 116]⟩ from n5) (by decide +kernel))
  go_enter Tryz.func8, Tryz.ntmps8
  go_upto_region 4 with (go_at_call 20; refine (HAL.out _).mono ?_; rintro e w1 ⟨v1, rfl, ht1, hb1⟩; have HB1 := Lib.hid ((HB.out _).trans (hb1.mono (HB.out _).size)); have HZ1 := Lib.hid (show Bk w1 w.heap.size 33 (rqC 0 ⟨#[]⟩ 0 kpZ 0 lpZ) from (Bk.new w _ _).on hb1); have HT1 := Lib.hid ht1; have hs1 : w.heap.size + 1 ≤ w1.heap.size := (by simpa using hb1.size); clear hb1 ht1)
  obtain ⟨q, c, rfl, hrd⟩ := tokrow_rd HT1.out
  have HWD := Lib.hid (fun (k : Nat) (kd : Int) (X : World) (hX : Below w1.heap.size w1 X) (hkd : kd ≠ 0) => refword_any X s q c ts k kd (hrd.grow hX) hsr hkd)
  have HPL := Lib.hid (fun (k : Nat) (X : World) (hX : Below w1.heap.size w1 X) => refplace_any X s q c ts k (hrd.grow hX) hll)
  clear hrd HT1 HAL HB hm hx
  go_upto_region 5 with fail
  have HD := Lib.hid (show RD w1 (rqC 0 ⟨#[]⟩ 0 kpZ 0 lpZ) (w1.alloc (.cells #[.int .u8 0, .string ⟨#[]⟩, .int .i64 0, .int .u8 0, .string ⟨#[]⟩, .string ⟨#[]⟩, .int .i64 0, .string ⟨#[]⟩, .slice none 0 0, .slice none 0 0, .int .i64 0, .int .u8 0, .string ⟨#[]⟩, .string ⟨#[]⟩, .int .i64 0, .string ⟨#[]⟩, .slice none 0 0] 33)) from ⟨below1 w1 _, Bk.new w1 _ _⟩)
  generalize w1.alloc (.cells #[.int .u8 0, .string ⟨#[]⟩, .int .i64 0, .int .u8 0, .string ⟨#[]⟩, .string ⟨#[]⟩, .int .i64 0, .string ⟨#[]⟩, .slice none 0 0, .slice none 0 0, .int .i64 0, .int .u8 0, .string ⟨#[]⟩, .string ⟨#[]⟩, .int .i64 0, .string ⟨#[]⟩, .slice none 0 0] 33) = W2 at *
  generalize hw0 : wordR s ts 0 1 = W0 at *
  have HW0 := Lib.hid (show ∀ X, Below w1.heap.size w1 X → Calls Tryz.prog 21 #[.string s, .slice q ts.length c, .int .i64 0, .int .u8 1] X (fun e w' => e = .returned (.string W0) ∧ Below X.heap.size X w') from fun X hX => hw0 ▸ HWD.out 0 1 X hX (by decide))
  have HP0 := Lib.hid (show ∀ X, Below w1.heap.size w1 X → Calls Tryz.prog 22 #[.string s, .slice q ts.length c, .int .i64 0] X (fun e w' => e = .returned (.int .i64 (placeAt s ts 0)) ∧ w' = X) from fun X hX => HPL.out 0 X hX)
  clear hw0 n1 n2 n3 n4 n5 HWD HPL hts hsr
  go_upto_region 47 with (go_at_call 21; refine (HW0.out _ HD.out.b).mono ?_; rintro e x0 ⟨rfl, hbx⟩; replace HD := Lib.hid (HD.out.on hbx); clear hbx)
  go_wp2_with (first | (go_at_call 22; refine (HP0.out _ HD.out.b).mono ?_; rintro e xp ⟨rfl, rfl⟩) | (with_reducible (show wpList _ _ _ (Oper.mk none (Op.store 33 (Operand.tmp 2) _) _ _ _ _ :: _) _ _); refine wpList_store_mid rfl 33 (.tmp 2) _ rfl w.heap.size 0 (rqC 0 ⟨#[]⟩ 0 kpZ 0 lpZ) rfl rfl (HZ1.out.on HD.out.b).there (sizeReqC _ _ _ _ _ _) (rqC_one _ _ _ _ _ _) ?_; have HZ8 := Lib.hid ((HZ1.out.on HD.out.b).setAll 0 ⟨#[]⟩ 0 kpZ 0 lpZ ⟨_, _, _, kpZ, _, lpZ, rfl⟩); have HB8 := Lib.hid (HB1.out.trans ((HD.out.b.mono (show w.heap.size ≤ w1.heap.size by omega)).trans (below_setCells (rqC 0 ⟨#[]⟩ 0 kpZ 0 lpZ).toList w.heap.size 0 _ (Nat.le_refl _))))))
  refine bodyPost_ret (results_req rfl _ _ w.heap.size 0 ⟨#[]⟩ 0 kpZ 0 lpZ rfl HZ8.out) rfl ?_
  exact ⟨rfl, HB8.out⟩
set_option maxHeartbeats 16000000 in
set_option maxRecDepth 100000 in
theorem refparse_assert_bad (s : ByteArray) (w : World) (hm : s.size ≤ 140737488351232) (hx : (allL s.data.toList).err = 0) (hwd : textAt s (allL s.data.toList).toks 0 = wdAssert) (hk : kindAt (allL s.data.toList).toks 1 ≠ 1) :
    Calls Tryz.prog 8 #[.string s] w (ReqPost w (.error (6, placeAt s (allL s.data.toList).toks 1))) := by
  have HB := Lib.hid (below1 w)
  have HAL := Lib.hid (fun X => refall_any s X hm)
  unfold AllPost at HAL
  have hts := toks_of s hx
  have hsr := hts.src
  rw [hx] at HAL
  generalize (allL s.data.toList).pl = pl at *
  generalize (allL s.data.toList).toks = ts at *
  have hll := hsr.len
  have hsz := hsr.size
  have hv0 : wordR s ts 0 1 = ⟨#[97, 115, 115, 101, 114, 116]⟩ := (word_is (c := 97) (r := [115, 115, 101, 114, 116]) hts hwd (by decide) (by kernel_rfl)).trans hwd
  have hv1 : wordR s ts 1 1 = ⟨#[]⟩ := if_neg hk
  go_enter Tryz.func8, Tryz.ntmps8
  go_upto_region 4 with (go_at_call 20; refine (HAL.out _).mono ?_; rintro e w1 ⟨v1, rfl, ht1, hb1⟩; have HB1 := Lib.hid ((HB.out _).trans (hb1.mono (HB.out _).size)); have HZ1 := Lib.hid (show Bk w1 w.heap.size 33 (rqC 0 ⟨#[]⟩ 0 kpZ 0 lpZ) from (Bk.new w _ _).on hb1); have HT1 := Lib.hid ht1; have hs1 : w.heap.size + 1 ≤ w1.heap.size := (by simpa using hb1.size); clear hb1 ht1)
  obtain ⟨q, c, rfl, hrd⟩ := tokrow_rd HT1.out
  have HWD := Lib.hid (fun (k : Nat) (kd : Int) (X : World) (hX : Below w1.heap.size w1 X) (hkd : kd ≠ 0) => refword_any X s q c ts k kd (hrd.grow hX) hsr hkd)
  have HPL := Lib.hid (fun (k : Nat) (X : World) (hX : Below w1.heap.size w1 X) => refplace_any X s q c ts k (hrd.grow hX) hll)
  clear hrd HT1 HAL HB hm hx
  go_upto_region 5 with fail
  have HD := Lib.hid (show RD w1 (rqC 0 ⟨#[]⟩ 0 kpZ 0 lpZ) (w1.alloc (.cells #[.int .u8 0, .string ⟨#[]⟩, .int .i64 0, .int .u8 0, .string ⟨#[]⟩, .string ⟨#[]⟩, .int .i64 0, .string ⟨#[]⟩, .slice none 0 0, .slice none 0 0, .int .i64 0, .int .u8 0, .string ⟨#[]⟩, .string ⟨#[]⟩, .int .i64 0, .string ⟨#[]⟩, .slice none 0 0] 33)) from ⟨below1 w1 _, Bk.new w1 _ _⟩)
  generalize w1.alloc (.cells #[.int .u8 0, .string ⟨#[]⟩, .int .i64 0, .int .u8 0, .string ⟨#[]⟩, .string ⟨#[]⟩, .int .i64 0, .string ⟨#[]⟩, .slice none 0 0, .slice none 0 0, .int .i64 0, .int .u8 0, .string ⟨#[]⟩, .string ⟨#[]⟩, .int .i64 0, .string ⟨#[]⟩, .slice none 0 0] 33) = W2 at *
  have HW0 := Lib.hid (show ∀ X, Below w1.heap.size w1 X → Calls Tryz.prog 21 #[.string s, .slice q ts.length c, .int .i64 0, .int .u8 1] X (fun e w' => e = .returned (.string ⟨#[97, 115, 115, 101, 114, 116]⟩) ∧ Below X.heap.size X w') from fun X hX => hv0 ▸ HWD.out 0 1 X hX (by decide))
  have HW1 := Lib.hid (show ∀ X, Below w1.heap.size w1 X → Calls Tryz.prog 21 #[.string s, .slice q ts.length c, .int .i64 1, .int .u8 1] X (fun e w' => e = .returned (.string ⟨#[]⟩) ∧ Below X.heap.size X w') from fun X hX => hv1 ▸ HWD.out 1 1 X hX (by decide))
  have HP1 := Lib.hid (show ∀ X, Below w1.heap.size w1 X → Calls Tryz.prog 22 #[.string s, .slice q ts.length c, .int .i64 1] X (fun e w' => e = .returned (.int .i64 (placeAt s ts 1)) ∧ w' = X) from fun X hX => HPL.out 1 X hX)
  clear hv0 hv1 HWD HPL hts hsr hk hwd
  go_upto_region 7 with (go_at_call 21; refine (HW0.out _ HD.out.b).mono ?_; rintro e x0 ⟨rfl, hbx⟩; replace HD := Lib.hid (HD.out.on hbx); clear hbx)
  have m0 := HD.out.m.cell 0 _ rfl
  have s0 := HD.out.m.soft 0
  go_upto_region 8 with fail
  clear m0 s0
  replace HD := Lib.hid (HD.out.store 0 (.int .u8 1))
  generalize x0.setCell ⟨w1.heap.size, 0, none⟩ (.int .u8 1) = y0 at *
  go_upto_region 9 with (go_at_call 21; refine (HW1.out _ HD.out.b).mono ?_; rintro e x1 ⟨rfl, hbx⟩; replace HD := Lib.hid (HD.out.on hbx); clear hbx; have m1 := HD.out.m.cell 1 _ rfl; have s1 := HD.out.m.soft 1)
  clear m1 s1
  replace HD := Lib.hid (HD.out.store 1 (.string ⟨#[]⟩))
  generalize x1.setCell ⟨w1.heap.size, 1, none⟩ (.string ⟨#[]⟩) = y1 at *
  have m1 := HD.out.m.cell 1 _ rfl
  have s1 := HD.out.m.soft 1
  go_wp2_with (first | (go_at_call 22; refine (HP1.out _ HD.out.b).mono ?_; rintro e xp ⟨rfl, rfl⟩) | (with_reducible (show wpList _ _ _ (Oper.mk none (Op.store 33 (Operand.tmp 2) _) _ _ _ _ :: _) _ _); refine wpList_store_mid rfl 33 (.tmp 2) _ rfl w.heap.size 0 (rqC 0 ⟨#[]⟩ 0 kpZ 0 lpZ) rfl rfl (HZ1.out.on HD.out.b).there (sizeReqC _ _ _ _ _ _) (rqC_one _ _ _ _ _ _) ?_; have HZ8 := Lib.hid ((HZ1.out.on HD.out.b).setAll 0 ⟨#[]⟩ 0 kpZ 0 lpZ ⟨_, _, _, kpZ, _, lpZ, rfl⟩); have HB8 := Lib.hid (HB1.out.trans ((HD.out.b.mono (show w.heap.size ≤ w1.heap.size by omega)).trans (below_setCells (rqC 0 ⟨#[]⟩ 0 kpZ 0 lpZ).toList w.heap.size 0 _ (Nat.le_refl _))))))
  refine bodyPost_ret (results_req rfl _ _ w.heap.size 0 ⟨#[]⟩ 0 kpZ 0 lpZ rfl HZ8.out) rfl ?_
  exact ⟨rfl, HB8.out⟩
set_option maxHeartbeats 16000000 in
set_option maxRecDepth 100000 in
theorem refparse_assert_num0 (s : ByteArray) (w : World) (hm : s.size ≤ 140737488351232) (hx : (allL s.data.toList).err = 0) (hwd : textAt s (allL s.data.toList).toks 0 = wdAssert) (hk : kindAt (allL s.data.toList).toks 1 = 1) (hf : forB s (allL s.data.toList).toks 2) (hn : numR (textAt s (allL s.data.toList).toks 3) = 0) :
    Calls Tryz.prog 8 #[.string s] w (ReqPost w (.error (6, placeAt s (allL s.data.toList).toks 3))) := by
  have HB := Lib.hid (below1 w)
  have HAL := Lib.hid (fun X => refall_any s X hm)
  unfold AllPost at HAL
  have hts := toks_of s hx
  have hsr := hts.src
  rw [hx] at HAL
  generalize (allL s.data.toList).pl = pl at *
  generalize (allL s.data.toList).toks = ts at *
  have hll := hsr.len
  have hsz := hsr.size
  have hv0 : wordR s ts 0 1 = ⟨#[97, 115, 115, 101, 114, 116]⟩ := (word_is (c := 97) (r := [115, 115, 101, 114, 116]) hts hwd (by decide) (by kernel_rfl)).trans hwd
  have hv1 : wordR s ts 1 1 = textAt s ts 1 := if_pos hk
  have hl1 := kindAt_lt (ts := ts) (k := 1) (by rw [hk]; decide)
  have hb1 : ((textAt s ts 1).size : Int) ≠ 0 := fun e => hts.ne 1 hl1 (by
    have : (textAt s ts 1).size = 0 := by omega
    rcases hy : textAt s ts 1 with ⟨⟨a⟩⟩
    rw [hy] at this
    cases a with
    | nil => rfl
    | cons x r => simp [ByteArray.size] at this)
  have hb2 : (((textAt s ts 1).size : Int) == 0) = false := beq_eq_false_iff_ne.2 hb1
  have hv2 : wordR s ts 2 1 = ⟨#[102, 111, 114]⟩ := (word_is (c := 102) (r := [111, 114]) hts hf.1 (by decide) (by kernel_rfl)).trans hf.1
  have hv3 : wordR s ts 3 3 = textAt s ts 3 := if_pos hf.2
  have hl3 := kindAt_lt (ts := ts) (k := 3) (by rw [hf.2]; decide)
  have hb3 : (0 : Int) < ((textAt s ts 3).size : Int) := by
    rcases Nat.eq_zero_or_pos (textAt s ts 3).size with h | h
    · exact absurd (by
        rcases hy : textAt s ts 3 with ⟨⟨a⟩⟩
        rw [hy] at h
        cases a with
        | nil => rfl
        | cons x r => simp [ByteArray.size] at h) (hts.ne 3 hl3)
    · omega
  have hnz : (textAt s ts 3).size ≤ maxLen := Nat.le_trans (textAt_size ts 3 hsz) (by decide)
  have HNR := Lib.hid (fun X => hn ▸ refnumber_any (textAt s ts 3) X hnz)
  go_enter Tryz.func8, Tryz.ntmps8
  go_upto_region 4 with (go_at_call 20; refine (HAL.out _).mono ?_; rintro e w1 ⟨v1, rfl, ht1, hb1⟩; have HB1 := Lib.hid ((HB.out _).trans (hb1.mono (HB.out _).size)); have HZ1 := Lib.hid (show Bk w1 w.heap.size 33 (rqC 0 ⟨#[]⟩ 0 kpZ 0 lpZ) from (Bk.new w _ _).on hb1); have HT1 := Lib.hid ht1; have hs1 : w.heap.size + 1 ≤ w1.heap.size := (by simpa using hb1.size); clear hb1 ht1)
  obtain ⟨q, c, rfl, hrd⟩ := tokrow_rd HT1.out
  have HWD := Lib.hid (fun (k : Nat) (kd : Int) (X : World) (hX : Below w1.heap.size w1 X) (hkd : kd ≠ 0) => refword_any X s q c ts k kd (hrd.grow hX) hsr hkd)
  have HPL := Lib.hid (fun (k : Nat) (X : World) (hX : Below w1.heap.size w1 X) => refplace_any X s q c ts k (hrd.grow hX) hll)
  clear hrd HT1 HAL HB hm hx
  go_upto_region 5 with fail
  have HD := Lib.hid (show RD w1 (rqC 0 ⟨#[]⟩ 0 kpZ 0 lpZ) (w1.alloc (.cells #[.int .u8 0, .string ⟨#[]⟩, .int .i64 0, .int .u8 0, .string ⟨#[]⟩, .string ⟨#[]⟩, .int .i64 0, .string ⟨#[]⟩, .slice none 0 0, .slice none 0 0, .int .i64 0, .int .u8 0, .string ⟨#[]⟩, .string ⟨#[]⟩, .int .i64 0, .string ⟨#[]⟩, .slice none 0 0] 33)) from ⟨below1 w1 _, Bk.new w1 _ _⟩)
  generalize w1.alloc (.cells #[.int .u8 0, .string ⟨#[]⟩, .int .i64 0, .int .u8 0, .string ⟨#[]⟩, .string ⟨#[]⟩, .int .i64 0, .string ⟨#[]⟩, .slice none 0 0, .slice none 0 0, .int .i64 0, .int .u8 0, .string ⟨#[]⟩, .string ⟨#[]⟩, .int .i64 0, .string ⟨#[]⟩, .slice none 0 0] 33) = W2 at *
  have HW0 := Lib.hid (show ∀ X, Below w1.heap.size w1 X → Calls Tryz.prog 21 #[.string s, .slice q ts.length c, .int .i64 0, .int .u8 1] X (fun e w' => e = .returned (.string ⟨#[97, 115, 115, 101, 114, 116]⟩) ∧ Below X.heap.size X w') from fun X hX => hv0 ▸ HWD.out 0 1 X hX (by decide))
  have HW1 := Lib.hid (show ∀ X, Below w1.heap.size w1 X → Calls Tryz.prog 21 #[.string s, .slice q ts.length c, .int .i64 1, .int .u8 1] X (fun e w' => e = .returned (.string (textAt s ts 1)) ∧ Below X.heap.size X w') from fun X hX => hv1 ▸ HWD.out 1 1 X hX (by decide))
  have HW2 := Lib.hid (show ∀ X, Below w1.heap.size w1 X → Calls Tryz.prog 21 #[.string s, .slice q ts.length c, .int .i64 2, .int .u8 1] X (fun e w' => e = .returned (.string ⟨#[102, 111, 114]⟩) ∧ Below X.heap.size X w') from fun X hX => hv2 ▸ HWD.out 2 1 X hX (by decide))
  have HW3 := Lib.hid (show ∀ X, Below w1.heap.size w1 X → Calls Tryz.prog 21 #[.string s, .slice q ts.length c, .int .i64 3, .int .u8 3] X (fun e w' => e = .returned (.string (textAt s ts 3)) ∧ Below X.heap.size X w') from fun X hX => hv3 ▸ HWD.out 3 3 X hX (by decide))
  have HP3 := Lib.hid (show ∀ X, Below w1.heap.size w1 X → Calls Tryz.prog 22 #[.string s, .slice q ts.length c, .int .i64 3] X (fun e w' => e = .returned (.int .i64 (placeAt s ts 3)) ∧ w' = X) from fun X hX => HPL.out 3 X hX)
  clear hv0 hv1 hv2 hv3 HWD HPL hts hsr hk hwd hf hn
  generalize textAt s ts 1 = lb at *
  generalize textAt s ts 3 = nt at *
  go_upto_region 7 with (go_at_call 21; refine (HW0.out _ HD.out.b).mono ?_; rintro e x0 ⟨rfl, hbx⟩; replace HD := Lib.hid (HD.out.on hbx); clear hbx)
  have m0 := HD.out.m.cell 0 _ rfl
  have s0 := HD.out.m.soft 0
  go_upto_region 8 with fail
  clear m0 s0
  replace HD := Lib.hid (HD.out.store 0 (.int .u8 1))
  generalize x0.setCell ⟨w1.heap.size, 0, none⟩ (.int .u8 1) = y0 at *
  go_upto_region 9 with (go_at_call 21; refine (HW1.out _ HD.out.b).mono ?_; rintro e x1 ⟨rfl, hbx⟩; replace HD := Lib.hid (HD.out.on hbx); clear hbx; have m1 := HD.out.m.cell 1 _ rfl; have s1 := HD.out.m.soft 1)
  clear m1 s1
  replace HD := Lib.hid (HD.out.store 1 (.string lb))
  generalize x1.setCell ⟨w1.heap.size, 1, none⟩ (.string lb) = y1 at *
  have m1 := HD.out.m.cell 1 _ rfl
  have s1 := HD.out.m.soft 1
  go_wp2_with fail
  refine (HW2.out _ HD.out.b).mono ?_
  rintro e x2 ⟨rfl, hbx⟩
  replace HD := Lib.hid (HD.out.on hbx)
  clear hbx
  go_wp2_with fail
  refine (HW3.out _ HD.out.b).mono ?_
  rintro e x3 ⟨rfl, hbx⟩
  replace HD := Lib.hid (HD.out.on hbx)
  clear hbx
  go_upto_region 13 with fail
  clear m1 s1
  go_upto_region 14 with (first | (go_at_call 21; refine (HW3.out _ HD.out.b).mono ?_; rintro e x3 ⟨rfl, hbx⟩; replace HD := Lib.hid (HD.out.on hbx); clear hbx) | (go_at_call 23; refine (HNR.out _).mono ?_; rintro e xn ⟨rfl, hbx⟩; replace HD := Lib.hid (HD.out.on hbx); clear hbx; have m2 := HD.out.m.cell 2 _ rfl; have s2 := HD.out.m.soft 2))
  clear m2 s2
  replace HD := Lib.hid (HD.out.store 2 (.int .i64 0))
  generalize xn.setCell ⟨w1.heap.size, 2, none⟩ (.int .i64 0) = y2 at *
  have m2 := HD.out.m.cell 2 _ rfl
  have s2 := HD.out.m.soft 2
  go_wp2_with (first | (go_at_call 22; refine (HP3.out _ HD.out.b).mono ?_; rintro e xp ⟨rfl, rfl⟩) | (with_reducible (show wpList _ _ _ (Oper.mk none (Op.store 33 (Operand.tmp 2) _) _ _ _ _ :: _) _ _); refine wpList_store_mid rfl 33 (.tmp 2) _ rfl w.heap.size 0 (rqC 0 ⟨#[]⟩ 0 kpZ 0 lpZ) rfl rfl (HZ1.out.on HD.out.b).there (sizeReqC _ _ _ _ _ _) (rqC_one _ _ _ _ _ _) ?_; have HZ8 := Lib.hid ((HZ1.out.on HD.out.b).setAll 0 ⟨#[]⟩ 0 kpZ 0 lpZ ⟨_, _, _, kpZ, _, lpZ, rfl⟩); have HB8 := Lib.hid (HB1.out.trans ((HD.out.b.mono (show w.heap.size ≤ w1.heap.size by omega)).trans (below_setCells (rqC 0 ⟨#[]⟩ 0 kpZ 0 lpZ).toList w.heap.size 0 _ (Nat.le_refl _))))))
  refine bodyPost_ret (results_req rfl _ _ w.heap.size 0 ⟨#[]⟩ 0 kpZ 0 lpZ rfl HZ8.out) rfl ?_
  exact ⟨rfl, HB8.out⟩
set_option maxHeartbeats 16000000 in
set_option maxRecDepth 100000 in
theorem refparse_assert_for (s : ByteArray) (w : World) (hm : s.size ≤ 140737488351232) (hx : (allL s.data.toList).err = 0) (hwd : textAt s (allL s.data.toList).toks 0 = wdAssert) (hk : kindAt (allL s.data.toList).toks 1 = 1) (hf : forB s (allL s.data.toList).toks 2) (hn : numR (textAt s (allL s.data.toList).toks 3) ≠ 0) :
    Calls Tryz.prog 8 #[.string s] w (ReqPost w (restC s (placeAt s (allL s.data.toList).toks 4) (.ass (textAt s (allL s.data.toList).toks 1) (numR (textAt s (allL s.data.toList).toks 3))))) := by
  have HB := Lib.hid (below1 w)
  have HAL := Lib.hid (fun X => refall_any s X hm)
  unfold AllPost at HAL
  have hts := toks_of s hx
  have hsr := hts.src
  rw [hx] at HAL
  generalize (allL s.data.toList).pl = pl at *
  generalize (allL s.data.toList).toks = ts at *
  have hll := hsr.len
  have hsz := hsr.size
  have hv0 : wordR s ts 0 1 = ⟨#[97, 115, 115, 101, 114, 116]⟩ := (word_is (c := 97) (r := [115, 115, 101, 114, 116]) hts hwd (by decide) (by kernel_rfl)).trans hwd
  have hv1 : wordR s ts 1 1 = textAt s ts 1 := if_pos hk
  have hl1 := kindAt_lt (ts := ts) (k := 1) (by rw [hk]; decide)
  have hb1 : ((textAt s ts 1).size : Int) ≠ 0 := fun e => hts.ne 1 hl1 (by
    have : (textAt s ts 1).size = 0 := by omega
    rcases hy : textAt s ts 1 with ⟨⟨a⟩⟩
    rw [hy] at this
    cases a with
    | nil => rfl
    | cons x r => simp [ByteArray.size] at this)
  have hb2 : (((textAt s ts 1).size : Int) == 0) = false := beq_eq_false_iff_ne.2 hb1
  have hv2 : wordR s ts 2 1 = ⟨#[102, 111, 114]⟩ := (word_is (c := 102) (r := [111, 114]) hts hf.1 (by decide) (by kernel_rfl)).trans hf.1
  have hv3 : wordR s ts 3 3 = textAt s ts 3 := if_pos hf.2
  have hl3 := kindAt_lt (ts := ts) (k := 3) (by rw [hf.2]; decide)
  have hb3 : (0 : Int) < ((textAt s ts 3).size : Int) := by
    rcases Nat.eq_zero_or_pos (textAt s ts 3).size with h | h
    · exact absurd (by
        rcases hy : textAt s ts 3 with ⟨⟨a⟩⟩
        rw [hy] at h
        cases a with
        | nil => rfl
        | cons x r => simp [ByteArray.size] at h) (hts.ne 3 hl3)
    · omega
  obtain ⟨g, hg, hgs⟩ := src_place hsr 4
  have hts9 : (tailS s (placeAt s ts 4)).size ≤ 140737488351232 := Nat.le_trans (tail_size s _) (by omega)
  have htl := tail_size s (placeAt s ts 4)
  have HPA := Lib.hid (fun X => refParse_any (tailS s (placeAt s ts 4)) X hts9)
  have HTL := Lib.hid (show tailS s (placeAt s ts 4) = s.extract g s.size by unfold tailS; rw [hg]; rfl)
  have HNE := Lib.hid (fun (n p : Int) (e : parseR (tailS s (placeAt s ts 4)) = .error (n, p)) => parseR_ne e)
  have HPB := Lib.hid (fun (n p : Int) (e : parseR (tailS s (placeAt s ts 4)) = .error (n, p)) => parseR_place e)
  unfold restC
  rw [hg] at HPA HNE HPB htl HTL ⊢
  have hg0 : (0 : Int) ≤ (g : Int) := by omega
  have hg1 : (g : Int) ≤ (s.size : Int) := by omega
  generalize hR : parseR (tailS s (g : Int)) = R at *
  rw [HTL.out] at HPA
  clear hR HTL
  have hnz : (textAt s ts 3).size ≤ maxLen := Nat.le_trans (textAt_size ts 3 hsz) (by decide)
  have HNR := Lib.hid (fun X => refnumber_any (textAt s ts 3) X hnz)
  generalize hlf : numR (textAt s ts 3) = lf at *
  have hlf0 : (lf == 0) = false := beq_eq_false_iff_ne.2 hn
  match R, HPA, HNE, HPB with
  | .error (n, p), HPA, HNE, HPB =>
    go_enter Tryz.func8, Tryz.ntmps8
    go_upto_region 4 with (go_at_call 20; refine (HAL.out _).mono ?_; rintro e w1 ⟨v1, rfl, ht1, hb1⟩; have HB1 := Lib.hid ((HB.out _).trans (hb1.mono (HB.out _).size)); have HZ1 := Lib.hid (show Bk w1 w.heap.size 33 (rqC 0 ⟨#[]⟩ 0 kpZ 0 lpZ) from (Bk.new w _ _).on hb1); have HT1 := Lib.hid ht1; have hs1 : w.heap.size + 1 ≤ w1.heap.size := (by simpa using hb1.size); clear hb1 ht1)
    obtain ⟨q, c, rfl, hrd⟩ := tokrow_rd HT1.out
    have HWD := Lib.hid (fun (k : Nat) (kd : Int) (X : World) (hX : Below w1.heap.size w1 X) (hkd : kd ≠ 0) => refword_any X s q c ts k kd (hrd.grow hX) hsr hkd)
    have HPL := Lib.hid (fun (k : Nat) (X : World) (hX : Below w1.heap.size w1 X) => refplace_any X s q c ts k (hrd.grow hX) hll)
    clear hrd HT1 HAL HB hm hx
    go_upto_region 5 with fail
    have HD := Lib.hid (show RD w1 (rqC 0 ⟨#[]⟩ 0 kpZ 0 lpZ) (w1.alloc (.cells #[.int .u8 0, .string ⟨#[]⟩, .int .i64 0, .int .u8 0, .string ⟨#[]⟩, .string ⟨#[]⟩, .int .i64 0, .string ⟨#[]⟩, .slice none 0 0, .slice none 0 0, .int .i64 0, .int .u8 0, .string ⟨#[]⟩, .string ⟨#[]⟩, .int .i64 0, .string ⟨#[]⟩, .slice none 0 0] 33)) from ⟨below1 w1 _, Bk.new w1 _ _⟩)
    generalize w1.alloc (.cells #[.int .u8 0, .string ⟨#[]⟩, .int .i64 0, .int .u8 0, .string ⟨#[]⟩, .string ⟨#[]⟩, .int .i64 0, .string ⟨#[]⟩, .slice none 0 0, .slice none 0 0, .int .i64 0, .int .u8 0, .string ⟨#[]⟩, .string ⟨#[]⟩, .int .i64 0, .string ⟨#[]⟩, .slice none 0 0] 33) = W2 at *
    have HW0 := Lib.hid (show ∀ X, Below w1.heap.size w1 X → Calls Tryz.prog 21 #[.string s, .slice q ts.length c, .int .i64 0, .int .u8 1] X (fun e w' => e = .returned (.string ⟨#[97, 115, 115, 101, 114, 116]⟩) ∧ Below X.heap.size X w') from fun X hX => hv0 ▸ HWD.out 0 1 X hX (by decide))
    have HW1 := Lib.hid (show ∀ X, Below w1.heap.size w1 X → Calls Tryz.prog 21 #[.string s, .slice q ts.length c, .int .i64 1, .int .u8 1] X (fun e w' => e = .returned (.string (textAt s ts 1)) ∧ Below X.heap.size X w') from fun X hX => hv1 ▸ HWD.out 1 1 X hX (by decide))
    have HW2 := Lib.hid (show ∀ X, Below w1.heap.size w1 X → Calls Tryz.prog 21 #[.string s, .slice q ts.length c, .int .i64 2, .int .u8 1] X (fun e w' => e = .returned (.string ⟨#[102, 111, 114]⟩) ∧ Below X.heap.size X w') from fun X hX => hv2 ▸ HWD.out 2 1 X hX (by decide))
    have HW3 := Lib.hid (show ∀ X, Below w1.heap.size w1 X → Calls Tryz.prog 21 #[.string s, .slice q ts.length c, .int .i64 3, .int .u8 3] X (fun e w' => e = .returned (.string (textAt s ts 3)) ∧ Below X.heap.size X w') from fun X hX => hv3 ▸ HWD.out 3 3 X hX (by decide))
    have HP9 := Lib.hid (show ∀ X, Below w1.heap.size w1 X → Calls Tryz.prog 22 #[.string s, .slice q ts.length c, .int .i64 4] X (fun e w' => e = .returned (.int .i64 (g : Int)) ∧ w' = X) from fun X hX => hg ▸ HPL.out 4 X hX)
    clear hv0 hv1 hv2 hv3 HWD HPL hts hsr hk hwd hf hg hts9
    generalize textAt s ts 1 = lb at *
    generalize textAt s ts 3 = nt at *
    go_upto_region 7 with (go_at_call 21; refine (HW0.out _ HD.out.b).mono ?_; rintro e x0 ⟨rfl, hbx⟩; replace HD := Lib.hid (HD.out.on hbx); clear hbx)
    have m0 := HD.out.m.cell 0 _ rfl
    have s0 := HD.out.m.soft 0
    go_upto_region 8 with fail
    clear m0 s0
    replace HD := Lib.hid (HD.out.store 0 (.int .u8 1))
    generalize x0.setCell ⟨w1.heap.size, 0, none⟩ (.int .u8 1) = y0 at *
    go_upto_region 9 with (go_at_call 21; refine (HW1.out _ HD.out.b).mono ?_; rintro e x1 ⟨rfl, hbx⟩; replace HD := Lib.hid (HD.out.on hbx); clear hbx; have m1 := HD.out.m.cell 1 _ rfl; have s1 := HD.out.m.soft 1)
    clear m1 s1
    replace HD := Lib.hid (HD.out.store 1 (.string lb))
    generalize x1.setCell ⟨w1.heap.size, 1, none⟩ (.string lb) = y1 at *
    have m1 := HD.out.m.cell 1 _ rfl
    have s1 := HD.out.m.soft 1
    go_wp2_with fail
    refine (HW2.out _ HD.out.b).mono ?_
    rintro e x2 ⟨rfl, hbx⟩
    replace HD := Lib.hid (HD.out.on hbx)
    clear hbx
    go_wp2_with fail
    refine (HW3.out _ HD.out.b).mono ?_
    rintro e x3 ⟨rfl, hbx⟩
    replace HD := Lib.hid (HD.out.on hbx)
    clear hbx
    go_upto_region 13 with fail
    clear m1 s1
    go_upto_region 14 with (first | (go_at_call 21; refine (HW3.out _ HD.out.b).mono ?_; rintro e x3 ⟨rfl, hbx⟩; replace HD := Lib.hid (HD.out.on hbx); clear hbx) | (go_at_call 23; refine (HNR.out _).mono ?_; rintro e xn ⟨rfl, hbx⟩; replace HD := Lib.hid (HD.out.on hbx); clear hbx; have m2 := HD.out.m.cell 2 _ rfl; have s2 := HD.out.m.soft 2))
    clear m2 s2
    replace HD := Lib.hid (HD.out.store 2 (.int .i64 lf))
    generalize xn.setCell ⟨w1.heap.size, 2, none⟩ (.int .i64 lf) = y2 at *
    have m2 := HD.out.m.cell 2 _ rfl
    have s2 := HD.out.m.soft 2
    go_upto_region 17 with fail
    clear m2 s2
    have hne : (n != 0) = true := by rw [bne_iff_ne]; exact HNE.out n p rfl
    obtain ⟨hp0, hp1⟩ := HPB.out n p rfl
    have hgp : (g : Int) + p ≤ 10000 := by omega
    have hgq : (0 : Int) ≤ (g : Int) + p := by omega
    clear HNE HPB
    go_wp2_with fail
    refine (HP9.out _ HD.out.b).mono ?_
    rintro e xp ⟨rfl, rfl⟩
    go_wp2_with fail
    refine (HPA.out _).mono ?_
    rintro e z2 ⟨rfl, hb2⟩
    replace HD := Lib.hid ((HD.out.on hb2).on (below1 z2 (.cells #[.int .u8 0, .string ⟨#[]⟩, .string ⟨#[]⟩, .int .i64 0, .string ⟨#[]⟩, .slice none 0 0, .slice none 0 0] 31)))
    have HM3 := Lib.hid (Bk.new z2 31 #[.int .u8 0, .string ⟨#[]⟩, .string ⟨#[]⟩, .int .i64 0, .string ⟨#[]⟩, .slice none 0 0, .slice none 0 0])
    obtain ⟨r0, r1, r2, r3, r4, r5, r6⟩ := HM3.out.seven
    unfold kpZ lpZ Kp.agg tmZ
    clear hb2
    go_upto_region 20 with fail
    generalize z2.alloc (.cells #[.int .u8 0, .string ⟨#[]⟩, .string ⟨#[]⟩, .int .i64 0, .string ⟨#[]⟩, .slice none 0 0, .slice none 0 0] 31) = z3 at *
    clear HM3 r0 r1 r2 r3 r4 r5 r6
    refine wp_region_list (show wpList _ _ _ (_ :: _ :: _ :: _ :: _ :: _ :: _) _ _ from ?_)
    refine wpList_plain rfl (fun K hK => ?_)
    go_simp
    refine hK _ _ ?_
    clear hK K
    refine wpList_plain rfl (fun K hK => ?_)
    go_simp
    refine hK _ _ ?_
    clear hK K
    refine wpList_plain rfl (fun K hK => ?_)
    go_simp
    refine hK _ _ ?_
    clear hK K
    refine wpList_plain rfl (fun K hK => ?_)
    go_simp
    refine hK _ _ ?_
    clear hK K
    refine wpList_plain rfl (fun K hK => ?_)
    go_simp
    refine hK _ _ ?_
    clear hK K
    refine wpList_store_mid rfl 33 (.tmp 2) _ rfl w.heap.size 0 (rqC 0 ⟨#[]⟩ 0 kpZ 0 lpZ) rfl rfl (HZ1.out.on HD.out.b).there (sizeReqC _ _ _ _ _ _) (rqC_one _ _ _ _ _ _) ?_
    have HZ8 := Lib.hid ((HZ1.out.on HD.out.b).setAll 0 ⟨#[]⟩ 0 kpZ 0 lpZ ⟨_, _, _, kpZ, _, lpZ, rfl⟩)
    have HB8 := Lib.hid (HB1.out.trans ((HD.out.b.mono (show w.heap.size ≤ w1.heap.size by omega)).trans (below_setCells (rqC 0 ⟨#[]⟩ 0 kpZ 0 lpZ).toList w.heap.size 0 z3 (Nat.le_refl _))))
    generalize z3.setCells w.heap.size 0 (rqC 0 ⟨#[]⟩ 0 kpZ 0 lpZ).toList = w9 at *
    go_wp2_with fail
    refine bodyPost_ret (results_req rfl _ _ w.heap.size 0 ⟨#[]⟩ 0 kpZ 0 lpZ rfl HZ8.out) rfl ?_
    exact ⟨rfl, HB8.out⟩
  | .ok x, HPA, HNE, HPB =>
    go_enter Tryz.func8, Tryz.ntmps8
    go_upto_region 4 with (go_at_call 20; refine (HAL.out _).mono ?_; rintro e w1 ⟨v1, rfl, ht1, hb1⟩; have HB1 := Lib.hid ((HB.out _).trans (hb1.mono (HB.out _).size)); have HZ1 := Lib.hid (show Bk w1 w.heap.size 33 (rqC 0 ⟨#[]⟩ 0 kpZ 0 lpZ) from (Bk.new w _ _).on hb1); have HT1 := Lib.hid ht1; have hs1 : w.heap.size + 1 ≤ w1.heap.size := (by simpa using hb1.size); clear hb1 ht1)
    obtain ⟨q, c, rfl, hrd⟩ := tokrow_rd HT1.out
    have HWD := Lib.hid (fun (k : Nat) (kd : Int) (X : World) (hX : Below w1.heap.size w1 X) (hkd : kd ≠ 0) => refword_any X s q c ts k kd (hrd.grow hX) hsr hkd)
    have HPL := Lib.hid (fun (k : Nat) (X : World) (hX : Below w1.heap.size w1 X) => refplace_any X s q c ts k (hrd.grow hX) hll)
    clear hrd HT1 HAL HB hm hx
    go_upto_region 5 with fail
    have HD := Lib.hid (show RD w1 (rqC 0 ⟨#[]⟩ 0 kpZ 0 lpZ) (w1.alloc (.cells #[.int .u8 0, .string ⟨#[]⟩, .int .i64 0, .int .u8 0, .string ⟨#[]⟩, .string ⟨#[]⟩, .int .i64 0, .string ⟨#[]⟩, .slice none 0 0, .slice none 0 0, .int .i64 0, .int .u8 0, .string ⟨#[]⟩, .string ⟨#[]⟩, .int .i64 0, .string ⟨#[]⟩, .slice none 0 0] 33)) from ⟨below1 w1 _, Bk.new w1 _ _⟩)
    generalize w1.alloc (.cells #[.int .u8 0, .string ⟨#[]⟩, .int .i64 0, .int .u8 0, .string ⟨#[]⟩, .string ⟨#[]⟩, .int .i64 0, .string ⟨#[]⟩, .slice none 0 0, .slice none 0 0, .int .i64 0, .int .u8 0, .string ⟨#[]⟩, .string ⟨#[]⟩, .int .i64 0, .string ⟨#[]⟩, .slice none 0 0] 33) = W2 at *
    have HW0 := Lib.hid (show ∀ X, Below w1.heap.size w1 X → Calls Tryz.prog 21 #[.string s, .slice q ts.length c, .int .i64 0, .int .u8 1] X (fun e w' => e = .returned (.string ⟨#[97, 115, 115, 101, 114, 116]⟩) ∧ Below X.heap.size X w') from fun X hX => hv0 ▸ HWD.out 0 1 X hX (by decide))
    have HW1 := Lib.hid (show ∀ X, Below w1.heap.size w1 X → Calls Tryz.prog 21 #[.string s, .slice q ts.length c, .int .i64 1, .int .u8 1] X (fun e w' => e = .returned (.string (textAt s ts 1)) ∧ Below X.heap.size X w') from fun X hX => hv1 ▸ HWD.out 1 1 X hX (by decide))
    have HW2 := Lib.hid (show ∀ X, Below w1.heap.size w1 X → Calls Tryz.prog 21 #[.string s, .slice q ts.length c, .int .i64 2, .int .u8 1] X (fun e w' => e = .returned (.string ⟨#[102, 111, 114]⟩) ∧ Below X.heap.size X w') from fun X hX => hv2 ▸ HWD.out 2 1 X hX (by decide))
    have HW3 := Lib.hid (show ∀ X, Below w1.heap.size w1 X → Calls Tryz.prog 21 #[.string s, .slice q ts.length c, .int .i64 3, .int .u8 3] X (fun e w' => e = .returned (.string (textAt s ts 3)) ∧ Below X.heap.size X w') from fun X hX => hv3 ▸ HWD.out 3 3 X hX (by decide))
    have HP9 := Lib.hid (show ∀ X, Below w1.heap.size w1 X → Calls Tryz.prog 22 #[.string s, .slice q ts.length c, .int .i64 4] X (fun e w' => e = .returned (.int .i64 (g : Int)) ∧ w' = X) from fun X hX => hg ▸ HPL.out 4 X hX)
    clear hv0 hv1 hv2 hv3 HWD HPL hts hsr hk hwd hf hg hts9
    generalize textAt s ts 1 = lb at *
    generalize textAt s ts 3 = nt at *
    go_upto_region 7 with (go_at_call 21; refine (HW0.out _ HD.out.b).mono ?_; rintro e x0 ⟨rfl, hbx⟩; replace HD := Lib.hid (HD.out.on hbx); clear hbx)
    have m0 := HD.out.m.cell 0 _ rfl
    have s0 := HD.out.m.soft 0
    go_upto_region 8 with fail
    clear m0 s0
    replace HD := Lib.hid (HD.out.store 0 (.int .u8 1))
    generalize x0.setCell ⟨w1.heap.size, 0, none⟩ (.int .u8 1) = y0 at *
    go_upto_region 9 with (go_at_call 21; refine (HW1.out _ HD.out.b).mono ?_; rintro e x1 ⟨rfl, hbx⟩; replace HD := Lib.hid (HD.out.on hbx); clear hbx; have m1 := HD.out.m.cell 1 _ rfl; have s1 := HD.out.m.soft 1)
    clear m1 s1
    replace HD := Lib.hid (HD.out.store 1 (.string lb))
    generalize x1.setCell ⟨w1.heap.size, 1, none⟩ (.string lb) = y1 at *
    have m1 := HD.out.m.cell 1 _ rfl
    have s1 := HD.out.m.soft 1
    go_wp2_with fail
    refine (HW2.out _ HD.out.b).mono ?_
    rintro e x2 ⟨rfl, hbx⟩
    replace HD := Lib.hid (HD.out.on hbx)
    clear hbx
    go_wp2_with fail
    refine (HW3.out _ HD.out.b).mono ?_
    rintro e x3 ⟨rfl, hbx⟩
    replace HD := Lib.hid (HD.out.on hbx)
    clear hbx
    go_upto_region 13 with fail
    clear m1 s1
    go_upto_region 14 with (first | (go_at_call 21; refine (HW3.out _ HD.out.b).mono ?_; rintro e x3 ⟨rfl, hbx⟩; replace HD := Lib.hid (HD.out.on hbx); clear hbx) | (go_at_call 23; refine (HNR.out _).mono ?_; rintro e xn ⟨rfl, hbx⟩; replace HD := Lib.hid (HD.out.on hbx); clear hbx; have m2 := HD.out.m.cell 2 _ rfl; have s2 := HD.out.m.soft 2))
    clear m2 s2
    replace HD := Lib.hid (HD.out.store 2 (.int .i64 lf))
    generalize xn.setCell ⟨w1.heap.size, 2, none⟩ (.int .i64 lf) = y2 at *
    have m2 := HD.out.m.cell 2 _ rfl
    have s2 := HD.out.m.soft 2
    go_upto_region 17 with fail
    clear m2 s2
    clear HNE HPB
    go_upto_region 21 with (first | (go_at_call 22; refine (HP9.out _ HD.out.b).mono ?_; rintro e xp ⟨rfl, rfl⟩) | (go_at_call 24; refine (HPA.out _).mono ?_; rintro e z2 ⟨cl, hcl, rfl, hcm, hcf, hb2⟩; have hlt9 := HD.out.m.lt; replace HD := Lib.hid ((HD.out.on hb2).on (below1 z2 (.cells #[.int .u8 cl.head.kind, .string cl.head.who.v, .string cl.head.who.s, .int .i64 cl.head.who.n, .string cl.head.pred, .slice cl.head.ptr cl.head.args.length cl.head.cap, .slice cl.ptr cl.body.length cl.cap] 31))); have HM3 := Lib.hid (Bk.new z2 31 #[.int .u8 cl.head.kind, .string cl.head.who.v, .string cl.head.who.s, .int .i64 cl.head.who.n, .string cl.head.pred, .slice cl.head.ptr cl.head.args.length cl.head.cap, .slice cl.ptr cl.body.length cl.cap]); have HCL := Lib.hid hcl; have HCM := Lib.hid (hcm.on (below1 z2 (.cells #[.int .u8 cl.head.kind, .string cl.head.who.v, .string cl.head.who.s, .int .i64 cl.head.who.n, .string cl.head.pred, .slice cl.head.ptr cl.head.args.length cl.head.cap, .slice cl.ptr cl.body.length cl.cap] 31))); have HCF := Lib.hid (hcf.mono hlt9); obtain ⟨r0, r1, r2, r3, r4, r5, r6⟩ := HM3.out.seven; unfold Kp.agg; clear hb2 hcm hcf))
    generalize z2.alloc (.cells #[.int .u8 cl.head.kind, .string cl.head.who.v, .string cl.head.who.s, .int .i64 cl.head.who.n, .string cl.head.pred, .slice cl.head.ptr cl.head.args.length cl.head.cap, .slice cl.ptr cl.body.length cl.cap] 31) = z3 at *
    have m3 := HD.out.m.cell 3 _ rfl
    have s3 := HD.out.m.soft 3
    have m4 := HD.out.m.cell 4 _ rfl
    have s4 := HD.out.m.soft 4
    have m5 := HD.out.m.cell 5 _ rfl
    have s5 := HD.out.m.soft 5
    have m6 := HD.out.m.cell 6 _ rfl
    have s6 := HD.out.m.soft 6
    have m7 := HD.out.m.cell 7 _ rfl
    have s7 := HD.out.m.soft 7
    have m8 := HD.out.m.cell 8 _ rfl
    have s8 := HD.out.m.soft 8
    have m9 := HD.out.m.cell 9 _ rfl
    have s9 := HD.out.m.soft 9
    go_upto_region 22 with fail
    have HA4 := Lib.hid ((((((((Above.refl (w1.heap.size + 1) z3).set (b := w1.heap.size) (Nat.lt_succ_self _) 3 (.int .u8 cl.head.kind)).set (b := w1.heap.size) (Nat.lt_succ_self _) 4 (.string cl.head.who.v)).set (b := w1.heap.size) (Nat.lt_succ_self _) 5 (.string cl.head.who.s)).set (b := w1.heap.size) (Nat.lt_succ_self _) 6 (.int .i64 cl.head.who.n)).set (b := w1.heap.size) (Nat.lt_succ_self _) 7 (.string cl.head.pred)).set (b := w1.heap.size) (Nat.lt_succ_self _) 8 (.slice cl.head.ptr cl.head.args.length cl.head.cap)).set (b := w1.heap.size) (Nat.lt_succ_self _) 9 (.slice cl.ptr cl.body.length cl.cap))
    replace HD := Lib.hid (((((((HD.out.store 3 (.int .u8 cl.head.kind)).store 4 (.string cl.head.who.v)).store 5 (.string cl.head.who.s)).store 6 (.int .i64 cl.head.who.n)).store 7 (.string cl.head.pred)).store 8 (.slice cl.head.ptr cl.head.args.length cl.head.cap)).store 9 (.slice cl.ptr cl.body.length cl.cap))
    have hs4 : z3.heap.size ≤ (((((((z3.setCell ⟨w1.heap.size, 3, none⟩ (.int .u8 cl.head.kind)).setCell ⟨w1.heap.size, 4, none⟩ (.string cl.head.who.v)).setCell ⟨w1.heap.size, 5, none⟩ (.string cl.head.who.s)).setCell ⟨w1.heap.size, 6, none⟩ (.int .i64 cl.head.who.n)).setCell ⟨w1.heap.size, 7, none⟩ (.string cl.head.pred)).setCell ⟨w1.heap.size, 8, none⟩ (.slice cl.head.ptr cl.head.args.length cl.head.cap)).setCell ⟨w1.heap.size, 9, none⟩ (.slice cl.ptr cl.body.length cl.cap)).heap.size := by simp [World.setCell]
    clear m3 s3 m4 s4 m5 s5 m6 s6 m7 s7 m8 s8 m9 s9 r0 r1 r2 r3 r4 r5 r6
    generalize (((((((z3.setCell ⟨w1.heap.size, 3, none⟩ (.int .u8 cl.head.kind)).setCell ⟨w1.heap.size, 4, none⟩ (.string cl.head.who.v)).setCell ⟨w1.heap.size, 5, none⟩ (.string cl.head.who.s)).setCell ⟨w1.heap.size, 6, none⟩ (.int .i64 cl.head.who.n)).setCell ⟨w1.heap.size, 7, none⟩ (.string cl.head.pred)).setCell ⟨w1.heap.size, 8, none⟩ (.slice cl.head.ptr cl.head.args.length cl.head.cap)).setCell ⟨w1.heap.size, 9, none⟩ (.slice cl.ptr cl.body.length cl.cap)) = z4 at *
    have HM4 := Lib.hid (show Bk z4 w1.heap.size 33 (rqC 1 lb lf cl 0 lpZ) from (by have h := HD.out.m; simp only [rqC, List.setIfInBounds_toArray, List.set_cons_zero, List.set_cons_succ] at h ⊢; exact h))
    obtain ⟨d9, hu9, hd9⟩ := rowReq
    have HZ7 := Lib.hid (HZ1.out.on HD.out.b)
    refine wp_region_list (show wpList _ _ _ (_ :: _ :: _) _ _ from ?_)
    refine wpList_load_mid rfl 33 (.tmp 8) rfl w1.heap.size 0 rfl (rqC 1 lb lf cl 0 lpZ).toList d9 HM4.out.range hu9 hd9 (by rw [sizeReq]; rfl) ?_
    refine wpList_store_mid rfl 33 (.tmp 2) _ rfl w.heap.size 0 (rqC 1 lb lf cl 0 lpZ) rfl rfl HZ7.out.there (sizeReqC _ _ _ _ _ _) (rqC_one _ _ _ _ _ _) ?_
    have HB8 := Lib.hid (HB1.out.trans ((HD.out.b.mono (show w.heap.size ≤ w1.heap.size by omega)).trans (below_setCells (rqC 1 lb lf cl 0 lpZ).toList w.heap.size 0 z4 (Nat.le_refl _))))
    have HZ8 := Lib.hid (HZ7.out.setAll 1 lb lf cl 0 lpZ ⟨0, ⟨#[]⟩, 0, kpZ, 0, lpZ, rfl⟩)
    have HR8 := Lib.hid ((ReqMem.above (show ReqMem z4 (w1.heap.size + 1) (.ass lb lf x) (rqC 1 lb lf cl 0 lpZ) from ⟨cl, HCL.out, rfl, HCM.out.above HCF.out HA4.out hs4, HCF.out⟩) (above_setCells (Above.refl (w.heap.size + 1) z4) (Nat.lt_succ_self _) (rqC 1 lb lf cl 0 lpZ).toList) (by omega) (below_setCells (B := w.heap.size) (rqC 1 lb lf cl 0 lpZ).toList w.heap.size 0 z4 (Nat.le_refl _)).size).mono (show w.heap.size ≤ w1.heap.size + 1 by omega))
    generalize z4.setCells w.heap.size 0 (rqC 1 lb lf cl 0 lpZ).toList = w9 at *
    go_wp2_with fail
    refine bodyPost_ret (results_req rfl _ _ w.heap.size 1 lb lf cl 0 lpZ rfl HZ8.out) rfl ?_
    exact ⟨_, rfl, HR8.out, HB8.out⟩
set_option maxHeartbeats 16000000 in
set_option maxRecDepth 100000 in
theorem refparse_assert_noA (s : ByteArray) (w : World) (hm : s.size ≤ 140737488351232) (hx : (allL s.data.toList).err = 0) (hwd : textAt s (allL s.data.toList).toks 0 = wdAssert) (hk : kindAt (allL s.data.toList).toks 1 = 1) (hf : textAt s (allL s.data.toList).toks 2 ≠ wdFor) :
    Calls Tryz.prog 8 #[.string s] w (ReqPost w (restC s (placeAt s (allL s.data.toList).toks 2) (.ass (textAt s (allL s.data.toList).toks 1) 0))) := by
  have HB := Lib.hid (below1 w)
  have HAL := Lib.hid (fun X => refall_any s X hm)
  unfold AllPost at HAL
  have hts := toks_of s hx
  have hsr := hts.src
  rw [hx] at HAL
  generalize (allL s.data.toList).pl = pl at *
  generalize (allL s.data.toList).toks = ts at *
  have hll := hsr.len
  have hsz := hsr.size
  have hv0 : wordR s ts 0 1 = ⟨#[97, 115, 115, 101, 114, 116]⟩ := (word_is (c := 97) (r := [115, 115, 101, 114, 116]) hts hwd (by decide) (by kernel_rfl)).trans hwd
  have hv1 : wordR s ts 1 1 = textAt s ts 1 := if_pos hk
  have hl1 := kindAt_lt (ts := ts) (k := 1) (by rw [hk]; decide)
  have hb1 : ((textAt s ts 1).size : Int) ≠ 0 := fun e => hts.ne 1 hl1 (by
    have : (textAt s ts 1).size = 0 := by omega
    rcases hy : textAt s ts 1 with ⟨⟨a⟩⟩
    rw [hy] at this
    cases a with
    | nil => rfl
    | cons x r => simp [ByteArray.size] at this)
  have hb2 : (((textAt s ts 1).size : Int) == 0) = false := beq_eq_false_iff_ne.2 hb1
  have hv2 : ((wordR s ts 2 1).toList == [102, 111, 114]) = false := ba_beqF (l := [102, 111, 114]) (word_not (show textAt s ts 2 ≠ ⟨#[102, 111, 114]⟩ from hf) (by decide +kernel))
  obtain ⟨g, hg, hgs⟩ := src_place hsr 2
  have hts9 : (tailS s (placeAt s ts 2)).size ≤ 140737488351232 := Nat.le_trans (tail_size s _) (by omega)
  have htl := tail_size s (placeAt s ts 2)
  have HPA := Lib.hid (fun X => refParse_any (tailS s (placeAt s ts 2)) X hts9)
  have HTL := Lib.hid (show tailS s (placeAt s ts 2) = s.extract g s.size by unfold tailS; rw [hg]; rfl)
  have HNE := Lib.hid (fun (n p : Int) (e : parseR (tailS s (placeAt s ts 2)) = .error (n, p)) => parseR_ne e)
  have HPB := Lib.hid (fun (n p : Int) (e : parseR (tailS s (placeAt s ts 2)) = .error (n, p)) => parseR_place e)
  unfold restC
  rw [hg] at HPA HNE HPB htl HTL ⊢
  have hg0 : (0 : Int) ≤ (g : Int) := by omega
  have hg1 : (g : Int) ≤ (s.size : Int) := by omega
  generalize hR : parseR (tailS s (g : Int)) = R at *
  rw [HTL.out] at HPA
  clear hR HTL
  match R, HPA, HNE, HPB with
  | .error (n, p), HPA, HNE, HPB =>
    go_enter Tryz.func8, Tryz.ntmps8
    go_upto_region 4 with (go_at_call 20; refine (HAL.out _).mono ?_; rintro e w1 ⟨v1, rfl, ht1, hb1⟩; have HB1 := Lib.hid ((HB.out _).trans (hb1.mono (HB.out _).size)); have HZ1 := Lib.hid (show Bk w1 w.heap.size 33 (rqC 0 ⟨#[]⟩ 0 kpZ 0 lpZ) from (Bk.new w _ _).on hb1); have HT1 := Lib.hid ht1; have hs1 : w.heap.size + 1 ≤ w1.heap.size := (by simpa using hb1.size); clear hb1 ht1)
    obtain ⟨q, c, rfl, hrd⟩ := tokrow_rd HT1.out
    have HWD := Lib.hid (fun (k : Nat) (kd : Int) (X : World) (hX : Below w1.heap.size w1 X) (hkd : kd ≠ 0) => refword_any X s q c ts k kd (hrd.grow hX) hsr hkd)
    have HPL := Lib.hid (fun (k : Nat) (X : World) (hX : Below w1.heap.size w1 X) => refplace_any X s q c ts k (hrd.grow hX) hll)
    clear hrd HT1 HAL HB hm hx
    go_upto_region 5 with fail
    have HD := Lib.hid (show RD w1 (rqC 0 ⟨#[]⟩ 0 kpZ 0 lpZ) (w1.alloc (.cells #[.int .u8 0, .string ⟨#[]⟩, .int .i64 0, .int .u8 0, .string ⟨#[]⟩, .string ⟨#[]⟩, .int .i64 0, .string ⟨#[]⟩, .slice none 0 0, .slice none 0 0, .int .i64 0, .int .u8 0, .string ⟨#[]⟩, .string ⟨#[]⟩, .int .i64 0, .string ⟨#[]⟩, .slice none 0 0] 33)) from ⟨below1 w1 _, Bk.new w1 _ _⟩)
    generalize w1.alloc (.cells #[.int .u8 0, .string ⟨#[]⟩, .int .i64 0, .int .u8 0, .string ⟨#[]⟩, .string ⟨#[]⟩, .int .i64 0, .string ⟨#[]⟩, .slice none 0 0, .slice none 0 0, .int .i64 0, .int .u8 0, .string ⟨#[]⟩, .string ⟨#[]⟩, .int .i64 0, .string ⟨#[]⟩, .slice none 0 0] 33) = W2 at *
    generalize hw2 : wordR s ts 2 1 = W2' at *
    have HW0 := Lib.hid (show ∀ X, Below w1.heap.size w1 X → Calls Tryz.prog 21 #[.string s, .slice q ts.length c, .int .i64 0, .int .u8 1] X (fun e w' => e = .returned (.string ⟨#[97, 115, 115, 101, 114, 116]⟩) ∧ Below X.heap.size X w') from fun X hX => hv0 ▸ HWD.out 0 1 X hX (by decide))
    have HW1 := Lib.hid (show ∀ X, Below w1.heap.size w1 X → Calls Tryz.prog 21 #[.string s, .slice q ts.length c, .int .i64 1, .int .u8 1] X (fun e w' => e = .returned (.string (textAt s ts 1)) ∧ Below X.heap.size X w') from fun X hX => hv1 ▸ HWD.out 1 1 X hX (by decide))
    have HW2 := Lib.hid (show ∀ X, Below w1.heap.size w1 X → Calls Tryz.prog 21 #[.string s, .slice q ts.length c, .int .i64 2, .int .u8 1] X (fun e w' => e = .returned (.string W2') ∧ Below X.heap.size X w') from fun X hX => hw2 ▸ HWD.out 2 1 X hX (by decide))
    have HP9 := Lib.hid (show ∀ X, Below w1.heap.size w1 X → Calls Tryz.prog 22 #[.string s, .slice q ts.length c, .int .i64 2] X (fun e w' => e = .returned (.int .i64 (g : Int)) ∧ w' = X) from fun X hX => hg ▸ HPL.out 2 X hX)
    clear hv0 hv1 hw2 HWD HPL hts hsr hk hwd hf hg hts9
    generalize textAt s ts 1 = lb at *
    go_upto_region 7 with (go_at_call 21; refine (HW0.out _ HD.out.b).mono ?_; rintro e x0 ⟨rfl, hbx⟩; replace HD := Lib.hid (HD.out.on hbx); clear hbx)
    have m0 := HD.out.m.cell 0 _ rfl
    have s0 := HD.out.m.soft 0
    go_upto_region 8 with fail
    clear m0 s0
    replace HD := Lib.hid (HD.out.store 0 (.int .u8 1))
    generalize x0.setCell ⟨w1.heap.size, 0, none⟩ (.int .u8 1) = y0 at *
    go_upto_region 9 with (go_at_call 21; refine (HW1.out _ HD.out.b).mono ?_; rintro e x1 ⟨rfl, hbx⟩; replace HD := Lib.hid (HD.out.on hbx); clear hbx; have m1 := HD.out.m.cell 1 _ rfl; have s1 := HD.out.m.soft 1)
    clear m1 s1
    replace HD := Lib.hid (HD.out.store 1 (.string lb))
    generalize x1.setCell ⟨w1.heap.size, 1, none⟩ (.string lb) = y1 at *
    have m1 := HD.out.m.cell 1 _ rfl
    have s1 := HD.out.m.soft 1
    go_wp2_with fail
    refine (HW2.out _ HD.out.b).mono ?_
    rintro e x2 ⟨rfl, hbx⟩
    replace HD := Lib.hid (HD.out.on hbx)
    clear hbx
    go_upto_region 17 with fail
    clear m1 s1
    have hne : (n != 0) = true := by rw [bne_iff_ne]; exact HNE.out n p rfl
    obtain ⟨hp0, hp1⟩ := HPB.out n p rfl
    have hgp : (g : Int) + p ≤ 10000 := by omega
    have hgq : (0 : Int) ≤ (g : Int) + p := by omega
    clear HNE HPB
    go_wp2_with fail
    refine (HP9.out _ HD.out.b).mono ?_
    rintro e xp ⟨rfl, rfl⟩
    go_wp2_with fail
    refine (HPA.out _).mono ?_
    rintro e z2 ⟨rfl, hb2⟩
    replace HD := Lib.hid ((HD.out.on hb2).on (below1 z2 (.cells #[.int .u8 0, .string ⟨#[]⟩, .string ⟨#[]⟩, .int .i64 0, .string ⟨#[]⟩, .slice none 0 0, .slice none 0 0] 31)))
    have HM3 := Lib.hid (Bk.new z2 31 #[.int .u8 0, .string ⟨#[]⟩, .string ⟨#[]⟩, .int .i64 0, .string ⟨#[]⟩, .slice none 0 0, .slice none 0 0])
    obtain ⟨r0, r1, r2, r3, r4, r5, r6⟩ := HM3.out.seven
    unfold kpZ lpZ Kp.agg tmZ
    clear hb2
    go_upto_region 20 with fail
    generalize z2.alloc (.cells #[.int .u8 0, .string ⟨#[]⟩, .string ⟨#[]⟩, .int .i64 0, .string ⟨#[]⟩, .slice none 0 0, .slice none 0 0] 31) = z3 at *
    clear HM3 r0 r1 r2 r3 r4 r5 r6
    refine wp_region_list (show wpList _ _ _ (_ :: _ :: _ :: _ :: _ :: _ :: _) _ _ from ?_)
    refine wpList_plain rfl (fun K hK => ?_)
    go_simp
    refine hK _ _ ?_
    clear hK K
    refine wpList_plain rfl (fun K hK => ?_)
    go_simp
    refine hK _ _ ?_
    clear hK K
    refine wpList_plain rfl (fun K hK => ?_)
    go_simp
    refine hK _ _ ?_
    clear hK K
    refine wpList_plain rfl (fun K hK => ?_)
    go_simp
    refine hK _ _ ?_
    clear hK K
    refine wpList_plain rfl (fun K hK => ?_)
    go_simp
    refine hK _ _ ?_
    clear hK K
    refine wpList_store_mid rfl 33 (.tmp 2) _ rfl w.heap.size 0 (rqC 0 ⟨#[]⟩ 0 kpZ 0 lpZ) rfl rfl (HZ1.out.on HD.out.b).there (sizeReqC _ _ _ _ _ _) (rqC_one _ _ _ _ _ _) ?_
    have HZ8 := Lib.hid ((HZ1.out.on HD.out.b).setAll 0 ⟨#[]⟩ 0 kpZ 0 lpZ ⟨_, _, _, kpZ, _, lpZ, rfl⟩)
    have HB8 := Lib.hid (HB1.out.trans ((HD.out.b.mono (show w.heap.size ≤ w1.heap.size by omega)).trans (below_setCells (rqC 0 ⟨#[]⟩ 0 kpZ 0 lpZ).toList w.heap.size 0 z3 (Nat.le_refl _))))
    generalize z3.setCells w.heap.size 0 (rqC 0 ⟨#[]⟩ 0 kpZ 0 lpZ).toList = w9 at *
    go_wp2_with fail
    refine bodyPost_ret (results_req rfl _ _ w.heap.size 0 ⟨#[]⟩ 0 kpZ 0 lpZ rfl HZ8.out) rfl ?_
    exact ⟨rfl, HB8.out⟩
  | .ok x, HPA, HNE, HPB =>
    go_enter Tryz.func8, Tryz.ntmps8
    go_upto_region 4 with (go_at_call 20; refine (HAL.out _).mono ?_; rintro e w1 ⟨v1, rfl, ht1, hb1⟩; have HB1 := Lib.hid ((HB.out _).trans (hb1.mono (HB.out _).size)); have HZ1 := Lib.hid (show Bk w1 w.heap.size 33 (rqC 0 ⟨#[]⟩ 0 kpZ 0 lpZ) from (Bk.new w _ _).on hb1); have HT1 := Lib.hid ht1; have hs1 : w.heap.size + 1 ≤ w1.heap.size := (by simpa using hb1.size); clear hb1 ht1)
    obtain ⟨q, c, rfl, hrd⟩ := tokrow_rd HT1.out
    have HWD := Lib.hid (fun (k : Nat) (kd : Int) (X : World) (hX : Below w1.heap.size w1 X) (hkd : kd ≠ 0) => refword_any X s q c ts k kd (hrd.grow hX) hsr hkd)
    have HPL := Lib.hid (fun (k : Nat) (X : World) (hX : Below w1.heap.size w1 X) => refplace_any X s q c ts k (hrd.grow hX) hll)
    clear hrd HT1 HAL HB hm hx
    go_upto_region 5 with fail
    have HD := Lib.hid (show RD w1 (rqC 0 ⟨#[]⟩ 0 kpZ 0 lpZ) (w1.alloc (.cells #[.int .u8 0, .string ⟨#[]⟩, .int .i64 0, .int .u8 0, .string ⟨#[]⟩, .string ⟨#[]⟩, .int .i64 0, .string ⟨#[]⟩, .slice none 0 0, .slice none 0 0, .int .i64 0, .int .u8 0, .string ⟨#[]⟩, .string ⟨#[]⟩, .int .i64 0, .string ⟨#[]⟩, .slice none 0 0] 33)) from ⟨below1 w1 _, Bk.new w1 _ _⟩)
    generalize w1.alloc (.cells #[.int .u8 0, .string ⟨#[]⟩, .int .i64 0, .int .u8 0, .string ⟨#[]⟩, .string ⟨#[]⟩, .int .i64 0, .string ⟨#[]⟩, .slice none 0 0, .slice none 0 0, .int .i64 0, .int .u8 0, .string ⟨#[]⟩, .string ⟨#[]⟩, .int .i64 0, .string ⟨#[]⟩, .slice none 0 0] 33) = W2 at *
    generalize hw2 : wordR s ts 2 1 = W2' at *
    have HW0 := Lib.hid (show ∀ X, Below w1.heap.size w1 X → Calls Tryz.prog 21 #[.string s, .slice q ts.length c, .int .i64 0, .int .u8 1] X (fun e w' => e = .returned (.string ⟨#[97, 115, 115, 101, 114, 116]⟩) ∧ Below X.heap.size X w') from fun X hX => hv0 ▸ HWD.out 0 1 X hX (by decide))
    have HW1 := Lib.hid (show ∀ X, Below w1.heap.size w1 X → Calls Tryz.prog 21 #[.string s, .slice q ts.length c, .int .i64 1, .int .u8 1] X (fun e w' => e = .returned (.string (textAt s ts 1)) ∧ Below X.heap.size X w') from fun X hX => hv1 ▸ HWD.out 1 1 X hX (by decide))
    have HW2 := Lib.hid (show ∀ X, Below w1.heap.size w1 X → Calls Tryz.prog 21 #[.string s, .slice q ts.length c, .int .i64 2, .int .u8 1] X (fun e w' => e = .returned (.string W2') ∧ Below X.heap.size X w') from fun X hX => hw2 ▸ HWD.out 2 1 X hX (by decide))
    have HP9 := Lib.hid (show ∀ X, Below w1.heap.size w1 X → Calls Tryz.prog 22 #[.string s, .slice q ts.length c, .int .i64 2] X (fun e w' => e = .returned (.int .i64 (g : Int)) ∧ w' = X) from fun X hX => hg ▸ HPL.out 2 X hX)
    clear hv0 hv1 hw2 HWD HPL hts hsr hk hwd hf hg hts9
    generalize textAt s ts 1 = lb at *
    go_upto_region 7 with (go_at_call 21; refine (HW0.out _ HD.out.b).mono ?_; rintro e x0 ⟨rfl, hbx⟩; replace HD := Lib.hid (HD.out.on hbx); clear hbx)
    have m0 := HD.out.m.cell 0 _ rfl
    have s0 := HD.out.m.soft 0
    go_upto_region 8 with fail
    clear m0 s0
    replace HD := Lib.hid (HD.out.store 0 (.int .u8 1))
    generalize x0.setCell ⟨w1.heap.size, 0, none⟩ (.int .u8 1) = y0 at *
    go_upto_region 9 with (go_at_call 21; refine (HW1.out _ HD.out.b).mono ?_; rintro e x1 ⟨rfl, hbx⟩; replace HD := Lib.hid (HD.out.on hbx); clear hbx; have m1 := HD.out.m.cell 1 _ rfl; have s1 := HD.out.m.soft 1)
    clear m1 s1
    replace HD := Lib.hid (HD.out.store 1 (.string lb))
    generalize x1.setCell ⟨w1.heap.size, 1, none⟩ (.string lb) = y1 at *
    have m1 := HD.out.m.cell 1 _ rfl
    have s1 := HD.out.m.soft 1
    go_wp2_with fail
    refine (HW2.out _ HD.out.b).mono ?_
    rintro e x2 ⟨rfl, hbx⟩
    replace HD := Lib.hid (HD.out.on hbx)
    clear hbx
    go_upto_region 17 with fail
    clear m1 s1
    clear HNE HPB
    go_upto_region 21 with (first | (go_at_call 22; refine (HP9.out _ HD.out.b).mono ?_; rintro e xp ⟨rfl, rfl⟩) | (go_at_call 24; refine (HPA.out _).mono ?_; rintro e z2 ⟨cl, hcl, rfl, hcm, hcf, hb2⟩; have hlt9 := HD.out.m.lt; replace HD := Lib.hid ((HD.out.on hb2).on (below1 z2 (.cells #[.int .u8 cl.head.kind, .string cl.head.who.v, .string cl.head.who.s, .int .i64 cl.head.who.n, .string cl.head.pred, .slice cl.head.ptr cl.head.args.length cl.head.cap, .slice cl.ptr cl.body.length cl.cap] 31))); have HM3 := Lib.hid (Bk.new z2 31 #[.int .u8 cl.head.kind, .string cl.head.who.v, .string cl.head.who.s, .int .i64 cl.head.who.n, .string cl.head.pred, .slice cl.head.ptr cl.head.args.length cl.head.cap, .slice cl.ptr cl.body.length cl.cap]); have HCL := Lib.hid hcl; have HCM := Lib.hid (hcm.on (below1 z2 (.cells #[.int .u8 cl.head.kind, .string cl.head.who.v, .string cl.head.who.s, .int .i64 cl.head.who.n, .string cl.head.pred, .slice cl.head.ptr cl.head.args.length cl.head.cap, .slice cl.ptr cl.body.length cl.cap] 31))); have HCF := Lib.hid (hcf.mono hlt9); obtain ⟨r0, r1, r2, r3, r4, r5, r6⟩ := HM3.out.seven; unfold Kp.agg; clear hb2 hcm hcf))
    generalize z2.alloc (.cells #[.int .u8 cl.head.kind, .string cl.head.who.v, .string cl.head.who.s, .int .i64 cl.head.who.n, .string cl.head.pred, .slice cl.head.ptr cl.head.args.length cl.head.cap, .slice cl.ptr cl.body.length cl.cap] 31) = z3 at *
    have m3 := HD.out.m.cell 3 _ rfl
    have s3 := HD.out.m.soft 3
    have m4 := HD.out.m.cell 4 _ rfl
    have s4 := HD.out.m.soft 4
    have m5 := HD.out.m.cell 5 _ rfl
    have s5 := HD.out.m.soft 5
    have m6 := HD.out.m.cell 6 _ rfl
    have s6 := HD.out.m.soft 6
    have m7 := HD.out.m.cell 7 _ rfl
    have s7 := HD.out.m.soft 7
    have m8 := HD.out.m.cell 8 _ rfl
    have s8 := HD.out.m.soft 8
    have m9 := HD.out.m.cell 9 _ rfl
    have s9 := HD.out.m.soft 9
    go_upto_region 22 with fail
    have HA4 := Lib.hid ((((((((Above.refl (w1.heap.size + 1) z3).set (b := w1.heap.size) (Nat.lt_succ_self _) 3 (.int .u8 cl.head.kind)).set (b := w1.heap.size) (Nat.lt_succ_self _) 4 (.string cl.head.who.v)).set (b := w1.heap.size) (Nat.lt_succ_self _) 5 (.string cl.head.who.s)).set (b := w1.heap.size) (Nat.lt_succ_self _) 6 (.int .i64 cl.head.who.n)).set (b := w1.heap.size) (Nat.lt_succ_self _) 7 (.string cl.head.pred)).set (b := w1.heap.size) (Nat.lt_succ_self _) 8 (.slice cl.head.ptr cl.head.args.length cl.head.cap)).set (b := w1.heap.size) (Nat.lt_succ_self _) 9 (.slice cl.ptr cl.body.length cl.cap))
    replace HD := Lib.hid (((((((HD.out.store 3 (.int .u8 cl.head.kind)).store 4 (.string cl.head.who.v)).store 5 (.string cl.head.who.s)).store 6 (.int .i64 cl.head.who.n)).store 7 (.string cl.head.pred)).store 8 (.slice cl.head.ptr cl.head.args.length cl.head.cap)).store 9 (.slice cl.ptr cl.body.length cl.cap))
    have hs4 : z3.heap.size ≤ (((((((z3.setCell ⟨w1.heap.size, 3, none⟩ (.int .u8 cl.head.kind)).setCell ⟨w1.heap.size, 4, none⟩ (.string cl.head.who.v)).setCell ⟨w1.heap.size, 5, none⟩ (.string cl.head.who.s)).setCell ⟨w1.heap.size, 6, none⟩ (.int .i64 cl.head.who.n)).setCell ⟨w1.heap.size, 7, none⟩ (.string cl.head.pred)).setCell ⟨w1.heap.size, 8, none⟩ (.slice cl.head.ptr cl.head.args.length cl.head.cap)).setCell ⟨w1.heap.size, 9, none⟩ (.slice cl.ptr cl.body.length cl.cap)).heap.size := by simp [World.setCell]
    clear m3 s3 m4 s4 m5 s5 m6 s6 m7 s7 m8 s8 m9 s9 r0 r1 r2 r3 r4 r5 r6
    generalize (((((((z3.setCell ⟨w1.heap.size, 3, none⟩ (.int .u8 cl.head.kind)).setCell ⟨w1.heap.size, 4, none⟩ (.string cl.head.who.v)).setCell ⟨w1.heap.size, 5, none⟩ (.string cl.head.who.s)).setCell ⟨w1.heap.size, 6, none⟩ (.int .i64 cl.head.who.n)).setCell ⟨w1.heap.size, 7, none⟩ (.string cl.head.pred)).setCell ⟨w1.heap.size, 8, none⟩ (.slice cl.head.ptr cl.head.args.length cl.head.cap)).setCell ⟨w1.heap.size, 9, none⟩ (.slice cl.ptr cl.body.length cl.cap)) = z4 at *
    have HM4 := Lib.hid (show Bk z4 w1.heap.size 33 (rqC 1 lb 0 cl 0 lpZ) from (by have h := HD.out.m; simp only [rqC, List.setIfInBounds_toArray, List.set_cons_zero, List.set_cons_succ] at h ⊢; exact h))
    obtain ⟨d9, hu9, hd9⟩ := rowReq
    have HZ7 := Lib.hid (HZ1.out.on HD.out.b)
    refine wp_region_list (show wpList _ _ _ (_ :: _ :: _) _ _ from ?_)
    refine wpList_load_mid rfl 33 (.tmp 8) rfl w1.heap.size 0 rfl (rqC 1 lb 0 cl 0 lpZ).toList d9 HM4.out.range hu9 hd9 (by rw [sizeReq]; rfl) ?_
    refine wpList_store_mid rfl 33 (.tmp 2) _ rfl w.heap.size 0 (rqC 1 lb 0 cl 0 lpZ) rfl rfl HZ7.out.there (sizeReqC _ _ _ _ _ _) (rqC_one _ _ _ _ _ _) ?_
    have HB8 := Lib.hid (HB1.out.trans ((HD.out.b.mono (show w.heap.size ≤ w1.heap.size by omega)).trans (below_setCells (rqC 1 lb 0 cl 0 lpZ).toList w.heap.size 0 z4 (Nat.le_refl _))))
    have HZ8 := Lib.hid (HZ7.out.setAll 1 lb 0 cl 0 lpZ ⟨0, ⟨#[]⟩, 0, kpZ, 0, lpZ, rfl⟩)
    have HR8 := Lib.hid ((ReqMem.above (show ReqMem z4 (w1.heap.size + 1) (.ass lb 0 x) (rqC 1 lb 0 cl 0 lpZ) from ⟨cl, HCL.out, rfl, HCM.out.above HCF.out HA4.out hs4, HCF.out⟩) (above_setCells (Above.refl (w.heap.size + 1) z4) (Nat.lt_succ_self _) (rqC 1 lb 0 cl 0 lpZ).toList) (by omega) (below_setCells (B := w.heap.size) (rqC 1 lb 0 cl 0 lpZ).toList w.heap.size 0 z4 (Nat.le_refl _)).size).mono (show w.heap.size ≤ w1.heap.size + 1 by omega))
    generalize z4.setCells w.heap.size 0 (rqC 1 lb 0 cl 0 lpZ).toList = w9 at *
    go_wp2_with fail
    refine bodyPost_ret (results_req rfl _ _ w.heap.size 1 lb 0 cl 0 lpZ rfl HZ8.out) rfl ?_
    exact ⟨_, rfl, HR8.out, HB8.out⟩
set_option maxHeartbeats 16000000 in
set_option maxRecDepth 100000 in
theorem refparse_assert_noB (s : ByteArray) (w : World) (hm : s.size ≤ 140737488351232) (hx : (allL s.data.toList).err = 0) (hwd : textAt s (allL s.data.toList).toks 0 = wdAssert) (hk : kindAt (allL s.data.toList).toks 1 = 1) (hf : textAt s (allL s.data.toList).toks 2 = wdFor) (hf3 : kindAt (allL s.data.toList).toks 3 ≠ 3) :
    Calls Tryz.prog 8 #[.string s] w (ReqPost w (restC s (placeAt s (allL s.data.toList).toks 2) (.ass (textAt s (allL s.data.toList).toks 1) 0))) := by
  have HB := Lib.hid (below1 w)
  have HAL := Lib.hid (fun X => refall_any s X hm)
  unfold AllPost at HAL
  have hts := toks_of s hx
  have hsr := hts.src
  rw [hx] at HAL
  generalize (allL s.data.toList).pl = pl at *
  generalize (allL s.data.toList).toks = ts at *
  have hll := hsr.len
  have hsz := hsr.size
  have hv0 : wordR s ts 0 1 = ⟨#[97, 115, 115, 101, 114, 116]⟩ := (word_is (c := 97) (r := [115, 115, 101, 114, 116]) hts hwd (by decide) (by kernel_rfl)).trans hwd
  have hv1 : wordR s ts 1 1 = textAt s ts 1 := if_pos hk
  have hl1 := kindAt_lt (ts := ts) (k := 1) (by rw [hk]; decide)
  have hb1 : ((textAt s ts 1).size : Int) ≠ 0 := fun e => hts.ne 1 hl1 (by
    have : (textAt s ts 1).size = 0 := by omega
    rcases hy : textAt s ts 1 with ⟨⟨a⟩⟩
    rw [hy] at this
    cases a with
    | nil => rfl
    | cons x r => simp [ByteArray.size] at this)
  have hb2 : (((textAt s ts 1).size : Int) == 0) = false := beq_eq_false_iff_ne.2 hb1
  have hv2 : wordR s ts 2 1 = ⟨#[102, 111, 114]⟩ := (word_is (c := 102) (r := [111, 114]) hts hf (by decide) (by kernel_rfl)).trans hf
  have hv3 : wordR s ts 3 3 = ⟨#[]⟩ := if_neg hf3
  obtain ⟨g, hg, hgs⟩ := src_place hsr 2
  have hts9 : (tailS s (placeAt s ts 2)).size ≤ 140737488351232 := Nat.le_trans (tail_size s _) (by omega)
  have htl := tail_size s (placeAt s ts 2)
  have HPA := Lib.hid (fun X => refParse_any (tailS s (placeAt s ts 2)) X hts9)
  have HTL := Lib.hid (show tailS s (placeAt s ts 2) = s.extract g s.size by unfold tailS; rw [hg]; rfl)
  have HNE := Lib.hid (fun (n p : Int) (e : parseR (tailS s (placeAt s ts 2)) = .error (n, p)) => parseR_ne e)
  have HPB := Lib.hid (fun (n p : Int) (e : parseR (tailS s (placeAt s ts 2)) = .error (n, p)) => parseR_place e)
  unfold restC
  rw [hg] at HPA HNE HPB htl HTL ⊢
  have hg0 : (0 : Int) ≤ (g : Int) := by omega
  have hg1 : (g : Int) ≤ (s.size : Int) := by omega
  generalize hR : parseR (tailS s (g : Int)) = R at *
  rw [HTL.out] at HPA
  clear hR HTL
  match R, HPA, HNE, HPB with
  | .error (n, p), HPA, HNE, HPB =>
    go_enter Tryz.func8, Tryz.ntmps8
    go_upto_region 4 with (go_at_call 20; refine (HAL.out _).mono ?_; rintro e w1 ⟨v1, rfl, ht1, hb1⟩; have HB1 := Lib.hid ((HB.out _).trans (hb1.mono (HB.out _).size)); have HZ1 := Lib.hid (show Bk w1 w.heap.size 33 (rqC 0 ⟨#[]⟩ 0 kpZ 0 lpZ) from (Bk.new w _ _).on hb1); have HT1 := Lib.hid ht1; have hs1 : w.heap.size + 1 ≤ w1.heap.size := (by simpa using hb1.size); clear hb1 ht1)
    obtain ⟨q, c, rfl, hrd⟩ := tokrow_rd HT1.out
    have HWD := Lib.hid (fun (k : Nat) (kd : Int) (X : World) (hX : Below w1.heap.size w1 X) (hkd : kd ≠ 0) => refword_any X s q c ts k kd (hrd.grow hX) hsr hkd)
    have HPL := Lib.hid (fun (k : Nat) (X : World) (hX : Below w1.heap.size w1 X) => refplace_any X s q c ts k (hrd.grow hX) hll)
    clear hrd HT1 HAL HB hm hx
    go_upto_region 5 with fail
    have HD := Lib.hid (show RD w1 (rqC 0 ⟨#[]⟩ 0 kpZ 0 lpZ) (w1.alloc (.cells #[.int .u8 0, .string ⟨#[]⟩, .int .i64 0, .int .u8 0, .string ⟨#[]⟩, .string ⟨#[]⟩, .int .i64 0, .string ⟨#[]⟩, .slice none 0 0, .slice none 0 0, .int .i64 0, .int .u8 0, .string ⟨#[]⟩, .string ⟨#[]⟩, .int .i64 0, .string ⟨#[]⟩, .slice none 0 0] 33)) from ⟨below1 w1 _, Bk.new w1 _ _⟩)
    generalize w1.alloc (.cells #[.int .u8 0, .string ⟨#[]⟩, .int .i64 0, .int .u8 0, .string ⟨#[]⟩, .string ⟨#[]⟩, .int .i64 0, .string ⟨#[]⟩, .slice none 0 0, .slice none 0 0, .int .i64 0, .int .u8 0, .string ⟨#[]⟩, .string ⟨#[]⟩, .int .i64 0, .string ⟨#[]⟩, .slice none 0 0] 33) = W2 at *
    have HW0 := Lib.hid (show ∀ X, Below w1.heap.size w1 X → Calls Tryz.prog 21 #[.string s, .slice q ts.length c, .int .i64 0, .int .u8 1] X (fun e w' => e = .returned (.string ⟨#[97, 115, 115, 101, 114, 116]⟩) ∧ Below X.heap.size X w') from fun X hX => hv0 ▸ HWD.out 0 1 X hX (by decide))
    have HW1 := Lib.hid (show ∀ X, Below w1.heap.size w1 X → Calls Tryz.prog 21 #[.string s, .slice q ts.length c, .int .i64 1, .int .u8 1] X (fun e w' => e = .returned (.string (textAt s ts 1)) ∧ Below X.heap.size X w') from fun X hX => hv1 ▸ HWD.out 1 1 X hX (by decide))
    have HW2 := Lib.hid (show ∀ X, Below w1.heap.size w1 X → Calls Tryz.prog 21 #[.string s, .slice q ts.length c, .int .i64 2, .int .u8 1] X (fun e w' => e = .returned (.string ⟨#[102, 111, 114]⟩) ∧ Below X.heap.size X w') from fun X hX => hv2 ▸ HWD.out 2 1 X hX (by decide))
    have HW3 := Lib.hid (show ∀ X, Below w1.heap.size w1 X → Calls Tryz.prog 21 #[.string s, .slice q ts.length c, .int .i64 3, .int .u8 3] X (fun e w' => e = .returned (.string ⟨#[]⟩) ∧ Below X.heap.size X w') from fun X hX => hv3 ▸ HWD.out 3 3 X hX (by decide))
    have HP9 := Lib.hid (show ∀ X, Below w1.heap.size w1 X → Calls Tryz.prog 22 #[.string s, .slice q ts.length c, .int .i64 2] X (fun e w' => e = .returned (.int .i64 (g : Int)) ∧ w' = X) from fun X hX => hg ▸ HPL.out 2 X hX)
    clear hv0 hv1 hv2 hv3 hf3 HWD HPL hts hsr hk hwd hf hg hts9
    generalize textAt s ts 1 = lb at *
    go_upto_region 7 with (go_at_call 21; refine (HW0.out _ HD.out.b).mono ?_; rintro e x0 ⟨rfl, hbx⟩; replace HD := Lib.hid (HD.out.on hbx); clear hbx)
    have m0 := HD.out.m.cell 0 _ rfl
    have s0 := HD.out.m.soft 0
    go_upto_region 8 with fail
    clear m0 s0
    replace HD := Lib.hid (HD.out.store 0 (.int .u8 1))
    generalize x0.setCell ⟨w1.heap.size, 0, none⟩ (.int .u8 1) = y0 at *
    go_upto_region 9 with (go_at_call 21; refine (HW1.out _ HD.out.b).mono ?_; rintro e x1 ⟨rfl, hbx⟩; replace HD := Lib.hid (HD.out.on hbx); clear hbx; have m1 := HD.out.m.cell 1 _ rfl; have s1 := HD.out.m.soft 1)
    clear m1 s1
    replace HD := Lib.hid (HD.out.store 1 (.string lb))
    generalize x1.setCell ⟨w1.heap.size, 1, none⟩ (.string lb) = y1 at *
    have m1 := HD.out.m.cell 1 _ rfl
    have s1 := HD.out.m.soft 1
    go_wp2_with fail
    refine (HW2.out _ HD.out.b).mono ?_
    rintro e x2 ⟨rfl, hbx⟩
    replace HD := Lib.hid (HD.out.on hbx)
    clear hbx
    go_wp2_with fail
    refine (HW3.out _ HD.out.b).mono ?_
    rintro e x3 ⟨rfl, hbx⟩
    replace HD := Lib.hid (HD.out.on hbx)
    clear hbx
    go_upto_region 17 with fail
    clear m1 s1
    have hne : (n != 0) = true := by rw [bne_iff_ne]; exact HNE.out n p rfl
    obtain ⟨hp0, hp1⟩ := HPB.out n p rfl
    have hgp : (g : Int) + p ≤ 10000 := by omega
    have hgq : (0 : Int) ≤ (g : Int) + p := by omega
    clear HNE HPB
    go_wp2_with fail
    refine (HP9.out _ HD.out.b).mono ?_
    rintro e xp ⟨rfl, rfl⟩
    go_wp2_with fail
    refine (HPA.out _).mono ?_
    rintro e z2 ⟨rfl, hb2⟩
    replace HD := Lib.hid ((HD.out.on hb2).on (below1 z2 (.cells #[.int .u8 0, .string ⟨#[]⟩, .string ⟨#[]⟩, .int .i64 0, .string ⟨#[]⟩, .slice none 0 0, .slice none 0 0] 31)))
    have HM3 := Lib.hid (Bk.new z2 31 #[.int .u8 0, .string ⟨#[]⟩, .string ⟨#[]⟩, .int .i64 0, .string ⟨#[]⟩, .slice none 0 0, .slice none 0 0])
    obtain ⟨r0, r1, r2, r3, r4, r5, r6⟩ := HM3.out.seven
    unfold kpZ lpZ Kp.agg tmZ
    clear hb2
    go_upto_region 20 with fail
    generalize z2.alloc (.cells #[.int .u8 0, .string ⟨#[]⟩, .string ⟨#[]⟩, .int .i64 0, .string ⟨#[]⟩, .slice none 0 0, .slice none 0 0] 31) = z3 at *
    clear HM3 r0 r1 r2 r3 r4 r5 r6
    refine wp_region_list (show wpList _ _ _ (_ :: _ :: _ :: _ :: _ :: _ :: _) _ _ from ?_)
    refine wpList_plain rfl (fun K hK => ?_)
    go_simp
    refine hK _ _ ?_
    clear hK K
    refine wpList_plain rfl (fun K hK => ?_)
    go_simp
    refine hK _ _ ?_
    clear hK K
    refine wpList_plain rfl (fun K hK => ?_)
    go_simp
    refine hK _ _ ?_
    clear hK K
    refine wpList_plain rfl (fun K hK => ?_)
    go_simp
    refine hK _ _ ?_
    clear hK K
    refine wpList_plain rfl (fun K hK => ?_)
    go_simp
    refine hK _ _ ?_
    clear hK K
    refine wpList_store_mid rfl 33 (.tmp 2) _ rfl w.heap.size 0 (rqC 0 ⟨#[]⟩ 0 kpZ 0 lpZ) rfl rfl (HZ1.out.on HD.out.b).there (sizeReqC _ _ _ _ _ _) (rqC_one _ _ _ _ _ _) ?_
    have HZ8 := Lib.hid ((HZ1.out.on HD.out.b).setAll 0 ⟨#[]⟩ 0 kpZ 0 lpZ ⟨_, _, _, kpZ, _, lpZ, rfl⟩)
    have HB8 := Lib.hid (HB1.out.trans ((HD.out.b.mono (show w.heap.size ≤ w1.heap.size by omega)).trans (below_setCells (rqC 0 ⟨#[]⟩ 0 kpZ 0 lpZ).toList w.heap.size 0 z3 (Nat.le_refl _))))
    generalize z3.setCells w.heap.size 0 (rqC 0 ⟨#[]⟩ 0 kpZ 0 lpZ).toList = w9 at *
    go_wp2_with fail
    refine bodyPost_ret (results_req rfl _ _ w.heap.size 0 ⟨#[]⟩ 0 kpZ 0 lpZ rfl HZ8.out) rfl ?_
    exact ⟨rfl, HB8.out⟩
  | .ok x, HPA, HNE, HPB =>
    go_enter Tryz.func8, Tryz.ntmps8
    go_upto_region 4 with (go_at_call 20; refine (HAL.out _).mono ?_; rintro e w1 ⟨v1, rfl, ht1, hb1⟩; have HB1 := Lib.hid ((HB.out _).trans (hb1.mono (HB.out _).size)); have HZ1 := Lib.hid (show Bk w1 w.heap.size 33 (rqC 0 ⟨#[]⟩ 0 kpZ 0 lpZ) from (Bk.new w _ _).on hb1); have HT1 := Lib.hid ht1; have hs1 : w.heap.size + 1 ≤ w1.heap.size := (by simpa using hb1.size); clear hb1 ht1)
    obtain ⟨q, c, rfl, hrd⟩ := tokrow_rd HT1.out
    have HWD := Lib.hid (fun (k : Nat) (kd : Int) (X : World) (hX : Below w1.heap.size w1 X) (hkd : kd ≠ 0) => refword_any X s q c ts k kd (hrd.grow hX) hsr hkd)
    have HPL := Lib.hid (fun (k : Nat) (X : World) (hX : Below w1.heap.size w1 X) => refplace_any X s q c ts k (hrd.grow hX) hll)
    clear hrd HT1 HAL HB hm hx
    go_upto_region 5 with fail
    have HD := Lib.hid (show RD w1 (rqC 0 ⟨#[]⟩ 0 kpZ 0 lpZ) (w1.alloc (.cells #[.int .u8 0, .string ⟨#[]⟩, .int .i64 0, .int .u8 0, .string ⟨#[]⟩, .string ⟨#[]⟩, .int .i64 0, .string ⟨#[]⟩, .slice none 0 0, .slice none 0 0, .int .i64 0, .int .u8 0, .string ⟨#[]⟩, .string ⟨#[]⟩, .int .i64 0, .string ⟨#[]⟩, .slice none 0 0] 33)) from ⟨below1 w1 _, Bk.new w1 _ _⟩)
    generalize w1.alloc (.cells #[.int .u8 0, .string ⟨#[]⟩, .int .i64 0, .int .u8 0, .string ⟨#[]⟩, .string ⟨#[]⟩, .int .i64 0, .string ⟨#[]⟩, .slice none 0 0, .slice none 0 0, .int .i64 0, .int .u8 0, .string ⟨#[]⟩, .string ⟨#[]⟩, .int .i64 0, .string ⟨#[]⟩, .slice none 0 0] 33) = W2 at *
    have HW0 := Lib.hid (show ∀ X, Below w1.heap.size w1 X → Calls Tryz.prog 21 #[.string s, .slice q ts.length c, .int .i64 0, .int .u8 1] X (fun e w' => e = .returned (.string ⟨#[97, 115, 115, 101, 114, 116]⟩) ∧ Below X.heap.size X w') from fun X hX => hv0 ▸ HWD.out 0 1 X hX (by decide))
    have HW1 := Lib.hid (show ∀ X, Below w1.heap.size w1 X → Calls Tryz.prog 21 #[.string s, .slice q ts.length c, .int .i64 1, .int .u8 1] X (fun e w' => e = .returned (.string (textAt s ts 1)) ∧ Below X.heap.size X w') from fun X hX => hv1 ▸ HWD.out 1 1 X hX (by decide))
    have HW2 := Lib.hid (show ∀ X, Below w1.heap.size w1 X → Calls Tryz.prog 21 #[.string s, .slice q ts.length c, .int .i64 2, .int .u8 1] X (fun e w' => e = .returned (.string ⟨#[102, 111, 114]⟩) ∧ Below X.heap.size X w') from fun X hX => hv2 ▸ HWD.out 2 1 X hX (by decide))
    have HW3 := Lib.hid (show ∀ X, Below w1.heap.size w1 X → Calls Tryz.prog 21 #[.string s, .slice q ts.length c, .int .i64 3, .int .u8 3] X (fun e w' => e = .returned (.string ⟨#[]⟩) ∧ Below X.heap.size X w') from fun X hX => hv3 ▸ HWD.out 3 3 X hX (by decide))
    have HP9 := Lib.hid (show ∀ X, Below w1.heap.size w1 X → Calls Tryz.prog 22 #[.string s, .slice q ts.length c, .int .i64 2] X (fun e w' => e = .returned (.int .i64 (g : Int)) ∧ w' = X) from fun X hX => hg ▸ HPL.out 2 X hX)
    clear hv0 hv1 hv2 hv3 hf3 HWD HPL hts hsr hk hwd hf hg hts9
    generalize textAt s ts 1 = lb at *
    go_upto_region 7 with (go_at_call 21; refine (HW0.out _ HD.out.b).mono ?_; rintro e x0 ⟨rfl, hbx⟩; replace HD := Lib.hid (HD.out.on hbx); clear hbx)
    have m0 := HD.out.m.cell 0 _ rfl
    have s0 := HD.out.m.soft 0
    go_upto_region 8 with fail
    clear m0 s0
    replace HD := Lib.hid (HD.out.store 0 (.int .u8 1))
    generalize x0.setCell ⟨w1.heap.size, 0, none⟩ (.int .u8 1) = y0 at *
    go_upto_region 9 with (go_at_call 21; refine (HW1.out _ HD.out.b).mono ?_; rintro e x1 ⟨rfl, hbx⟩; replace HD := Lib.hid (HD.out.on hbx); clear hbx; have m1 := HD.out.m.cell 1 _ rfl; have s1 := HD.out.m.soft 1)
    clear m1 s1
    replace HD := Lib.hid (HD.out.store 1 (.string lb))
    generalize x1.setCell ⟨w1.heap.size, 1, none⟩ (.string lb) = y1 at *
    have m1 := HD.out.m.cell 1 _ rfl
    have s1 := HD.out.m.soft 1
    go_wp2_with fail
    refine (HW2.out _ HD.out.b).mono ?_
    rintro e x2 ⟨rfl, hbx⟩
    replace HD := Lib.hid (HD.out.on hbx)
    clear hbx
    go_wp2_with fail
    refine (HW3.out _ HD.out.b).mono ?_
    rintro e x3 ⟨rfl, hbx⟩
    replace HD := Lib.hid (HD.out.on hbx)
    clear hbx
    go_upto_region 17 with fail
    clear m1 s1
    clear HNE HPB
    go_upto_region 21 with (first | (go_at_call 22; refine (HP9.out _ HD.out.b).mono ?_; rintro e xp ⟨rfl, rfl⟩) | (go_at_call 24; refine (HPA.out _).mono ?_; rintro e z2 ⟨cl, hcl, rfl, hcm, hcf, hb2⟩; have hlt9 := HD.out.m.lt; replace HD := Lib.hid ((HD.out.on hb2).on (below1 z2 (.cells #[.int .u8 cl.head.kind, .string cl.head.who.v, .string cl.head.who.s, .int .i64 cl.head.who.n, .string cl.head.pred, .slice cl.head.ptr cl.head.args.length cl.head.cap, .slice cl.ptr cl.body.length cl.cap] 31))); have HM3 := Lib.hid (Bk.new z2 31 #[.int .u8 cl.head.kind, .string cl.head.who.v, .string cl.head.who.s, .int .i64 cl.head.who.n, .string cl.head.pred, .slice cl.head.ptr cl.head.args.length cl.head.cap, .slice cl.ptr cl.body.length cl.cap]); have HCL := Lib.hid hcl; have HCM := Lib.hid (hcm.on (below1 z2 (.cells #[.int .u8 cl.head.kind, .string cl.head.who.v, .string cl.head.who.s, .int .i64 cl.head.who.n, .string cl.head.pred, .slice cl.head.ptr cl.head.args.length cl.head.cap, .slice cl.ptr cl.body.length cl.cap] 31))); have HCF := Lib.hid (hcf.mono hlt9); obtain ⟨r0, r1, r2, r3, r4, r5, r6⟩ := HM3.out.seven; unfold Kp.agg; clear hb2 hcm hcf))
    generalize z2.alloc (.cells #[.int .u8 cl.head.kind, .string cl.head.who.v, .string cl.head.who.s, .int .i64 cl.head.who.n, .string cl.head.pred, .slice cl.head.ptr cl.head.args.length cl.head.cap, .slice cl.ptr cl.body.length cl.cap] 31) = z3 at *
    have m3 := HD.out.m.cell 3 _ rfl
    have s3 := HD.out.m.soft 3
    have m4 := HD.out.m.cell 4 _ rfl
    have s4 := HD.out.m.soft 4
    have m5 := HD.out.m.cell 5 _ rfl
    have s5 := HD.out.m.soft 5
    have m6 := HD.out.m.cell 6 _ rfl
    have s6 := HD.out.m.soft 6
    have m7 := HD.out.m.cell 7 _ rfl
    have s7 := HD.out.m.soft 7
    have m8 := HD.out.m.cell 8 _ rfl
    have s8 := HD.out.m.soft 8
    have m9 := HD.out.m.cell 9 _ rfl
    have s9 := HD.out.m.soft 9
    go_upto_region 22 with fail
    have HA4 := Lib.hid ((((((((Above.refl (w1.heap.size + 1) z3).set (b := w1.heap.size) (Nat.lt_succ_self _) 3 (.int .u8 cl.head.kind)).set (b := w1.heap.size) (Nat.lt_succ_self _) 4 (.string cl.head.who.v)).set (b := w1.heap.size) (Nat.lt_succ_self _) 5 (.string cl.head.who.s)).set (b := w1.heap.size) (Nat.lt_succ_self _) 6 (.int .i64 cl.head.who.n)).set (b := w1.heap.size) (Nat.lt_succ_self _) 7 (.string cl.head.pred)).set (b := w1.heap.size) (Nat.lt_succ_self _) 8 (.slice cl.head.ptr cl.head.args.length cl.head.cap)).set (b := w1.heap.size) (Nat.lt_succ_self _) 9 (.slice cl.ptr cl.body.length cl.cap))
    replace HD := Lib.hid (((((((HD.out.store 3 (.int .u8 cl.head.kind)).store 4 (.string cl.head.who.v)).store 5 (.string cl.head.who.s)).store 6 (.int .i64 cl.head.who.n)).store 7 (.string cl.head.pred)).store 8 (.slice cl.head.ptr cl.head.args.length cl.head.cap)).store 9 (.slice cl.ptr cl.body.length cl.cap))
    have hs4 : z3.heap.size ≤ (((((((z3.setCell ⟨w1.heap.size, 3, none⟩ (.int .u8 cl.head.kind)).setCell ⟨w1.heap.size, 4, none⟩ (.string cl.head.who.v)).setCell ⟨w1.heap.size, 5, none⟩ (.string cl.head.who.s)).setCell ⟨w1.heap.size, 6, none⟩ (.int .i64 cl.head.who.n)).setCell ⟨w1.heap.size, 7, none⟩ (.string cl.head.pred)).setCell ⟨w1.heap.size, 8, none⟩ (.slice cl.head.ptr cl.head.args.length cl.head.cap)).setCell ⟨w1.heap.size, 9, none⟩ (.slice cl.ptr cl.body.length cl.cap)).heap.size := by simp [World.setCell]
    clear m3 s3 m4 s4 m5 s5 m6 s6 m7 s7 m8 s8 m9 s9 r0 r1 r2 r3 r4 r5 r6
    generalize (((((((z3.setCell ⟨w1.heap.size, 3, none⟩ (.int .u8 cl.head.kind)).setCell ⟨w1.heap.size, 4, none⟩ (.string cl.head.who.v)).setCell ⟨w1.heap.size, 5, none⟩ (.string cl.head.who.s)).setCell ⟨w1.heap.size, 6, none⟩ (.int .i64 cl.head.who.n)).setCell ⟨w1.heap.size, 7, none⟩ (.string cl.head.pred)).setCell ⟨w1.heap.size, 8, none⟩ (.slice cl.head.ptr cl.head.args.length cl.head.cap)).setCell ⟨w1.heap.size, 9, none⟩ (.slice cl.ptr cl.body.length cl.cap)) = z4 at *
    have HM4 := Lib.hid (show Bk z4 w1.heap.size 33 (rqC 1 lb 0 cl 0 lpZ) from (by have h := HD.out.m; simp only [rqC, List.setIfInBounds_toArray, List.set_cons_zero, List.set_cons_succ] at h ⊢; exact h))
    obtain ⟨d9, hu9, hd9⟩ := rowReq
    have HZ7 := Lib.hid (HZ1.out.on HD.out.b)
    refine wp_region_list (show wpList _ _ _ (_ :: _ :: _) _ _ from ?_)
    refine wpList_load_mid rfl 33 (.tmp 8) rfl w1.heap.size 0 rfl (rqC 1 lb 0 cl 0 lpZ).toList d9 HM4.out.range hu9 hd9 (by rw [sizeReq]; rfl) ?_
    refine wpList_store_mid rfl 33 (.tmp 2) _ rfl w.heap.size 0 (rqC 1 lb 0 cl 0 lpZ) rfl rfl HZ7.out.there (sizeReqC _ _ _ _ _ _) (rqC_one _ _ _ _ _ _) ?_
    have HB8 := Lib.hid (HB1.out.trans ((HD.out.b.mono (show w.heap.size ≤ w1.heap.size by omega)).trans (below_setCells (rqC 1 lb 0 cl 0 lpZ).toList w.heap.size 0 z4 (Nat.le_refl _))))
    have HZ8 := Lib.hid (HZ7.out.setAll 1 lb 0 cl 0 lpZ ⟨0, ⟨#[]⟩, 0, kpZ, 0, lpZ, rfl⟩)
    have HR8 := Lib.hid ((ReqMem.above (show ReqMem z4 (w1.heap.size + 1) (.ass lb 0 x) (rqC 1 lb 0 cl 0 lpZ) from ⟨cl, HCL.out, rfl, HCM.out.above HCF.out HA4.out hs4, HCF.out⟩) (above_setCells (Above.refl (w.heap.size + 1) z4) (Nat.lt_succ_self _) (rqC 1 lb 0 cl 0 lpZ).toList) (by omega) (below_setCells (B := w.heap.size) (rqC 1 lb 0 cl 0 lpZ).toList w.heap.size 0 z4 (Nat.le_refl _)).size).mono (show w.heap.size ≤ w1.heap.size + 1 by omega))
    generalize z4.setCells w.heap.size 0 (rqC 1 lb 0 cl 0 lpZ).toList = w9 at *
    go_wp2_with fail
    refine bodyPost_ret (results_req rfl _ _ w.heap.size 1 lb 0 cl 0 lpZ rfl HZ8.out) rfl ?_
    exact ⟨_, rfl, HR8.out, HB8.out⟩
set_option maxHeartbeats 16000000 in
set_option maxRecDepth 100000 in
theorem refparse_revoke_num0 (s : ByteArray) (w : World) (hm : s.size ≤ 140737488351232) (hx : (allL s.data.toList).err = 0) (hwd : textAt s (allL s.data.toList).toks 0 = wdRevoke) (hn : numR (textAt s (allL s.data.toList).toks 1) = 0) :
    Calls Tryz.prog 8 #[.string s] w (ReqPost w (.error (6, placeAt s (allL s.data.toList).toks 1))) := by
  have HB := Lib.hid (below1 w)
  have HAL := Lib.hid (fun X => refall_any s X hm)
  unfold AllPost at HAL
  have hts := toks_of s hx
  have hsr := hts.src
  rw [hx] at HAL
  generalize (allL s.data.toList).pl = pl at *
  generalize (allL s.data.toList).toks = ts at *
  have hll := hsr.len
  have hsz := hsr.size
  have hv0 : wordR s ts 0 1 = ⟨#[114, 101, 118, 111, 107, 101]⟩ := (word_is (c := 114) (r := [101, 118, 111, 107, 101]) hts hwd (by decide) (by kernel_rfl)).trans hwd
  have hwn := word_num (k := 1) hts
  have hnz : (wordR s ts 1 3).size ≤ maxLen := by
    unfold wordR
    split
    · exact Nat.le_trans (textAt_size ts 1 hsz) (by decide)
    · decide
  have HNR := Lib.hid (fun X => hwn ▸ refnumber_any (wordR s ts 1 3) X hnz)
  generalize hw1 : wordR s ts 1 3 = nt at *
  generalize numR (textAt s ts 1) = n at *
  subst hn
  go_enter Tryz.func8, Tryz.ntmps8
  go_upto_region 4 with (go_at_call 20; refine (HAL.out _).mono ?_; rintro e w1 ⟨v1, rfl, ht1, hb1⟩; have HB1 := Lib.hid ((HB.out _).trans (hb1.mono (HB.out _).size)); have HZ1 := Lib.hid (show Bk w1 w.heap.size 33 (rqC 0 ⟨#[]⟩ 0 kpZ 0 lpZ) from (Bk.new w _ _).on hb1); have HT1 := Lib.hid ht1; have hs1 : w.heap.size + 1 ≤ w1.heap.size := (by simpa using hb1.size); clear hb1 ht1)
  obtain ⟨q, c, rfl, hrd⟩ := tokrow_rd HT1.out
  have HWD := Lib.hid (fun (k : Nat) (kd : Int) (X : World) (hX : Below w1.heap.size w1 X) (hkd : kd ≠ 0) => refword_any X s q c ts k kd (hrd.grow hX) hsr hkd)
  have HPL := Lib.hid (fun (k : Nat) (X : World) (hX : Below w1.heap.size w1 X) => refplace_any X s q c ts k (hrd.grow hX) hll)
  clear hrd HT1 HAL HB hm hx
  go_upto_region 5 with fail
  have HD := Lib.hid (show RD w1 (rqC 0 ⟨#[]⟩ 0 kpZ 0 lpZ) (w1.alloc (.cells #[.int .u8 0, .string ⟨#[]⟩, .int .i64 0, .int .u8 0, .string ⟨#[]⟩, .string ⟨#[]⟩, .int .i64 0, .string ⟨#[]⟩, .slice none 0 0, .slice none 0 0, .int .i64 0, .int .u8 0, .string ⟨#[]⟩, .string ⟨#[]⟩, .int .i64 0, .string ⟨#[]⟩, .slice none 0 0] 33)) from ⟨below1 w1 _, Bk.new w1 _ _⟩)
  generalize w1.alloc (.cells #[.int .u8 0, .string ⟨#[]⟩, .int .i64 0, .int .u8 0, .string ⟨#[]⟩, .string ⟨#[]⟩, .int .i64 0, .string ⟨#[]⟩, .slice none 0 0, .slice none 0 0, .int .i64 0, .int .u8 0, .string ⟨#[]⟩, .string ⟨#[]⟩, .int .i64 0, .string ⟨#[]⟩, .slice none 0 0] 33) = W2 at *
  have HW0 := Lib.hid (show ∀ X, Below w1.heap.size w1 X → Calls Tryz.prog 21 #[.string s, .slice q ts.length c, .int .i64 0, .int .u8 1] X (fun e w' => e = .returned (.string ⟨#[114, 101, 118, 111, 107, 101]⟩) ∧ Below X.heap.size X w') from fun X hX => hv0 ▸ HWD.out 0 1 X hX (by decide))
  have HW1 := Lib.hid (show ∀ X, Below w1.heap.size w1 X → Calls Tryz.prog 21 #[.string s, .slice q ts.length c, .int .i64 1, .int .u8 3] X (fun e w' => e = .returned (.string nt) ∧ Below X.heap.size X w') from fun X hX => hw1 ▸ HWD.out 1 3 X hX (by decide))
  have HP1 := Lib.hid (show ∀ X, Below w1.heap.size w1 X → Calls Tryz.prog 22 #[.string s, .slice q ts.length c, .int .i64 1] X (fun e w' => e = .returned (.int .i64 (placeAt s ts 1)) ∧ w' = X) from fun X hX => HPL.out 1 X hX)
  clear hv0 hw1 HWD HPL hts hsr hwd hwn
  go_upto_region 24 with (go_at_call 21; refine (HW0.out _ HD.out.b).mono ?_; rintro e x0 ⟨rfl, hbx⟩; replace HD := Lib.hid (HD.out.on hbx); clear hbx)
  have m0 := HD.out.m.cell 0 _ rfl
  have s0 := HD.out.m.soft 0
  go_upto_region 25 with fail
  clear m0 s0
  replace HD := Lib.hid (HD.out.store 0 (.int .u8 2))
  generalize x0.setCell ⟨w1.heap.size, 0, none⟩ (.int .u8 2) = y0 at *
  go_upto_region 26 with (first | (go_at_call 21; refine (HW1.out _ HD.out.b).mono ?_; rintro e x1 ⟨rfl, hbx⟩; replace HD := Lib.hid (HD.out.on hbx); clear hbx) | (go_at_call 23; refine (HNR.out _).mono ?_; rintro e xn ⟨rfl, hbx⟩; replace HD := Lib.hid (HD.out.on hbx); clear hbx; have m10 := HD.out.m.cell 10 _ rfl; have s10 := HD.out.m.soft 10))
  clear m10 s10
  replace HD := Lib.hid (HD.out.store 10 (.int .i64 0))
  generalize xn.setCell ⟨w1.heap.size, 10, none⟩ (.int .i64 0) = y2 at *
  have m10 := HD.out.m.cell 10 _ rfl
  have s10 := HD.out.m.soft 10
  go_wp2_with (first | (go_at_call 22; refine (HP1.out _ HD.out.b).mono ?_; rintro e xp ⟨rfl, rfl⟩) | (with_reducible (show wpList _ _ _ (Oper.mk none (Op.store 33 (Operand.tmp 2) _) _ _ _ _ :: _) _ _); refine wpList_store_mid rfl 33 (.tmp 2) _ rfl w.heap.size 0 (rqC 0 ⟨#[]⟩ 0 kpZ 0 lpZ) rfl rfl (HZ1.out.on HD.out.b).there (sizeReqC _ _ _ _ _ _) (rqC_one _ _ _ _ _ _) ?_; have HZ8 := Lib.hid ((HZ1.out.on HD.out.b).setAll 0 ⟨#[]⟩ 0 kpZ 0 lpZ ⟨_, _, _, kpZ, _, lpZ, rfl⟩); have HB8 := Lib.hid (HB1.out.trans ((HD.out.b.mono (show w.heap.size ≤ w1.heap.size by omega)).trans (below_setCells (rqC 0 ⟨#[]⟩ 0 kpZ 0 lpZ).toList w.heap.size 0 _ (Nat.le_refl _))))))
  refine bodyPost_ret (results_req rfl _ _ w.heap.size 0 ⟨#[]⟩ 0 kpZ 0 lpZ rfl HZ8.out) rfl ?_
  exact ⟨rfl, HB8.out⟩
set_option maxHeartbeats 16000000 in
set_option maxRecDepth 100000 in
theorem refparse_revoke_more (s : ByteArray) (w : World) (hm : s.size ≤ 140737488351232) (hx : (allL s.data.toList).err = 0) (hwd : textAt s (allL s.data.toList).toks 0 = wdRevoke) (hn : numR (textAt s (allL s.data.toList).toks 1) ≠ 0) (h2 : 2 < (allL s.data.toList).toks.length) :
    Calls Tryz.prog 8 #[.string s] w (ReqPost w (.error (6, placeAt s (allL s.data.toList).toks 2))) := by
  have HB := Lib.hid (below1 w)
  have HAL := Lib.hid (fun X => refall_any s X hm)
  unfold AllPost at HAL
  have hts := toks_of s hx
  have hsr := hts.src
  rw [hx] at HAL
  generalize (allL s.data.toList).pl = pl at *
  generalize (allL s.data.toList).toks = ts at *
  have hll := hsr.len
  have hsz := hsr.size
  have hv0 : wordR s ts 0 1 = ⟨#[114, 101, 118, 111, 107, 101]⟩ := (word_is (c := 114) (r := [101, 118, 111, 107, 101]) hts hwd (by decide) (by kernel_rfl)).trans hwd
  have hwn := word_num (k := 1) hts
  have hnz : (wordR s ts 1 3).size ≤ maxLen := by
    unfold wordR
    split
    · exact Nat.le_trans (textAt_size ts 1 hsz) (by decide)
    · decide
  have HNR := Lib.hid (fun X => hwn ▸ refnumber_any (wordR s ts 1 3) X hnz)
  generalize hw1 : wordR s ts 1 3 = nt at *
  generalize numR (textAt s ts 1) = n at *
  have hn0 : (n == 0) = false := beq_eq_false_iff_ne.2 hn
  have h2' : (2 : Int) < (ts.length : Int) := by omega
  go_enter Tryz.func8, Tryz.ntmps8
  go_upto_region 4 with (go_at_call 20; refine (HAL.out _).mono ?_; rintro e w1 ⟨v1, rfl, ht1, hb1⟩; have HB1 := Lib.hid ((HB.out _).trans (hb1.mono (HB.out _).size)); have HZ1 := Lib.hid (show Bk w1 w.heap.size 33 (rqC 0 ⟨#[]⟩ 0 kpZ 0 lpZ) from (Bk.new w _ _).on hb1); have HT1 := Lib.hid ht1; have hs1 : w.heap.size + 1 ≤ w1.heap.size := (by simpa using hb1.size); clear hb1 ht1)
  obtain ⟨q, c, rfl, hrd⟩ := tokrow_rd HT1.out
  have HWD := Lib.hid (fun (k : Nat) (kd : Int) (X : World) (hX : Below w1.heap.size w1 X) (hkd : kd ≠ 0) => refword_any X s q c ts k kd (hrd.grow hX) hsr hkd)
  have HPL := Lib.hid (fun (k : Nat) (X : World) (hX : Below w1.heap.size w1 X) => refplace_any X s q c ts k (hrd.grow hX) hll)
  clear hrd HT1 HAL HB hm hx
  go_upto_region 5 with fail
  have HD := Lib.hid (show RD w1 (rqC 0 ⟨#[]⟩ 0 kpZ 0 lpZ) (w1.alloc (.cells #[.int .u8 0, .string ⟨#[]⟩, .int .i64 0, .int .u8 0, .string ⟨#[]⟩, .string ⟨#[]⟩, .int .i64 0, .string ⟨#[]⟩, .slice none 0 0, .slice none 0 0, .int .i64 0, .int .u8 0, .string ⟨#[]⟩, .string ⟨#[]⟩, .int .i64 0, .string ⟨#[]⟩, .slice none 0 0] 33)) from ⟨below1 w1 _, Bk.new w1 _ _⟩)
  generalize w1.alloc (.cells #[.int .u8 0, .string ⟨#[]⟩, .int .i64 0, .int .u8 0, .string ⟨#[]⟩, .string ⟨#[]⟩, .int .i64 0, .string ⟨#[]⟩, .slice none 0 0, .slice none 0 0, .int .i64 0, .int .u8 0, .string ⟨#[]⟩, .string ⟨#[]⟩, .int .i64 0, .string ⟨#[]⟩, .slice none 0 0] 33) = W2 at *
  have HW0 := Lib.hid (show ∀ X, Below w1.heap.size w1 X → Calls Tryz.prog 21 #[.string s, .slice q ts.length c, .int .i64 0, .int .u8 1] X (fun e w' => e = .returned (.string ⟨#[114, 101, 118, 111, 107, 101]⟩) ∧ Below X.heap.size X w') from fun X hX => hv0 ▸ HWD.out 0 1 X hX (by decide))
  have HW1 := Lib.hid (show ∀ X, Below w1.heap.size w1 X → Calls Tryz.prog 21 #[.string s, .slice q ts.length c, .int .i64 1, .int .u8 3] X (fun e w' => e = .returned (.string nt) ∧ Below X.heap.size X w') from fun X hX => hw1 ▸ HWD.out 1 3 X hX (by decide))
  have HP1 := Lib.hid (show ∀ X, Below w1.heap.size w1 X → Calls Tryz.prog 22 #[.string s, .slice q ts.length c, .int .i64 2] X (fun e w' => e = .returned (.int .i64 (placeAt s ts 2)) ∧ w' = X) from fun X hX => HPL.out 2 X hX)
  clear hv0 hw1 HWD HPL hts hsr hwd hwn
  go_upto_region 24 with (go_at_call 21; refine (HW0.out _ HD.out.b).mono ?_; rintro e x0 ⟨rfl, hbx⟩; replace HD := Lib.hid (HD.out.on hbx); clear hbx)
  have m0 := HD.out.m.cell 0 _ rfl
  have s0 := HD.out.m.soft 0
  go_upto_region 25 with fail
  clear m0 s0
  replace HD := Lib.hid (HD.out.store 0 (.int .u8 2))
  generalize x0.setCell ⟨w1.heap.size, 0, none⟩ (.int .u8 2) = y0 at *
  go_upto_region 26 with (first | (go_at_call 21; refine (HW1.out _ HD.out.b).mono ?_; rintro e x1 ⟨rfl, hbx⟩; replace HD := Lib.hid (HD.out.on hbx); clear hbx) | (go_at_call 23; refine (HNR.out _).mono ?_; rintro e xn ⟨rfl, hbx⟩; replace HD := Lib.hid (HD.out.on hbx); clear hbx; have m10 := HD.out.m.cell 10 _ rfl; have s10 := HD.out.m.soft 10))
  clear m10 s10
  replace HD := Lib.hid (HD.out.store 10 (.int .i64 n))
  generalize xn.setCell ⟨w1.heap.size, 10, none⟩ (.int .i64 n) = y2 at *
  have m10 := HD.out.m.cell 10 _ rfl
  have s10 := HD.out.m.soft 10
  go_wp2_with (first | (go_at_call 22; refine (HP1.out _ HD.out.b).mono ?_; rintro e xp ⟨rfl, rfl⟩) | (with_reducible (show wpList _ _ _ (Oper.mk none (Op.store 33 (Operand.tmp 2) _) _ _ _ _ :: _) _ _); refine wpList_store_mid rfl 33 (.tmp 2) _ rfl w.heap.size 0 (rqC 0 ⟨#[]⟩ 0 kpZ 0 lpZ) rfl rfl (HZ1.out.on HD.out.b).there (sizeReqC _ _ _ _ _ _) (rqC_one _ _ _ _ _ _) ?_; have HZ8 := Lib.hid ((HZ1.out.on HD.out.b).setAll 0 ⟨#[]⟩ 0 kpZ 0 lpZ ⟨_, _, _, kpZ, _, lpZ, rfl⟩); have HB8 := Lib.hid (HB1.out.trans ((HD.out.b.mono (show w.heap.size ≤ w1.heap.size by omega)).trans (below_setCells (rqC 0 ⟨#[]⟩ 0 kpZ 0 lpZ).toList w.heap.size 0 _ (Nat.le_refl _))))))
  refine bodyPost_ret (results_req rfl _ _ w.heap.size 0 ⟨#[]⟩ 0 kpZ 0 lpZ rfl HZ8.out) rfl ?_
  exact ⟨rfl, HB8.out⟩
set_option maxHeartbeats 16000000 in
set_option maxRecDepth 100000 in
theorem refparse_revoke_ok (s : ByteArray) (w : World) (hm : s.size ≤ 140737488351232) (hx : (allL s.data.toList).err = 0) (hwd : textAt s (allL s.data.toList).toks 0 = wdRevoke) (hn : numR (textAt s (allL s.data.toList).toks 1) ≠ 0) (h2 : ¬ 2 < (allL s.data.toList).toks.length) :
    Calls Tryz.prog 8 #[.string s] w (ReqPost w (.ok (.rev (numR (textAt s (allL s.data.toList).toks 1))))) := by
  have HB := Lib.hid (below1 w)
  have HAL := Lib.hid (fun X => refall_any s X hm)
  unfold AllPost at HAL
  have hts := toks_of s hx
  have hsr := hts.src
  rw [hx] at HAL
  generalize (allL s.data.toList).pl = pl at *
  generalize (allL s.data.toList).toks = ts at *
  have hll := hsr.len
  have hsz := hsr.size
  have hv0 : wordR s ts 0 1 = ⟨#[114, 101, 118, 111, 107, 101]⟩ := (word_is (c := 114) (r := [101, 118, 111, 107, 101]) hts hwd (by decide) (by kernel_rfl)).trans hwd
  have hwn := word_num (k := 1) hts
  have hnz : (wordR s ts 1 3).size ≤ maxLen := by
    unfold wordR
    split
    · exact Nat.le_trans (textAt_size ts 1 hsz) (by decide)
    · decide
  have HNR := Lib.hid (fun X => hwn ▸ refnumber_any (wordR s ts 1 3) X hnz)
  generalize hw1 : wordR s ts 1 3 = nt at *
  generalize numR (textAt s ts 1) = n at *
  have hn0 : (n == 0) = false := beq_eq_false_iff_ne.2 hn
  have h2' : ¬ (2 : Int) < (ts.length : Int) := by omega
  go_enter Tryz.func8, Tryz.ntmps8
  go_upto_region 4 with (go_at_call 20; refine (HAL.out _).mono ?_; rintro e w1 ⟨v1, rfl, ht1, hb1⟩; have HB1 := Lib.hid ((HB.out _).trans (hb1.mono (HB.out _).size)); have HZ1 := Lib.hid (show Bk w1 w.heap.size 33 (rqC 0 ⟨#[]⟩ 0 kpZ 0 lpZ) from (Bk.new w _ _).on hb1); have HT1 := Lib.hid ht1; have hs1 : w.heap.size + 1 ≤ w1.heap.size := (by simpa using hb1.size); clear hb1 ht1)
  obtain ⟨q, c, rfl, hrd⟩ := tokrow_rd HT1.out
  have HWD := Lib.hid (fun (k : Nat) (kd : Int) (X : World) (hX : Below w1.heap.size w1 X) (hkd : kd ≠ 0) => refword_any X s q c ts k kd (hrd.grow hX) hsr hkd)
  have HPL := Lib.hid (fun (k : Nat) (X : World) (hX : Below w1.heap.size w1 X) => refplace_any X s q c ts k (hrd.grow hX) hll)
  clear hrd HT1 HAL HB hm hx
  go_upto_region 5 with fail
  have HD := Lib.hid (show RD w1 (rqC 0 ⟨#[]⟩ 0 kpZ 0 lpZ) (w1.alloc (.cells #[.int .u8 0, .string ⟨#[]⟩, .int .i64 0, .int .u8 0, .string ⟨#[]⟩, .string ⟨#[]⟩, .int .i64 0, .string ⟨#[]⟩, .slice none 0 0, .slice none 0 0, .int .i64 0, .int .u8 0, .string ⟨#[]⟩, .string ⟨#[]⟩, .int .i64 0, .string ⟨#[]⟩, .slice none 0 0] 33)) from ⟨below1 w1 _, Bk.new w1 _ _⟩)
  generalize w1.alloc (.cells #[.int .u8 0, .string ⟨#[]⟩, .int .i64 0, .int .u8 0, .string ⟨#[]⟩, .string ⟨#[]⟩, .int .i64 0, .string ⟨#[]⟩, .slice none 0 0, .slice none 0 0, .int .i64 0, .int .u8 0, .string ⟨#[]⟩, .string ⟨#[]⟩, .int .i64 0, .string ⟨#[]⟩, .slice none 0 0] 33) = W2 at *
  have HW0 := Lib.hid (show ∀ X, Below w1.heap.size w1 X → Calls Tryz.prog 21 #[.string s, .slice q ts.length c, .int .i64 0, .int .u8 1] X (fun e w' => e = .returned (.string ⟨#[114, 101, 118, 111, 107, 101]⟩) ∧ Below X.heap.size X w') from fun X hX => hv0 ▸ HWD.out 0 1 X hX (by decide))
  have HW1 := Lib.hid (show ∀ X, Below w1.heap.size w1 X → Calls Tryz.prog 21 #[.string s, .slice q ts.length c, .int .i64 1, .int .u8 3] X (fun e w' => e = .returned (.string nt) ∧ Below X.heap.size X w') from fun X hX => hw1 ▸ HWD.out 1 3 X hX (by decide))
  clear hv0 hw1 HWD HPL hts hsr hwd hwn
  go_upto_region 24 with (go_at_call 21; refine (HW0.out _ HD.out.b).mono ?_; rintro e x0 ⟨rfl, hbx⟩; replace HD := Lib.hid (HD.out.on hbx); clear hbx)
  have m0 := HD.out.m.cell 0 _ rfl
  have s0 := HD.out.m.soft 0
  go_upto_region 25 with fail
  clear m0 s0
  replace HD := Lib.hid (HD.out.store 0 (.int .u8 2))
  generalize x0.setCell ⟨w1.heap.size, 0, none⟩ (.int .u8 2) = y0 at *
  go_upto_region 26 with (first | (go_at_call 21; refine (HW1.out _ HD.out.b).mono ?_; rintro e x1 ⟨rfl, hbx⟩; replace HD := Lib.hid (HD.out.on hbx); clear hbx) | (go_at_call 23; refine (HNR.out _).mono ?_; rintro e xn ⟨rfl, hbx⟩; replace HD := Lib.hid (HD.out.on hbx); clear hbx; have m10 := HD.out.m.cell 10 _ rfl; have s10 := HD.out.m.soft 10))
  clear m10 s10
  replace HD := Lib.hid (HD.out.store 10 (.int .i64 n))
  generalize xn.setCell ⟨w1.heap.size, 10, none⟩ (.int .i64 n) = y2 at *
  have m10 := HD.out.m.cell 10 _ rfl
  have s10 := HD.out.m.soft 10
  go_upto_region 30 with fail
  have HM4 := Lib.hid (show Bk y2 w1.heap.size 33 (rqC 2 ⟨#[]⟩ 0 kpZ n lpZ) from (by have h := HD.out.m; simp only [rqC, List.setIfInBounds_toArray, List.set_cons_zero, List.set_cons_succ] at h ⊢; exact h))
  obtain ⟨d9, hu9, hd9⟩ := rowReq
  have HZ7 := Lib.hid (HZ1.out.on HD.out.b)
  refine wp_region_list (show wpList _ _ _ (_ :: _ :: _) _ _ from ?_)
  refine wpList_load_mid rfl 33 (.tmp 8) rfl w1.heap.size 0 rfl (rqC 2 ⟨#[]⟩ 0 kpZ n lpZ).toList d9 HM4.out.range hu9 hd9 (by rw [sizeReq]; rfl) ?_
  refine wpList_store_mid rfl 33 (.tmp 2) _ rfl w.heap.size 0 (rqC 2 ⟨#[]⟩ 0 kpZ n lpZ) rfl rfl HZ7.out.there (sizeReqC _ _ _ _ _ _) (rqC_one _ _ _ _ _ _) ?_
  have HB8 := Lib.hid (HB1.out.trans ((HD.out.b.mono (show w.heap.size ≤ w1.heap.size by omega)).trans (below_setCells (rqC 2 ⟨#[]⟩ 0 kpZ n lpZ).toList w.heap.size 0 y2 (Nat.le_refl _))))
  have HZ8 := Lib.hid (HZ7.out.setAll 2 ⟨#[]⟩ 0 kpZ n lpZ ⟨0, ⟨#[]⟩, 0, kpZ, 0, lpZ, rfl⟩)
  generalize y2.setCells w.heap.size 0 (rqC 2 ⟨#[]⟩ 0 kpZ n lpZ).toList = w9 at *
  go_wp2_with fail
  refine bodyPost_ret (results_req rfl _ _ w.heap.size 2 ⟨#[]⟩ 0 kpZ n lpZ rfl HZ8.out) rfl ?_
  exact ⟨_, rfl, rfl, HB8.out⟩
set_option maxHeartbeats 16000000 in
set_option maxRecDepth 100000 in
theorem refparse_query (s : ByteArray) (w : World) (hm : s.size ≤ 140737488351232) (hx : (allL s.data.toList).err = 0) (hwd : textAt s (allL s.data.toList).toks 0 = wdQuery) :
    Calls Tryz.prog 8 #[.string s] w (ReqPost w (restL s (placeAt s (allL s.data.toList).toks 1) (.ask 3))) := by
  have HB := Lib.hid (below1 w)
  have HAL := Lib.hid (fun X => refall_any s X hm)
  unfold AllPost at HAL
  have hts := toks_of s hx
  have hsr := hts.src
  rw [hx] at HAL
  generalize (allL s.data.toList).pl = pl at *
  generalize (allL s.data.toList).toks = ts at *
  have hll := hsr.len
  have hsz := hsr.size
  have hv0 : wordR s ts 0 1 = ⟨#[113, 117, 101, 114, 121]⟩ := (word_is (c := 113) (r := [117, 101, 114, 121]) hts hwd (by decide) (by kernel_rfl)).trans hwd
  obtain ⟨g, hg, hgs⟩ := src_place hsr 1
  have hts9 : (tailS s (placeAt s ts 1)).size ≤ 140737488351232 := Nat.le_trans (tail_size s _) (by omega)
  have htl := tail_size s (placeAt s ts 1)
  have HPA := Lib.hid (fun X => refParseLit_any (tailS s (placeAt s ts 1)) X hts9)
  have HTL := Lib.hid (show tailS s (placeAt s ts 1) = s.extract g s.size by unfold tailS; rw [hg]; rfl)
  have HNE := Lib.hid (fun (n p : Int) (e : parseLitR (tailS s (placeAt s ts 1)) = .error (n, p)) => parseLitR_ne e)
  have HPB := Lib.hid (fun (n p : Int) (e : parseLitR (tailS s (placeAt s ts 1)) = .error (n, p)) => parseLitR_place e)
  unfold restL
  rw [hg] at HPA HNE HPB htl HTL ⊢
  have hg0 : (0 : Int) ≤ (g : Int) := by omega
  have hg1 : (g : Int) ≤ (s.size : Int) := by omega
  generalize hR : parseLitR (tailS s (g : Int)) = R at *
  rw [HTL.out] at HPA
  clear hR HTL
  match R, HPA, HNE, HPB with
  | .error (n, p), HPA, HNE, HPB =>
    go_enter Tryz.func8, Tryz.ntmps8
    go_upto_region 4 with (go_at_call 20; refine (HAL.out _).mono ?_; rintro e w1 ⟨v1, rfl, ht1, hb1⟩; have HB1 := Lib.hid ((HB.out _).trans (hb1.mono (HB.out _).size)); have HZ1 := Lib.hid (show Bk w1 w.heap.size 33 (rqC 0 ⟨#[]⟩ 0 kpZ 0 lpZ) from (Bk.new w _ _).on hb1); have HT1 := Lib.hid ht1; have hs1 : w.heap.size + 1 ≤ w1.heap.size := (by simpa using hb1.size); clear hb1 ht1)
    obtain ⟨q, c, rfl, hrd⟩ := tokrow_rd HT1.out
    have HWD := Lib.hid (fun (k : Nat) (kd : Int) (X : World) (hX : Below w1.heap.size w1 X) (hkd : kd ≠ 0) => refword_any X s q c ts k kd (hrd.grow hX) hsr hkd)
    have HPL := Lib.hid (fun (k : Nat) (X : World) (hX : Below w1.heap.size w1 X) => refplace_any X s q c ts k (hrd.grow hX) hll)
    clear hrd HT1 HAL HB hm hx
    go_upto_region 5 with fail
    have HD := Lib.hid (show RD w1 (rqC 0 ⟨#[]⟩ 0 kpZ 0 lpZ) (w1.alloc (.cells #[.int .u8 0, .string ⟨#[]⟩, .int .i64 0, .int .u8 0, .string ⟨#[]⟩, .string ⟨#[]⟩, .int .i64 0, .string ⟨#[]⟩, .slice none 0 0, .slice none 0 0, .int .i64 0, .int .u8 0, .string ⟨#[]⟩, .string ⟨#[]⟩, .int .i64 0, .string ⟨#[]⟩, .slice none 0 0] 33)) from ⟨below1 w1 _, Bk.new w1 _ _⟩)
    generalize w1.alloc (.cells #[.int .u8 0, .string ⟨#[]⟩, .int .i64 0, .int .u8 0, .string ⟨#[]⟩, .string ⟨#[]⟩, .int .i64 0, .string ⟨#[]⟩, .slice none 0 0, .slice none 0 0, .int .i64 0, .int .u8 0, .string ⟨#[]⟩, .string ⟨#[]⟩, .int .i64 0, .string ⟨#[]⟩, .slice none 0 0] 33) = W2 at *
    have HW0 := Lib.hid (show ∀ X, Below w1.heap.size w1 X → Calls Tryz.prog 21 #[.string s, .slice q ts.length c, .int .i64 0, .int .u8 1] X (fun e w' => e = .returned (.string ⟨#[113, 117, 101, 114, 121]⟩) ∧ Below X.heap.size X w') from fun X hX => hv0 ▸ HWD.out 0 1 X hX (by decide))
    have HP9 := Lib.hid (show ∀ X, Below w1.heap.size w1 X → Calls Tryz.prog 22 #[.string s, .slice q ts.length c, .int .i64 1] X (fun e w' => e = .returned (.int .i64 (g : Int)) ∧ w' = X) from fun X hX => hg ▸ HPL.out 1 X hX)
    clear hv0 HWD HPL hts hsr hwd hg hts9
    go_upto_region 33 with (go_at_call 21; refine (HW0.out _ HD.out.b).mono ?_; rintro e x0 ⟨rfl, hbx⟩; replace HD := Lib.hid (HD.out.on hbx); clear hbx)
    have m0 := HD.out.m.cell 0 _ rfl
    have s0 := HD.out.m.soft 0
    go_upto_region 34 with fail
    clear m0 s0
    replace HD := Lib.hid (HD.out.store 0 (.int .u8 3))
    generalize x0.setCell ⟨w1.heap.size, 0, none⟩ (.int .u8 3) = y0 at *
    go_upto_region 36 with (go_at_call 21; refine (HW0.out _ HD.out.b).mono ?_; rintro e x0 ⟨rfl, hbx⟩; replace HD := Lib.hid (HD.out.on hbx); clear hbx)
    have hne : (n != 0) = true := by rw [bne_iff_ne]; exact HNE.out n p rfl
    obtain ⟨hp0, hp1⟩ := HPB.out n p rfl
    have hgp : (g : Int) + p ≤ 10000 := by omega
    have hgq : (0 : Int) ≤ (g : Int) + p := by omega
    clear HNE HPB
    go_wp2_with fail
    refine (HP9.out _ HD.out.b).mono ?_
    rintro e xp ⟨rfl, rfl⟩
    go_wp2_with fail
    refine (HPA.out _).mono ?_
    rintro e z2 ⟨rfl, hb2⟩
    replace HD := Lib.hid ((HD.out.on hb2).on (below1 z2 (.cells #[.int .u8 0, .string ⟨#[]⟩, .string ⟨#[]⟩, .int .i64 0, .string ⟨#[]⟩, .slice none 0 0] 28)))
    have HM3 := Lib.hid (Bk.new z2 28 #[.int .u8 0, .string ⟨#[]⟩, .string ⟨#[]⟩, .int .i64 0, .string ⟨#[]⟩, .slice none 0 0])
    obtain ⟨r0, r1, r2, r3, r4, r5⟩ := HM3.out.six
    unfold lpZ Lp.agg tmZ
    clear hb2
    go_upto_region 39 with fail
    generalize z2.alloc (.cells #[.int .u8 0, .string ⟨#[]⟩, .string ⟨#[]⟩, .int .i64 0, .string ⟨#[]⟩, .slice none 0 0] 28) = z3 at *
    clear HM3 r0 r1 r2 r3 r4 r5
    refine wp_region_list (show wpList _ _ _ (_ :: _ :: _ :: _ :: _ :: _ :: _) _ _ from ?_)
    refine wpList_plain rfl (fun K hK => ?_)
    go_simp
    refine hK _ _ ?_
    clear hK K
    refine wpList_plain rfl (fun K hK => ?_)
    go_simp
    refine hK _ _ ?_
    clear hK K
    refine wpList_plain rfl (fun K hK => ?_)
    go_simp
    refine hK _ _ ?_
    clear hK K
    refine wpList_plain rfl (fun K hK => ?_)
    go_simp
    refine hK _ _ ?_
    clear hK K
    refine wpList_plain rfl (fun K hK => ?_)
    go_simp
    refine hK _ _ ?_
    clear hK K
    refine wpList_store_mid rfl 33 (.tmp 2) _ rfl w.heap.size 0 (rqC 0 ⟨#[]⟩ 0 kpZ 0 lpZ) rfl rfl (HZ1.out.on HD.out.b).there (sizeReqC _ _ _ _ _ _) (rqC_one _ _ _ _ _ _) ?_
    have HZ8 := Lib.hid ((HZ1.out.on HD.out.b).setAll 0 ⟨#[]⟩ 0 kpZ 0 lpZ ⟨_, _, _, kpZ, _, lpZ, rfl⟩)
    have HB8 := Lib.hid (HB1.out.trans ((HD.out.b.mono (show w.heap.size ≤ w1.heap.size by omega)).trans (below_setCells (rqC 0 ⟨#[]⟩ 0 kpZ 0 lpZ).toList w.heap.size 0 z3 (Nat.le_refl _))))
    generalize z3.setCells w.heap.size 0 (rqC 0 ⟨#[]⟩ 0 kpZ 0 lpZ).toList = w9 at *
    go_wp2_with fail
    refine bodyPost_ret (results_req rfl _ _ w.heap.size 0 ⟨#[]⟩ 0 kpZ 0 lpZ rfl HZ8.out) rfl ?_
    exact ⟨rfl, HB8.out⟩
  | .ok x, HPA, HNE, HPB =>
    go_enter Tryz.func8, Tryz.ntmps8
    go_upto_region 4 with (go_at_call 20; refine (HAL.out _).mono ?_; rintro e w1 ⟨v1, rfl, ht1, hb1⟩; have HB1 := Lib.hid ((HB.out _).trans (hb1.mono (HB.out _).size)); have HZ1 := Lib.hid (show Bk w1 w.heap.size 33 (rqC 0 ⟨#[]⟩ 0 kpZ 0 lpZ) from (Bk.new w _ _).on hb1); have HT1 := Lib.hid ht1; have hs1 : w.heap.size + 1 ≤ w1.heap.size := (by simpa using hb1.size); clear hb1 ht1)
    obtain ⟨q, c, rfl, hrd⟩ := tokrow_rd HT1.out
    have HWD := Lib.hid (fun (k : Nat) (kd : Int) (X : World) (hX : Below w1.heap.size w1 X) (hkd : kd ≠ 0) => refword_any X s q c ts k kd (hrd.grow hX) hsr hkd)
    have HPL := Lib.hid (fun (k : Nat) (X : World) (hX : Below w1.heap.size w1 X) => refplace_any X s q c ts k (hrd.grow hX) hll)
    clear hrd HT1 HAL HB hm hx
    go_upto_region 5 with fail
    have HD := Lib.hid (show RD w1 (rqC 0 ⟨#[]⟩ 0 kpZ 0 lpZ) (w1.alloc (.cells #[.int .u8 0, .string ⟨#[]⟩, .int .i64 0, .int .u8 0, .string ⟨#[]⟩, .string ⟨#[]⟩, .int .i64 0, .string ⟨#[]⟩, .slice none 0 0, .slice none 0 0, .int .i64 0, .int .u8 0, .string ⟨#[]⟩, .string ⟨#[]⟩, .int .i64 0, .string ⟨#[]⟩, .slice none 0 0] 33)) from ⟨below1 w1 _, Bk.new w1 _ _⟩)
    generalize w1.alloc (.cells #[.int .u8 0, .string ⟨#[]⟩, .int .i64 0, .int .u8 0, .string ⟨#[]⟩, .string ⟨#[]⟩, .int .i64 0, .string ⟨#[]⟩, .slice none 0 0, .slice none 0 0, .int .i64 0, .int .u8 0, .string ⟨#[]⟩, .string ⟨#[]⟩, .int .i64 0, .string ⟨#[]⟩, .slice none 0 0] 33) = W2 at *
    have HW0 := Lib.hid (show ∀ X, Below w1.heap.size w1 X → Calls Tryz.prog 21 #[.string s, .slice q ts.length c, .int .i64 0, .int .u8 1] X (fun e w' => e = .returned (.string ⟨#[113, 117, 101, 114, 121]⟩) ∧ Below X.heap.size X w') from fun X hX => hv0 ▸ HWD.out 0 1 X hX (by decide))
    have HP9 := Lib.hid (show ∀ X, Below w1.heap.size w1 X → Calls Tryz.prog 22 #[.string s, .slice q ts.length c, .int .i64 1] X (fun e w' => e = .returned (.int .i64 (g : Int)) ∧ w' = X) from fun X hX => hg ▸ HPL.out 1 X hX)
    clear hv0 HWD HPL hts hsr hwd hg hts9
    go_upto_region 33 with (go_at_call 21; refine (HW0.out _ HD.out.b).mono ?_; rintro e x0 ⟨rfl, hbx⟩; replace HD := Lib.hid (HD.out.on hbx); clear hbx)
    have m0 := HD.out.m.cell 0 _ rfl
    have s0 := HD.out.m.soft 0
    go_upto_region 34 with fail
    clear m0 s0
    replace HD := Lib.hid (HD.out.store 0 (.int .u8 3))
    generalize x0.setCell ⟨w1.heap.size, 0, none⟩ (.int .u8 3) = y0 at *
    go_upto_region 36 with (go_at_call 21; refine (HW0.out _ HD.out.b).mono ?_; rintro e x0 ⟨rfl, hbx⟩; replace HD := Lib.hid (HD.out.on hbx); clear hbx)
    clear HNE HPB
    go_upto_region 40 with (first | (go_at_call 22; refine (HP9.out _ HD.out.b).mono ?_; rintro e xp ⟨rfl, rfl⟩) | (go_at_call 25; refine (HPA.out _).mono ?_; rintro e z2 ⟨qx, cx, rfl, hcm, hcf, hb2⟩; have hlt9 := HD.out.m.lt; replace HD := Lib.hid ((HD.out.on hb2).on (below1 z2 (.cells #[.int .u8 x.kind, .string x.who.v, .string x.who.s, .int .i64 x.who.n, .string x.pred, .slice qx x.args.length cx] 28))); have HM3 := Lib.hid (Bk.new z2 28 #[.int .u8 x.kind, .string x.who.v, .string x.who.s, .int .i64 x.who.n, .string x.pred, .slice qx x.args.length cx]); have HCM := Lib.hid (hcm.grow (below1 z2 (.cells #[.int .u8 x.kind, .string x.who.v, .string x.who.s, .int .i64 x.who.n, .string x.pred, .slice qx x.args.length cx] 28))); have HCF := Lib.hid (fun b hb => Nat.le_trans hlt9 (hcf b hb)); obtain ⟨r0, r1, r2, r3, r4, r5⟩ := HM3.out.six; unfold Lp.agg Lq.at; clear hb2 hcm hcf))
    generalize z2.alloc (.cells #[.int .u8 x.kind, .string x.who.v, .string x.who.s, .int .i64 x.who.n, .string x.pred, .slice qx x.args.length cx] 28) = z3 at *
    have m11 := HD.out.m.cell 11 _ rfl
    have s11 := HD.out.m.soft 11
    have m12 := HD.out.m.cell 12 _ rfl
    have s12 := HD.out.m.soft 12
    have m13 := HD.out.m.cell 13 _ rfl
    have s13 := HD.out.m.soft 13
    have m14 := HD.out.m.cell 14 _ rfl
    have s14 := HD.out.m.soft 14
    have m15 := HD.out.m.cell 15 _ rfl
    have s15 := HD.out.m.soft 15
    have m16 := HD.out.m.cell 16 _ rfl
    have s16 := HD.out.m.soft 16
    go_upto_region 41 with fail
    have HA4 := Lib.hid (((((((Above.refl (w1.heap.size + 1) z3).set (b := w1.heap.size) (Nat.lt_succ_self _) 11 (.int .u8 x.kind)).set (b := w1.heap.size) (Nat.lt_succ_self _) 12 (.string x.who.v)).set (b := w1.heap.size) (Nat.lt_succ_self _) 13 (.string x.who.s)).set (b := w1.heap.size) (Nat.lt_succ_self _) 14 (.int .i64 x.who.n)).set (b := w1.heap.size) (Nat.lt_succ_self _) 15 (.string x.pred)).set (b := w1.heap.size) (Nat.lt_succ_self _) 16 (.slice qx x.args.length cx))
    replace HD := Lib.hid ((((((HD.out.store 11 (.int .u8 x.kind)).store 12 (.string x.who.v)).store 13 (.string x.who.s)).store 14 (.int .i64 x.who.n)).store 15 (.string x.pred)).store 16 (.slice qx x.args.length cx))
    have hs4 : z3.heap.size ≤ ((((((z3.setCell ⟨w1.heap.size, 11, none⟩ (.int .u8 x.kind)).setCell ⟨w1.heap.size, 12, none⟩ (.string x.who.v)).setCell ⟨w1.heap.size, 13, none⟩ (.string x.who.s)).setCell ⟨w1.heap.size, 14, none⟩ (.int .i64 x.who.n)).setCell ⟨w1.heap.size, 15, none⟩ (.string x.pred)).setCell ⟨w1.heap.size, 16, none⟩ (.slice qx x.args.length cx)).heap.size := by simp [World.setCell]
    clear m11 s11 m12 s12 m13 s13 m14 s14 m15 s15 m16 s16 r0 r1 r2 r3 r4 r5
    generalize ((((((z3.setCell ⟨w1.heap.size, 11, none⟩ (.int .u8 x.kind)).setCell ⟨w1.heap.size, 12, none⟩ (.string x.who.v)).setCell ⟨w1.heap.size, 13, none⟩ (.string x.who.s)).setCell ⟨w1.heap.size, 14, none⟩ (.int .i64 x.who.n)).setCell ⟨w1.heap.size, 15, none⟩ (.string x.pred)).setCell ⟨w1.heap.size, 16, none⟩ (.slice qx x.args.length cx)) = z4 at *
    have HM4 := Lib.hid (show Bk z4 w1.heap.size 33 (rqC 3 ⟨#[]⟩ 0 kpZ 0 (x.at qx cx)) from (by have h := HD.out.m; simp only [rqC, List.setIfInBounds_toArray, List.set_cons_zero, List.set_cons_succ] at h ⊢; exact h))
    obtain ⟨d9, hu9, hd9⟩ := rowReq
    have HZ7 := Lib.hid (HZ1.out.on HD.out.b)
    refine wp_region_list (show wpList _ _ _ (_ :: _ :: _) _ _ from ?_)
    refine wpList_load_mid rfl 33 (.tmp 8) rfl w1.heap.size 0 rfl (rqC 3 ⟨#[]⟩ 0 kpZ 0 (x.at qx cx)).toList d9 HM4.out.range hu9 hd9 (by rw [sizeReq]; rfl) ?_
    refine wpList_store_mid rfl 33 (.tmp 2) _ rfl w.heap.size 0 (rqC 3 ⟨#[]⟩ 0 kpZ 0 (x.at qx cx)) rfl rfl HZ7.out.there (sizeReqC _ _ _ _ _ _) (rqC_one _ _ _ _ _ _) ?_
    have HB8 := Lib.hid (HB1.out.trans ((HD.out.b.mono (show w.heap.size ≤ w1.heap.size by omega)).trans (below_setCells (rqC 3 ⟨#[]⟩ 0 kpZ 0 (x.at qx cx)).toList w.heap.size 0 z4 (Nat.le_refl _))))
    have HZ8 := Lib.hid (HZ7.out.setAll 3 ⟨#[]⟩ 0 kpZ 0 (x.at qx cx) ⟨0, ⟨#[]⟩, 0, kpZ, 0, lpZ, rfl⟩)
    have HR8 := Lib.hid ((ReqMem.above (show ReqMem z4 (w1.heap.size + 1) (.ask 3 x) (rqC 3 ⟨#[]⟩ 0 kpZ 0 (x.at qx cx)) from ⟨qx, cx, rfl, HA4.out.rd HCM.out HCF.out hs4, HCF.out⟩) (above_setCells (Above.refl (w.heap.size + 1) z4) (Nat.lt_succ_self _) (rqC 3 ⟨#[]⟩ 0 kpZ 0 (x.at qx cx)).toList) (by omega) (below_setCells (B := w.heap.size) (rqC 3 ⟨#[]⟩ 0 kpZ 0 (x.at qx cx)).toList w.heap.size 0 z4 (Nat.le_refl _)).size).mono (show w.heap.size ≤ w1.heap.size + 1 by omega))
    generalize z4.setCells w.heap.size 0 (rqC 3 ⟨#[]⟩ 0 kpZ 0 (x.at qx cx)).toList = w9 at *
    go_wp2_with fail
    refine bodyPost_ret (results_req rfl _ _ w.heap.size 3 ⟨#[]⟩ 0 kpZ 0 (x.at qx cx) rfl HZ8.out) rfl ?_
    exact ⟨_, rfl, HR8.out, HB8.out⟩
set_option maxHeartbeats 16000000 in
set_option maxRecDepth 100000 in
theorem refparse_prove (s : ByteArray) (w : World) (hm : s.size ≤ 140737488351232) (hx : (allL s.data.toList).err = 0) (hwd : textAt s (allL s.data.toList).toks 0 = wdProve) :
    Calls Tryz.prog 8 #[.string s] w (ReqPost w (restL s (placeAt s (allL s.data.toList).toks 1) (.ask 4))) := by
  have HB := Lib.hid (below1 w)
  have HAL := Lib.hid (fun X => refall_any s X hm)
  unfold AllPost at HAL
  have hts := toks_of s hx
  have hsr := hts.src
  rw [hx] at HAL
  generalize (allL s.data.toList).pl = pl at *
  generalize (allL s.data.toList).toks = ts at *
  have hll := hsr.len
  have hsz := hsr.size
  have hv0 : wordR s ts 0 1 = ⟨#[112, 114, 111, 118, 101]⟩ := (word_is (c := 112) (r := [114, 111, 118, 101]) hts hwd (by decide) (by kernel_rfl)).trans hwd
  obtain ⟨g, hg, hgs⟩ := src_place hsr 1
  have hts9 : (tailS s (placeAt s ts 1)).size ≤ 140737488351232 := Nat.le_trans (tail_size s _) (by omega)
  have htl := tail_size s (placeAt s ts 1)
  have HPA := Lib.hid (fun X => refParseLit_any (tailS s (placeAt s ts 1)) X hts9)
  have HTL := Lib.hid (show tailS s (placeAt s ts 1) = s.extract g s.size by unfold tailS; rw [hg]; rfl)
  have HNE := Lib.hid (fun (n p : Int) (e : parseLitR (tailS s (placeAt s ts 1)) = .error (n, p)) => parseLitR_ne e)
  have HPB := Lib.hid (fun (n p : Int) (e : parseLitR (tailS s (placeAt s ts 1)) = .error (n, p)) => parseLitR_place e)
  unfold restL
  rw [hg] at HPA HNE HPB htl HTL ⊢
  have hg0 : (0 : Int) ≤ (g : Int) := by omega
  have hg1 : (g : Int) ≤ (s.size : Int) := by omega
  generalize hR : parseLitR (tailS s (g : Int)) = R at *
  rw [HTL.out] at HPA
  clear hR HTL
  match R, HPA, HNE, HPB with
  | .error (n, p), HPA, HNE, HPB =>
    go_enter Tryz.func8, Tryz.ntmps8
    go_upto_region 4 with (go_at_call 20; refine (HAL.out _).mono ?_; rintro e w1 ⟨v1, rfl, ht1, hb1⟩; have HB1 := Lib.hid ((HB.out _).trans (hb1.mono (HB.out _).size)); have HZ1 := Lib.hid (show Bk w1 w.heap.size 33 (rqC 0 ⟨#[]⟩ 0 kpZ 0 lpZ) from (Bk.new w _ _).on hb1); have HT1 := Lib.hid ht1; have hs1 : w.heap.size + 1 ≤ w1.heap.size := (by simpa using hb1.size); clear hb1 ht1)
    obtain ⟨q, c, rfl, hrd⟩ := tokrow_rd HT1.out
    have HWD := Lib.hid (fun (k : Nat) (kd : Int) (X : World) (hX : Below w1.heap.size w1 X) (hkd : kd ≠ 0) => refword_any X s q c ts k kd (hrd.grow hX) hsr hkd)
    have HPL := Lib.hid (fun (k : Nat) (X : World) (hX : Below w1.heap.size w1 X) => refplace_any X s q c ts k (hrd.grow hX) hll)
    clear hrd HT1 HAL HB hm hx
    go_upto_region 5 with fail
    have HD := Lib.hid (show RD w1 (rqC 0 ⟨#[]⟩ 0 kpZ 0 lpZ) (w1.alloc (.cells #[.int .u8 0, .string ⟨#[]⟩, .int .i64 0, .int .u8 0, .string ⟨#[]⟩, .string ⟨#[]⟩, .int .i64 0, .string ⟨#[]⟩, .slice none 0 0, .slice none 0 0, .int .i64 0, .int .u8 0, .string ⟨#[]⟩, .string ⟨#[]⟩, .int .i64 0, .string ⟨#[]⟩, .slice none 0 0] 33)) from ⟨below1 w1 _, Bk.new w1 _ _⟩)
    generalize w1.alloc (.cells #[.int .u8 0, .string ⟨#[]⟩, .int .i64 0, .int .u8 0, .string ⟨#[]⟩, .string ⟨#[]⟩, .int .i64 0, .string ⟨#[]⟩, .slice none 0 0, .slice none 0 0, .int .i64 0, .int .u8 0, .string ⟨#[]⟩, .string ⟨#[]⟩, .int .i64 0, .string ⟨#[]⟩, .slice none 0 0] 33) = W2 at *
    have HW0 := Lib.hid (show ∀ X, Below w1.heap.size w1 X → Calls Tryz.prog 21 #[.string s, .slice q ts.length c, .int .i64 0, .int .u8 1] X (fun e w' => e = .returned (.string ⟨#[112, 114, 111, 118, 101]⟩) ∧ Below X.heap.size X w') from fun X hX => hv0 ▸ HWD.out 0 1 X hX (by decide))
    have HP9 := Lib.hid (show ∀ X, Below w1.heap.size w1 X → Calls Tryz.prog 22 #[.string s, .slice q ts.length c, .int .i64 1] X (fun e w' => e = .returned (.int .i64 (g : Int)) ∧ w' = X) from fun X hX => hg ▸ HPL.out 1 X hX)
    clear hv0 HWD HPL hts hsr hwd hg hts9
    go_upto_region 33 with (go_at_call 21; refine (HW0.out _ HD.out.b).mono ?_; rintro e x0 ⟨rfl, hbx⟩; replace HD := Lib.hid (HD.out.on hbx); clear hbx)
    have m0 := HD.out.m.cell 0 _ rfl
    have s0 := HD.out.m.soft 0
    go_upto_region 34 with fail
    clear m0 s0
    replace HD := Lib.hid (HD.out.store 0 (.int .u8 3))
    generalize x0.setCell ⟨w1.heap.size, 0, none⟩ (.int .u8 3) = y0 at *
    go_upto_region 35 with (go_at_call 21; refine (HW0.out _ HD.out.b).mono ?_; rintro e x0 ⟨rfl, hbx⟩; replace HD := Lib.hid (HD.out.on hbx); clear hbx)
    have m0 := HD.out.m.cell 0 _ rfl
    have s0 := HD.out.m.soft 0
    go_upto_region 36 with fail
    clear m0 s0
    replace HD := Lib.hid (HD.out.store 0 (.int .u8 4))
    generalize x0.setCell ⟨w1.heap.size, 0, none⟩ (.int .u8 4) = y1 at *
    have hne : (n != 0) = true := by rw [bne_iff_ne]; exact HNE.out n p rfl
    obtain ⟨hp0, hp1⟩ := HPB.out n p rfl
    have hgp : (g : Int) + p ≤ 10000 := by omega
    have hgq : (0 : Int) ≤ (g : Int) + p := by omega
    clear HNE HPB
    go_wp2_with fail
    refine (HP9.out _ HD.out.b).mono ?_
    rintro e xp ⟨rfl, rfl⟩
    go_wp2_with fail
    refine (HPA.out _).mono ?_
    rintro e z2 ⟨rfl, hb2⟩
    replace HD := Lib.hid ((HD.out.on hb2).on (below1 z2 (.cells #[.int .u8 0, .string ⟨#[]⟩, .string ⟨#[]⟩, .int .i64 0, .string ⟨#[]⟩, .slice none 0 0] 28)))
    have HM3 := Lib.hid (Bk.new z2 28 #[.int .u8 0, .string ⟨#[]⟩, .string ⟨#[]⟩, .int .i64 0, .string ⟨#[]⟩, .slice none 0 0])
    obtain ⟨r0, r1, r2, r3, r4, r5⟩ := HM3.out.six
    unfold lpZ Lp.agg tmZ
    clear hb2
    go_upto_region 39 with fail
    generalize z2.alloc (.cells #[.int .u8 0, .string ⟨#[]⟩, .string ⟨#[]⟩, .int .i64 0, .string ⟨#[]⟩, .slice none 0 0] 28) = z3 at *
    clear HM3 r0 r1 r2 r3 r4 r5
    refine wp_region_list (show wpList _ _ _ (_ :: _ :: _ :: _ :: _ :: _ :: _) _ _ from ?_)
    refine wpList_plain rfl (fun K hK => ?_)
    go_simp
    refine hK _ _ ?_
    clear hK K
    refine wpList_plain rfl (fun K hK => ?_)
    go_simp
    refine hK _ _ ?_
    clear hK K
    refine wpList_plain rfl (fun K hK => ?_)
    go_simp
    refine hK _ _ ?_
    clear hK K
    refine wpList_plain rfl (fun K hK => ?_)
    go_simp
    refine hK _ _ ?_
    clear hK K
    refine wpList_plain rfl (fun K hK => ?_)
    go_simp
    refine hK _ _ ?_
    clear hK K
    refine wpList_store_mid rfl 33 (.tmp 2) _ rfl w.heap.size 0 (rqC 0 ⟨#[]⟩ 0 kpZ 0 lpZ) rfl rfl (HZ1.out.on HD.out.b).there (sizeReqC _ _ _ _ _ _) (rqC_one _ _ _ _ _ _) ?_
    have HZ8 := Lib.hid ((HZ1.out.on HD.out.b).setAll 0 ⟨#[]⟩ 0 kpZ 0 lpZ ⟨_, _, _, kpZ, _, lpZ, rfl⟩)
    have HB8 := Lib.hid (HB1.out.trans ((HD.out.b.mono (show w.heap.size ≤ w1.heap.size by omega)).trans (below_setCells (rqC 0 ⟨#[]⟩ 0 kpZ 0 lpZ).toList w.heap.size 0 z3 (Nat.le_refl _))))
    generalize z3.setCells w.heap.size 0 (rqC 0 ⟨#[]⟩ 0 kpZ 0 lpZ).toList = w9 at *
    go_wp2_with fail
    refine bodyPost_ret (results_req rfl _ _ w.heap.size 0 ⟨#[]⟩ 0 kpZ 0 lpZ rfl HZ8.out) rfl ?_
    exact ⟨rfl, HB8.out⟩
  | .ok x, HPA, HNE, HPB =>
    go_enter Tryz.func8, Tryz.ntmps8
    go_upto_region 4 with (go_at_call 20; refine (HAL.out _).mono ?_; rintro e w1 ⟨v1, rfl, ht1, hb1⟩; have HB1 := Lib.hid ((HB.out _).trans (hb1.mono (HB.out _).size)); have HZ1 := Lib.hid (show Bk w1 w.heap.size 33 (rqC 0 ⟨#[]⟩ 0 kpZ 0 lpZ) from (Bk.new w _ _).on hb1); have HT1 := Lib.hid ht1; have hs1 : w.heap.size + 1 ≤ w1.heap.size := (by simpa using hb1.size); clear hb1 ht1)
    obtain ⟨q, c, rfl, hrd⟩ := tokrow_rd HT1.out
    have HWD := Lib.hid (fun (k : Nat) (kd : Int) (X : World) (hX : Below w1.heap.size w1 X) (hkd : kd ≠ 0) => refword_any X s q c ts k kd (hrd.grow hX) hsr hkd)
    have HPL := Lib.hid (fun (k : Nat) (X : World) (hX : Below w1.heap.size w1 X) => refplace_any X s q c ts k (hrd.grow hX) hll)
    clear hrd HT1 HAL HB hm hx
    go_upto_region 5 with fail
    have HD := Lib.hid (show RD w1 (rqC 0 ⟨#[]⟩ 0 kpZ 0 lpZ) (w1.alloc (.cells #[.int .u8 0, .string ⟨#[]⟩, .int .i64 0, .int .u8 0, .string ⟨#[]⟩, .string ⟨#[]⟩, .int .i64 0, .string ⟨#[]⟩, .slice none 0 0, .slice none 0 0, .int .i64 0, .int .u8 0, .string ⟨#[]⟩, .string ⟨#[]⟩, .int .i64 0, .string ⟨#[]⟩, .slice none 0 0] 33)) from ⟨below1 w1 _, Bk.new w1 _ _⟩)
    generalize w1.alloc (.cells #[.int .u8 0, .string ⟨#[]⟩, .int .i64 0, .int .u8 0, .string ⟨#[]⟩, .string ⟨#[]⟩, .int .i64 0, .string ⟨#[]⟩, .slice none 0 0, .slice none 0 0, .int .i64 0, .int .u8 0, .string ⟨#[]⟩, .string ⟨#[]⟩, .int .i64 0, .string ⟨#[]⟩, .slice none 0 0] 33) = W2 at *
    have HW0 := Lib.hid (show ∀ X, Below w1.heap.size w1 X → Calls Tryz.prog 21 #[.string s, .slice q ts.length c, .int .i64 0, .int .u8 1] X (fun e w' => e = .returned (.string ⟨#[112, 114, 111, 118, 101]⟩) ∧ Below X.heap.size X w') from fun X hX => hv0 ▸ HWD.out 0 1 X hX (by decide))
    have HP9 := Lib.hid (show ∀ X, Below w1.heap.size w1 X → Calls Tryz.prog 22 #[.string s, .slice q ts.length c, .int .i64 1] X (fun e w' => e = .returned (.int .i64 (g : Int)) ∧ w' = X) from fun X hX => hg ▸ HPL.out 1 X hX)
    clear hv0 HWD HPL hts hsr hwd hg hts9
    go_upto_region 33 with (go_at_call 21; refine (HW0.out _ HD.out.b).mono ?_; rintro e x0 ⟨rfl, hbx⟩; replace HD := Lib.hid (HD.out.on hbx); clear hbx)
    have m0 := HD.out.m.cell 0 _ rfl
    have s0 := HD.out.m.soft 0
    go_upto_region 34 with fail
    clear m0 s0
    replace HD := Lib.hid (HD.out.store 0 (.int .u8 3))
    generalize x0.setCell ⟨w1.heap.size, 0, none⟩ (.int .u8 3) = y0 at *
    go_upto_region 35 with (go_at_call 21; refine (HW0.out _ HD.out.b).mono ?_; rintro e x0 ⟨rfl, hbx⟩; replace HD := Lib.hid (HD.out.on hbx); clear hbx)
    have m0 := HD.out.m.cell 0 _ rfl
    have s0 := HD.out.m.soft 0
    go_upto_region 36 with fail
    clear m0 s0
    replace HD := Lib.hid (HD.out.store 0 (.int .u8 4))
    generalize x0.setCell ⟨w1.heap.size, 0, none⟩ (.int .u8 4) = y1 at *
    clear HNE HPB
    go_upto_region 40 with (first | (go_at_call 22; refine (HP9.out _ HD.out.b).mono ?_; rintro e xp ⟨rfl, rfl⟩) | (go_at_call 25; refine (HPA.out _).mono ?_; rintro e z2 ⟨qx, cx, rfl, hcm, hcf, hb2⟩; have hlt9 := HD.out.m.lt; replace HD := Lib.hid ((HD.out.on hb2).on (below1 z2 (.cells #[.int .u8 x.kind, .string x.who.v, .string x.who.s, .int .i64 x.who.n, .string x.pred, .slice qx x.args.length cx] 28))); have HM3 := Lib.hid (Bk.new z2 28 #[.int .u8 x.kind, .string x.who.v, .string x.who.s, .int .i64 x.who.n, .string x.pred, .slice qx x.args.length cx]); have HCM := Lib.hid (hcm.grow (below1 z2 (.cells #[.int .u8 x.kind, .string x.who.v, .string x.who.s, .int .i64 x.who.n, .string x.pred, .slice qx x.args.length cx] 28))); have HCF := Lib.hid (fun b hb => Nat.le_trans hlt9 (hcf b hb)); obtain ⟨r0, r1, r2, r3, r4, r5⟩ := HM3.out.six; unfold Lp.agg Lq.at; clear hb2 hcm hcf))
    generalize z2.alloc (.cells #[.int .u8 x.kind, .string x.who.v, .string x.who.s, .int .i64 x.who.n, .string x.pred, .slice qx x.args.length cx] 28) = z3 at *
    have m11 := HD.out.m.cell 11 _ rfl
    have s11 := HD.out.m.soft 11
    have m12 := HD.out.m.cell 12 _ rfl
    have s12 := HD.out.m.soft 12
    have m13 := HD.out.m.cell 13 _ rfl
    have s13 := HD.out.m.soft 13
    have m14 := HD.out.m.cell 14 _ rfl
    have s14 := HD.out.m.soft 14
    have m15 := HD.out.m.cell 15 _ rfl
    have s15 := HD.out.m.soft 15
    have m16 := HD.out.m.cell 16 _ rfl
    have s16 := HD.out.m.soft 16
    go_upto_region 41 with fail
    have HA4 := Lib.hid (((((((Above.refl (w1.heap.size + 1) z3).set (b := w1.heap.size) (Nat.lt_succ_self _) 11 (.int .u8 x.kind)).set (b := w1.heap.size) (Nat.lt_succ_self _) 12 (.string x.who.v)).set (b := w1.heap.size) (Nat.lt_succ_self _) 13 (.string x.who.s)).set (b := w1.heap.size) (Nat.lt_succ_self _) 14 (.int .i64 x.who.n)).set (b := w1.heap.size) (Nat.lt_succ_self _) 15 (.string x.pred)).set (b := w1.heap.size) (Nat.lt_succ_self _) 16 (.slice qx x.args.length cx))
    replace HD := Lib.hid ((((((HD.out.store 11 (.int .u8 x.kind)).store 12 (.string x.who.v)).store 13 (.string x.who.s)).store 14 (.int .i64 x.who.n)).store 15 (.string x.pred)).store 16 (.slice qx x.args.length cx))
    have hs4 : z3.heap.size ≤ ((((((z3.setCell ⟨w1.heap.size, 11, none⟩ (.int .u8 x.kind)).setCell ⟨w1.heap.size, 12, none⟩ (.string x.who.v)).setCell ⟨w1.heap.size, 13, none⟩ (.string x.who.s)).setCell ⟨w1.heap.size, 14, none⟩ (.int .i64 x.who.n)).setCell ⟨w1.heap.size, 15, none⟩ (.string x.pred)).setCell ⟨w1.heap.size, 16, none⟩ (.slice qx x.args.length cx)).heap.size := by simp [World.setCell]
    clear m11 s11 m12 s12 m13 s13 m14 s14 m15 s15 m16 s16 r0 r1 r2 r3 r4 r5
    generalize ((((((z3.setCell ⟨w1.heap.size, 11, none⟩ (.int .u8 x.kind)).setCell ⟨w1.heap.size, 12, none⟩ (.string x.who.v)).setCell ⟨w1.heap.size, 13, none⟩ (.string x.who.s)).setCell ⟨w1.heap.size, 14, none⟩ (.int .i64 x.who.n)).setCell ⟨w1.heap.size, 15, none⟩ (.string x.pred)).setCell ⟨w1.heap.size, 16, none⟩ (.slice qx x.args.length cx)) = z4 at *
    have HM4 := Lib.hid (show Bk z4 w1.heap.size 33 (rqC 4 ⟨#[]⟩ 0 kpZ 0 (x.at qx cx)) from (by have h := HD.out.m; simp only [rqC, List.setIfInBounds_toArray, List.set_cons_zero, List.set_cons_succ] at h ⊢; exact h))
    obtain ⟨d9, hu9, hd9⟩ := rowReq
    have HZ7 := Lib.hid (HZ1.out.on HD.out.b)
    refine wp_region_list (show wpList _ _ _ (_ :: _ :: _) _ _ from ?_)
    refine wpList_load_mid rfl 33 (.tmp 8) rfl w1.heap.size 0 rfl (rqC 4 ⟨#[]⟩ 0 kpZ 0 (x.at qx cx)).toList d9 HM4.out.range hu9 hd9 (by rw [sizeReq]; rfl) ?_
    refine wpList_store_mid rfl 33 (.tmp 2) _ rfl w.heap.size 0 (rqC 4 ⟨#[]⟩ 0 kpZ 0 (x.at qx cx)) rfl rfl HZ7.out.there (sizeReqC _ _ _ _ _ _) (rqC_one _ _ _ _ _ _) ?_
    have HB8 := Lib.hid (HB1.out.trans ((HD.out.b.mono (show w.heap.size ≤ w1.heap.size by omega)).trans (below_setCells (rqC 4 ⟨#[]⟩ 0 kpZ 0 (x.at qx cx)).toList w.heap.size 0 z4 (Nat.le_refl _))))
    have HZ8 := Lib.hid (HZ7.out.setAll 4 ⟨#[]⟩ 0 kpZ 0 (x.at qx cx) ⟨0, ⟨#[]⟩, 0, kpZ, 0, lpZ, rfl⟩)
    have HR8 := Lib.hid ((ReqMem.above (show ReqMem z4 (w1.heap.size + 1) (.ask 4 x) (rqC 4 ⟨#[]⟩ 0 kpZ 0 (x.at qx cx)) from ⟨qx, cx, rfl, HA4.out.rd HCM.out HCF.out hs4, HCF.out⟩) (above_setCells (Above.refl (w.heap.size + 1) z4) (Nat.lt_succ_self _) (rqC 4 ⟨#[]⟩ 0 kpZ 0 (x.at qx cx)).toList) (by omega) (below_setCells (B := w.heap.size) (rqC 4 ⟨#[]⟩ 0 kpZ 0 (x.at qx cx)).toList w.heap.size 0 z4 (Nat.le_refl _)).size).mono (show w.heap.size ≤ w1.heap.size + 1 by omega))
    generalize z4.setCells w.heap.size 0 (rqC 4 ⟨#[]⟩ 0 kpZ 0 (x.at qx cx)).toList = w9 at *
    go_wp2_with fail
    refine bodyPost_ret (results_req rfl _ _ w.heap.size 4 ⟨#[]⟩ 0 kpZ 0 (x.at qx cx) rfl HZ8.out) rfl ?_
    exact ⟨_, rfl, HR8.out, HB8.out⟩
set_option maxHeartbeats 16000000 in
set_option maxRecDepth 100000 in
theorem refparse_audit_more (s : ByteArray) (w : World) (hm : s.size ≤ 140737488351232) (hx : (allL s.data.toList).err = 0) (hwd : textAt s (allL s.data.toList).toks 0 = wdAudit) (h1 : 1 < (allL s.data.toList).toks.length) :
    Calls Tryz.prog 8 #[.string s] w (ReqPost w (.error (6, placeAt s (allL s.data.toList).toks 1))) := by
  have HB := Lib.hid (below1 w)
  have HAL := Lib.hid (fun X => refall_any s X hm)
  unfold AllPost at HAL
  have hts := toks_of s hx
  have hsr := hts.src
  rw [hx] at HAL
  generalize (allL s.data.toList).pl = pl at *
  generalize (allL s.data.toList).toks = ts at *
  have hll := hsr.len
  have hsz := hsr.size
  have hv0 : wordR s ts 0 1 = ⟨#[97, 117, 100, 105, 116]⟩ := (word_is (c := 97) (r := [117, 100, 105, 116]) hts hwd (by decide) (by kernel_rfl)).trans hwd
  have h1' : (1 : Int) < (ts.length : Int) := by omega
  go_enter Tryz.func8, Tryz.ntmps8
  go_upto_region 4 with (go_at_call 20; refine (HAL.out _).mono ?_; rintro e w1 ⟨v1, rfl, ht1, hb1⟩; have HB1 := Lib.hid ((HB.out _).trans (hb1.mono (HB.out _).size)); have HZ1 := Lib.hid (show Bk w1 w.heap.size 33 (rqC 0 ⟨#[]⟩ 0 kpZ 0 lpZ) from (Bk.new w _ _).on hb1); have HT1 := Lib.hid ht1; have hs1 : w.heap.size + 1 ≤ w1.heap.size := (by simpa using hb1.size); clear hb1 ht1)
  obtain ⟨q, c, rfl, hrd⟩ := tokrow_rd HT1.out
  have HWD := Lib.hid (fun (k : Nat) (kd : Int) (X : World) (hX : Below w1.heap.size w1 X) (hkd : kd ≠ 0) => refword_any X s q c ts k kd (hrd.grow hX) hsr hkd)
  have HPL := Lib.hid (fun (k : Nat) (X : World) (hX : Below w1.heap.size w1 X) => refplace_any X s q c ts k (hrd.grow hX) hll)
  clear hrd HT1 HAL HB hm hx
  go_upto_region 5 with fail
  have HD := Lib.hid (show RD w1 (rqC 0 ⟨#[]⟩ 0 kpZ 0 lpZ) (w1.alloc (.cells #[.int .u8 0, .string ⟨#[]⟩, .int .i64 0, .int .u8 0, .string ⟨#[]⟩, .string ⟨#[]⟩, .int .i64 0, .string ⟨#[]⟩, .slice none 0 0, .slice none 0 0, .int .i64 0, .int .u8 0, .string ⟨#[]⟩, .string ⟨#[]⟩, .int .i64 0, .string ⟨#[]⟩, .slice none 0 0] 33)) from ⟨below1 w1 _, Bk.new w1 _ _⟩)
  generalize w1.alloc (.cells #[.int .u8 0, .string ⟨#[]⟩, .int .i64 0, .int .u8 0, .string ⟨#[]⟩, .string ⟨#[]⟩, .int .i64 0, .string ⟨#[]⟩, .slice none 0 0, .slice none 0 0, .int .i64 0, .int .u8 0, .string ⟨#[]⟩, .string ⟨#[]⟩, .int .i64 0, .string ⟨#[]⟩, .slice none 0 0] 33) = W2 at *
  have HW0 := Lib.hid (show ∀ X, Below w1.heap.size w1 X → Calls Tryz.prog 21 #[.string s, .slice q ts.length c, .int .i64 0, .int .u8 1] X (fun e w' => e = .returned (.string ⟨#[97, 117, 100, 105, 116]⟩) ∧ Below X.heap.size X w') from fun X hX => hv0 ▸ HWD.out 0 1 X hX (by decide))
  have HP1 := Lib.hid (show ∀ X, Below w1.heap.size w1 X → Calls Tryz.prog 22 #[.string s, .slice q ts.length c, .int .i64 1] X (fun e w' => e = .returned (.int .i64 (placeAt s ts 1)) ∧ w' = X) from fun X hX => HPL.out 1 X hX)
  clear hv0 HWD HPL hts hsr hwd
  go_upto_region 43 with (go_at_call 21; refine (HW0.out _ HD.out.b).mono ?_; rintro e x0 ⟨rfl, hbx⟩; replace HD := Lib.hid (HD.out.on hbx); clear hbx)
  have m0 := HD.out.m.cell 0 _ rfl
  have s0 := HD.out.m.soft 0
  go_upto_region 44 with fail
  clear m0 s0
  replace HD := Lib.hid (HD.out.store 0 (.int .u8 5))
  generalize x0.setCell ⟨w1.heap.size, 0, none⟩ (.int .u8 5) = y0 at *
  go_wp2_with (first | (go_at_call 22; refine (HP1.out _ HD.out.b).mono ?_; rintro e xp ⟨rfl, rfl⟩) | (with_reducible (show wpList _ _ _ (Oper.mk none (Op.store 33 (Operand.tmp 2) _) _ _ _ _ :: _) _ _); refine wpList_store_mid rfl 33 (.tmp 2) _ rfl w.heap.size 0 (rqC 0 ⟨#[]⟩ 0 kpZ 0 lpZ) rfl rfl (HZ1.out.on HD.out.b).there (sizeReqC _ _ _ _ _ _) (rqC_one _ _ _ _ _ _) ?_; have HZ8 := Lib.hid ((HZ1.out.on HD.out.b).setAll 0 ⟨#[]⟩ 0 kpZ 0 lpZ ⟨_, _, _, kpZ, _, lpZ, rfl⟩); have HB8 := Lib.hid (HB1.out.trans ((HD.out.b.mono (show w.heap.size ≤ w1.heap.size by omega)).trans (below_setCells (rqC 0 ⟨#[]⟩ 0 kpZ 0 lpZ).toList w.heap.size 0 _ (Nat.le_refl _))))))
  refine bodyPost_ret (results_req rfl _ _ w.heap.size 0 ⟨#[]⟩ 0 kpZ 0 lpZ rfl HZ8.out) rfl ?_
  exact ⟨rfl, HB8.out⟩
set_option maxHeartbeats 16000000 in
set_option maxRecDepth 100000 in
theorem refparse_audit_ok (s : ByteArray) (w : World) (hm : s.size ≤ 140737488351232) (hx : (allL s.data.toList).err = 0) (hwd : textAt s (allL s.data.toList).toks 0 = wdAudit) (h1 : ¬ 1 < (allL s.data.toList).toks.length) :
    Calls Tryz.prog 8 #[.string s] w (ReqPost w (.ok .aud)) := by
  have HB := Lib.hid (below1 w)
  have HAL := Lib.hid (fun X => refall_any s X hm)
  unfold AllPost at HAL
  have hts := toks_of s hx
  have hsr := hts.src
  rw [hx] at HAL
  generalize (allL s.data.toList).pl = pl at *
  generalize (allL s.data.toList).toks = ts at *
  have hll := hsr.len
  have hsz := hsr.size
  have hv0 : wordR s ts 0 1 = ⟨#[97, 117, 100, 105, 116]⟩ := (word_is (c := 97) (r := [117, 100, 105, 116]) hts hwd (by decide) (by kernel_rfl)).trans hwd
  have h1' : ¬ (1 : Int) < (ts.length : Int) := by omega
  go_enter Tryz.func8, Tryz.ntmps8
  go_upto_region 4 with (go_at_call 20; refine (HAL.out _).mono ?_; rintro e w1 ⟨v1, rfl, ht1, hb1⟩; have HB1 := Lib.hid ((HB.out _).trans (hb1.mono (HB.out _).size)); have HZ1 := Lib.hid (show Bk w1 w.heap.size 33 (rqC 0 ⟨#[]⟩ 0 kpZ 0 lpZ) from (Bk.new w _ _).on hb1); have HT1 := Lib.hid ht1; have hs1 : w.heap.size + 1 ≤ w1.heap.size := (by simpa using hb1.size); clear hb1 ht1)
  obtain ⟨q, c, rfl, hrd⟩ := tokrow_rd HT1.out
  have HWD := Lib.hid (fun (k : Nat) (kd : Int) (X : World) (hX : Below w1.heap.size w1 X) (hkd : kd ≠ 0) => refword_any X s q c ts k kd (hrd.grow hX) hsr hkd)
  have HPL := Lib.hid (fun (k : Nat) (X : World) (hX : Below w1.heap.size w1 X) => refplace_any X s q c ts k (hrd.grow hX) hll)
  clear hrd HT1 HAL HB hm hx
  go_upto_region 5 with fail
  have HD := Lib.hid (show RD w1 (rqC 0 ⟨#[]⟩ 0 kpZ 0 lpZ) (w1.alloc (.cells #[.int .u8 0, .string ⟨#[]⟩, .int .i64 0, .int .u8 0, .string ⟨#[]⟩, .string ⟨#[]⟩, .int .i64 0, .string ⟨#[]⟩, .slice none 0 0, .slice none 0 0, .int .i64 0, .int .u8 0, .string ⟨#[]⟩, .string ⟨#[]⟩, .int .i64 0, .string ⟨#[]⟩, .slice none 0 0] 33)) from ⟨below1 w1 _, Bk.new w1 _ _⟩)
  generalize w1.alloc (.cells #[.int .u8 0, .string ⟨#[]⟩, .int .i64 0, .int .u8 0, .string ⟨#[]⟩, .string ⟨#[]⟩, .int .i64 0, .string ⟨#[]⟩, .slice none 0 0, .slice none 0 0, .int .i64 0, .int .u8 0, .string ⟨#[]⟩, .string ⟨#[]⟩, .int .i64 0, .string ⟨#[]⟩, .slice none 0 0] 33) = W2 at *
  have HW0 := Lib.hid (show ∀ X, Below w1.heap.size w1 X → Calls Tryz.prog 21 #[.string s, .slice q ts.length c, .int .i64 0, .int .u8 1] X (fun e w' => e = .returned (.string ⟨#[97, 117, 100, 105, 116]⟩) ∧ Below X.heap.size X w') from fun X hX => hv0 ▸ HWD.out 0 1 X hX (by decide))
  clear hv0 HWD HPL hts hsr hwd
  go_upto_region 43 with (go_at_call 21; refine (HW0.out _ HD.out.b).mono ?_; rintro e x0 ⟨rfl, hbx⟩; replace HD := Lib.hid (HD.out.on hbx); clear hbx)
  have m0 := HD.out.m.cell 0 _ rfl
  have s0 := HD.out.m.soft 0
  go_upto_region 44 with fail
  clear m0 s0
  replace HD := Lib.hid (HD.out.store 0 (.int .u8 5))
  generalize x0.setCell ⟨w1.heap.size, 0, none⟩ (.int .u8 5) = y0 at *
  go_upto_region 46 with fail
  have HM4 := Lib.hid (show Bk y0 w1.heap.size 33 (rqC 5 ⟨#[]⟩ 0 kpZ 0 lpZ) from (by have h := HD.out.m; simp only [rqC, List.setIfInBounds_toArray, List.set_cons_zero, List.set_cons_succ] at h ⊢; exact h))
  obtain ⟨d9, hu9, hd9⟩ := rowReq
  have HZ7 := Lib.hid (HZ1.out.on HD.out.b)
  refine wp_region_list (show wpList _ _ _ (_ :: _ :: _) _ _ from ?_)
  refine wpList_load_mid rfl 33 (.tmp 8) rfl w1.heap.size 0 rfl (rqC 5 ⟨#[]⟩ 0 kpZ 0 lpZ).toList d9 HM4.out.range hu9 hd9 (by rw [sizeReq]; rfl) ?_
  refine wpList_store_mid rfl 33 (.tmp 2) _ rfl w.heap.size 0 (rqC 5 ⟨#[]⟩ 0 kpZ 0 lpZ) rfl rfl HZ7.out.there (sizeReqC _ _ _ _ _ _) (rqC_one _ _ _ _ _ _) ?_
  have HB8 := Lib.hid (HB1.out.trans ((HD.out.b.mono (show w.heap.size ≤ w1.heap.size by omega)).trans (below_setCells (rqC 5 ⟨#[]⟩ 0 kpZ 0 lpZ).toList w.heap.size 0 y0 (Nat.le_refl _))))
  have HZ8 := Lib.hid (HZ7.out.setAll 5 ⟨#[]⟩ 0 kpZ 0 lpZ ⟨0, ⟨#[]⟩, 0, kpZ, 0, lpZ, rfl⟩)
  generalize y0.setCells w.heap.size 0 (rqC 5 ⟨#[]⟩ 0 kpZ 0 lpZ).toList = w9 at *
  go_wp2_with fail
  refine bodyPost_ret (results_req rfl _ _ w.heap.size 5 ⟨#[]⟩ 0 kpZ 0 lpZ rfl HZ8.out) rfl ?_
  exact ⟨_, rfl, rfl, HB8.out⟩
theorem refreq_any (s : ByteArray) (w : World) (hm : s.size ≤ 140737488351232) : Calls Tryz.prog 8 #[.string s] w (ReqPost w (reqR s)) := by
  unfold reqR
  by_cases hx : (allL s.data.toList).err = 0
  · rw [if_pos hx]
    unfold reqT
    by_cases h1 : textAt s (allL s.data.toList).toks 0 = wdAssert
    · rw [if_pos h1]
      by_cases hk : kindAt (allL s.data.toList).toks 1 = 1
      · by_cases hf : forB s (allL s.data.toList).toks 2
        · by_cases hn : numR (textAt s (allL s.data.toList).toks 3) = 0
          · rw [assR_num hk hf hn]; exact refparse_assert_num0 s w hm hx h1 hk hf hn
          · rw [assR_for hk hf hn]; exact refparse_assert_for s w hm hx h1 hk hf hn
        · rw [assR_no hk hf]
          by_cases h2 : textAt s (allL s.data.toList).toks 2 = wdFor
          · exact refparse_assert_noB s w hm hx h1 hk h2 (fun e => hf ⟨h2, e⟩)
          · exact refparse_assert_noA s w hm hx h1 hk h2
      · rw [assR_bad hk]; exact refparse_assert_bad s w hm hx h1 hk
    · rw [if_neg h1]
      by_cases h2 : textAt s (allL s.data.toList).toks 0 = wdRevoke
      · rw [if_pos h2]
        unfold revR
        by_cases hn : numR (textAt s (allL s.data.toList).toks 1) = 0
        · rw [if_pos hn]; exact refparse_revoke_num0 s w hm hx h2 hn
        · rw [if_neg hn]
          by_cases hl : 2 < (allL s.data.toList).toks.length
          · rw [if_pos hl]; exact refparse_revoke_more s w hm hx h2 hn hl
          · rw [if_neg hl]; exact refparse_revoke_ok s w hm hx h2 hn hl
      · rw [if_neg h2]
        by_cases h3 : textAt s (allL s.data.toList).toks 0 = wdQuery
        · rw [if_pos h3]; exact refparse_query s w hm hx h3
        · rw [if_neg h3]
          by_cases h4 : textAt s (allL s.data.toList).toks 0 = wdProve
          · rw [if_pos h4]; exact refparse_prove s w hm hx h4
          · rw [if_neg h4]
            by_cases h5 : textAt s (allL s.data.toList).toks 0 = wdAudit
            · rw [if_pos h5]
              unfold audR
              by_cases hl : 1 < (allL s.data.toList).toks.length
              · rw [if_pos hl]; exact refparse_audit_more s w hm hx h5 hl
              · rw [if_neg hl]; exact refparse_audit_ok s w hm hx h5 hl
            · rw [if_neg h5]; exact refparse_none s w hm hx ⟨h1, h2, h3, h4, h5⟩
  · rw [if_neg hx]; exact refparse_lex s w hm hx
end Go.Proofs.YtfmkfabbiifolaaGreatDoor
