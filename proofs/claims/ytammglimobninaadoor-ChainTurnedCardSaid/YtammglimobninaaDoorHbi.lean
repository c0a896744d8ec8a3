/-
  Contract: (*links).bind.
-/
import Derived.Test.YtammglimobninaaDoorHsd
import Derived.Test.YtammglimobninaaDoorHag
import Derived.Test.YtammglimobninaaDoorSum
set_option linter.unusedVariables false
set_option linter.unusedSimpArgs false
namespace Go.Proofs.YtammglimobninaaDoor
open Go.RowKit Nm

def linksC (cut count : Nat) (sum : List UInt8) : List Value := .int .i64 cut :: .int .i64 count :: cells8 sum
/-- links in a block, among other cells -/
structure Lb (X : World) (b : Nat) (T : TypeId) (pre post : List Value) (cut count : Nat) (sum : List UInt8) : Prop where
  bk : Bk X b T (pre ++ (linksC cut count sum ++ post)).toArray
  len : sum.length = 32
theorem Lb.lk {X : World} {b : Nat} {T : TypeId} {pre post : List Value} {cut count : Nat} {sum : List UInt8} (h : Lb X b T pre post cut count sum) : Lk X b pre.length cut count sum := by
  refine ⟨h.bk.cell _ _ (by simp [linksC]), h.bk.cell _ _ (by simp [linksC]), fun j v hv => h.bk.cell _ _ ?_, h.len⟩
  have hj : j < (cells8 sum).length := (List.getElem?_eq_some_iff.1 hv).1
  rw [List.toList_toArray, List.getElem?_append_right (by omega), show pre.length + 2 + j - pre.length = j + 2 by omega, List.getElem?_append_left (by simp [linksC]; omega)]
  exact hv
theorem Lb.on {X X' : World} {b : Nat} {T : TypeId} {pre post : List Value} {cut count : Nat} {sum : List UInt8} (h : Lb X b T pre post cut count sum) (hb : Below X.heap.size X X') : Lb X' b T pre post cut count sum := ⟨h.bk.on hb, h.len⟩
theorem splice_sum (pre post : List Value) (cut count : Nat) (sum S : List UInt8) (h : sum.length = 32) (hS : S.length = 32) : splice (pre ++ (linksC cut count sum ++ post)) (pre.length + 2) (cells8 S) = pre ++ (linksC cut count S ++ post) := by
  unfold splice linksC
  simp only [cells8_len, hS]
  rw [List.take_length_add_append, show pre.length + 2 + 32 = pre.length + 34 by omega, List.drop_length_add_append, List.append_assoc]
  congr 1
  show [Value.int .i64 cut, Value.int .i64 count] ++ (cells8 S ++ (cells8 sum ++ post).drop 32) = _
  rw [List.drop_left' (by rw [cells8_len, h])]
  simp
theorem set_count (pre post : List Value) (cut count n : Nat) (sum : List UInt8) : (pre ++ (linksC cut count sum ++ post)).set (pre.length + 1) (.int .i64 n) = pre ++ (linksC cut n sum ++ post) := by
  rw [List.set_append_right _ _ (by omega), show pre.length + 1 - pre.length = 1 by omega]
  rfl

theorem Lb.there {X : World} {b : Nat} {T : TypeId} {pre post : List Value} {cut count : Nat} {sum : List UInt8} (h : Lb X b T pre post cut count sum) : X.there b (pre.length + 2) 32 := fun j hj => by
  have hj' : j < (cells8 sum).length := by rw [cells8_len, h.len]; exact hj
  refine ⟨?_, h.bk.soft _⟩
  rw [h.lk.lies j _ (List.getElem?_eq_getElem hj')]; rfl

theorem Lb.putSum {X : World} {b : Nat} {T : TypeId} {pre post : List Value} {cut count : Nat} {sum S : List UInt8} (h : Lb X b T pre post cut count sum) (hS : S.length = 32) : Lb (X.setCells b (pre.length + 2) (cells8 S)) b T pre post cut count S := by
  refine ⟨?_, hS⟩
  have := Bk.sets (cells8 S) (pre.length + 2) X _ h.bk (by simp [linksC, cells8_len, hS, h.len]; omega)
  rw [splice_sum _ _ _ _ _ _ h.len hS] at this
  exact this
theorem Lb.putCount {X : World} {b : Nat} {T : TypeId} {pre post : List Value} {cut count : Nat} {sum : List UInt8} (h : Lb X b T pre post cut count sum) : Lb (X.setCell ⟨b, pre.length + 1, none⟩ (.int .i64 ((count : Int) + 1))) b T pre post cut (count + 1) sum := by
  refine ⟨?_, h.len⟩
  have := h.bk.set (pre.length + 1) (.int .i64 ((count : Int) + 1))
  rw [show ∀ v, (pre ++ (linksC cut count sum ++ post)).toArray.setIfInBounds (pre.length + 1) v = ((pre ++ (linksC cut count sum ++ post)).set (pre.length + 1) v).toArray from fun v => by simp] at this
  have e := set_count pre post cut count (count + 1) sum
  rw [show ((count + 1 : Nat) : Int) = (count : Int) + 1 by simp] at e
  rw [e] at this
  exact this

set_option maxRecDepth 100000 in
set_option maxHeartbeats 2000000 in
theorem bind_any (b : Nat) (T : TypeId) (pre post : List Value) (cut count o : Nat) (sum : List UInt8) (ho : o = pre.length) (e : En) (hk : e.Ok) (hg : goodB e = true) (w : World) (hE : Env w) (h : Lb w b T pre post cut count sum) (hcut : cut ≤ 32) (hct : count < 1000000000000) (S : List UInt8) (hS : Hid (S = sumS (sum.take cut ++ bytesS count e))) :
    Calls Tryd.prog 38 #[.pointer (some ⟨b, o, none⟩), .agg e.cells.toArray] w fun r w' => r = .returned (.tuple #[]) ∧ Lb w' b T pre post cut (count + 1) S ∧ Only b w w' := by
  have HSL := Lib.hid (show S.length = 32 by rw [hS.out]; exact sumS_len _)
  obtain ⟨M, eM⟩ : ∃ M, Hid (M = sum.take cut ++ bytesS count e) := ⟨_, Lib.hid rfl⟩
  have HSM := Lib.hid (show Hid (S = sumS M) from Lib.hid (by rw [hS.out, eM.out]))
  have HML := Lib.hid (show M.length < 1000000000000000 by have hp := good_parts hg; have := hk.dig; rw [eM.out, List.length_append, List.length_take]; simp [bytesS, numS_len]; omega)
  have HK := Lib.hid hk
  have HG := Lib.hid hg
  have HP := Lib.hid (good_parts hg)
  have HE := Lib.hid hE
  have HO := Lib.hid ho
  have HL := Lib.hid (h.on (below1 w (.cells e.cells.toArray 24)))
  have HB0 := Lib.hid (below1 w (.cells e.cells.toArray 24))
  have HBK := Lib.hid (Bk.new w 24 e.cells.toArray)
  have HLT := Lib.hid (h.bk.lt)
  clear hk hg hE h ho
  go_enter Tryd.func38, Tryd.ntmps38
  go_upto_region 1 with (fail)
  generalize w.alloc (.cells e.cells.toArray 24) = WA at *
  go_upto_region 2 with (first
    | (refine wpList_load_row rfl 24 _ rfl _ rfl _ _ _ _ HBK.out Tryd.underlying24 rfl (by rw [En.asize]; kernel_rfl) ?_)
    | (go_at_call 44; refine (summed_any b o cut count sum e HK.out HG.out _ (by have := HL.out.lk; rw [← HO.out] at this; exact this) hcut (by omega)).mono ?_; rintro r w2 ⟨v2, rfl, hA, hb⟩; rw [← eM.out] at hA; obtain ⟨q2, c2, rfl, hd2, hR2⟩ := hA.rd; have HR2 := Lib.hid hR2; have HD2 := Lib.hid hd2; have HL2 := Lib.hid (HL.out.on hb); have HB2 := Lib.hid (HB0.out.trans (hb.mono HB0.out.size)); clear hA hb hR2 hd2)
    | (go_at_call 29; refine (sum_any q2 c2 M _ HR2.out HD2.out (HE.out.on HB2.out HE.out.size) HML.out S HSM.out).mono ?_; rintro r w3 ⟨rfl, hb⟩; have HL3 := Lib.hid (HL2.out.on hb); have HB3 := Lib.hid (HB2.out.trans (hb.mono HB2.out.size)); have HTH := Lib.hid (show w3.there b (o + 2) (cells8 S).toArray.size from by rw [List.size_toArray, cells8_len, HSL.out, HO.out]; exact HL3.out.there); clear hb)
    | (refine wpList_store_mid rfl 22 _ _ rfl b (o + 2) (cells8 S).toArray rfl rfl HTH.out (by rw [List.size_toArray, cells8_len, HSL.out]; kernel_rfl) (cells8_one _) ?_))
  have HL4 := Lib.hid (HL3.out.putSum HSL.out)
  rw [← HO.out] at HL4
  have HO4 := Lib.hid ((Only.of (pb := b) HB3.out).trans (Only.sets b (cells8 S) (o + 2) w3))
  generalize w3.setCells b (o + 2) (cells8 S) = W4 at *
  have c1 := HL4.out.lk.count
  have f1 := HL4.out.bk.soft (o + 1)
  rw [← HO.out] at c1
  have s5 : IntKind.i64.wrap ((count : Int) + 1) = (count : Int) + 1 := IntWalk.i64_in _ (by omega)
  (try simp only [Act.put])
  go_wp2_with fail
  refine bodyPost_end (v := .tuple #[]) (results_none rfl _ _ _) rfl ⟨rfl, ?_, HO4.out.trans (Only.set b _ _ _)⟩
  rw [HO.out]
  exact HL4.out.putCount
end Go.Proofs.YtammglimobninaaDoor
