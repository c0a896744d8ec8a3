/-
  Joined of: Rqu, Rqx, FrmA.
-/
import Derived.Test.YtfmkfabbiifolaaGreatDoorJa22
import Derived.Deep.MidRow
import Derived.Laws.NewBlocks
import Derived.Test.YtfmkfabbiifolaaGreatDoorJa31
import Derived.Test.YtfmkfabbiifolaaGreatDoorJa29
import Derived.Test.YtfmkfabbiifolaaGreatDoorTie
import Derived.Test.YtfmkfabbiifolaaGreatDoorCards
import Derived.ProofKit
import Derived.LaidMore
import Derived.OpenShut
import Derived.ShutString
import Derived.Stop.Joined
import Derived.Stop.LaidErr
import Derived.SevenTiedAt
import Derived.Lib.LaidTab
set_option linter.unusedVariables false
set_option linter.unusedSimpArgs false
/-
  A variable made and given a whole value: the law of the two operations.
-/
set_option linter.unusedVariables false
set_option linter.unusedSimpArgs false
namespace Go.Proofs.YtfmkfabbiifolaaGreatDoor
open Go.RowKit

theorem alloc_setCells {w : World} {t : TypeId} : ∀ (vs : List Value) (o : Nat) (c : Array Value), c.size = o + vs.length → (w.alloc (.cells c t)).setCells w.heap.size o vs = w.alloc (.cells (c.toList.take o ++ vs).toArray t)
  | [], o, c, h => by
    have : c.toList.take o = c.toList := List.take_of_length_le (by simp at h ⊢; omega)
    rw [World.setCells, this, List.append_nil]
  | v :: r, o, c, h => by
    have ho : o < c.toList.length := by simp at h ⊢; omega
    rw [World.setCells, World.setCell_alloc_at c t _ o v rfl, alloc_setCells r (o + 1) _ (by simp at h ⊢; omega)]
    congr 2
    rw [Array.toList_setIfInBounds, List.take_succ_eq_append_getElem (by simpa using ho), List.take_set_of_le (Nat.le_refl o)]
    simp
theorem alloc_setAll {w : World} {t : TypeId} (c cs : Array Value) (h : c.size = cs.size) : (w.alloc (.cells c t)).setCells w.heap.size 0 cs.toList = w.alloc (.cells cs t) := by
  rw [alloc_setCells cs.toList 0 c (by simp [h])]
  simp
theorem wpList_new_as {P : Program} {ops : Array Oper} {rest : List Oper} {o : Oper} {a : Act} {w : World} {Q : Exit → Act → World → Prop} (hg : o.guard = none) (t : TypeId) (ho : o.op = .alloc t) (z : Array Value) (hz : (P.info? t).bind (·.zero) = some (.agg z))
    (h : wpList P ops Q rest (a.put o.dst (.pointer (some ⟨w.heap.size, 0, none⟩))) (w.alloc (.cells z t))) : wpList P ops Q (o :: rest) a w := by
  refine wpList_plain hg fun K hK => ?_
  cases hi : P.info? t with
  | none => rw [hi] at hz; cases hz
  | some i =>
    rw [hi] at hz
    have hz' : i.zero = some (.agg z) := hz
    unfold Oper.wp execOp
    simp only [ho]
    have hrun : (Instr.alloc t true (.tuple #[])).run P w = .ok (.pointer (some ⟨w.heap.size, 0, none⟩)) (w.alloc (.cells z t)) := by
      simp [Instr.alloc, zeroValue, typeInfo, hi, hz', newVar, newRow, Value.cells]
    simp only [Sem.run_bind, hrun, Result.andThen_ok, Sem.run_pure]
    exact hK _ _ h
/-- a variable is made and given a whole value -/
theorem wpList_new_store {P : Program} {ops : Array Oper} {rest : List Oper} {o1 o2 : Oper} {a : Act} {w : World} {Q : Exit → Act → World → Prop} (hg1 : o1.guard = none) (hg2 : o2.guard = none) (t : TypeId) (h1 : o1.op = .alloc t) (x y : Operand) (h2 : o2.op = .store t x y)
    (z : Array Value) (hz : (P.info? t).bind (·.zero) = some (.agg z)) (cs : Array Value) (hx : (a.put o1.dst (.pointer (some ⟨w.heap.size, 0, none⟩))).eval x = .pointer (some ⟨w.heap.size, 0, none⟩))
    (hy : (a.put o1.dst (.pointer (some ⟨w.heap.size, 0, none⟩))).eval y = .agg cs) (hs : z.size = cs.size) (hi : (P.info? t).map (·.size) = some cs.size) (hc : cs.all (·.oneCell') = true)
    (h : wpList P ops Q rest ((a.put o1.dst (.pointer (some ⟨w.heap.size, 0, none⟩))).put o2.dst undef) (w.alloc (.cells cs t))) : wpList P ops Q (o1 :: o2 :: rest) a w := by
  refine wpList_new_as hg1 t h1 z hz (wpList_store_mid hg2 t x y h2 w.heap.size 0 cs hx hy ?_ hi hc ?_)
  · intro j hj
    rw [Nat.zero_add]
    have hj' : j < z.size := by omega
    refine ⟨?_, ?_⟩
    · rw [World.cell?_alloc_at _ _ _ _ rfl]; simp [hj']
    · exact World.frozen?_alloc_at _ _ _ _ rfl
  · rw [alloc_setAll z cs hs]
    exact h
/-- a request stored into a new variable, as the walk meets it -/
theorem run_storeReq (w : World) (kd : Int) (lb : ByteArray) (lf : Int) (cl : Kp) (no : Int) (lp : Lp) :
    (storeCells ⟨w.heap.size, 0, none⟩ (rqC kd lb lf cl no lp).toList).run Tryz.prog (w.alloc (.cells #[.int .u8 0, .string ⟨#[]⟩, .int .i64 0, .int .u8 0, .string ⟨#[]⟩, .string ⟨#[]⟩, .int .i64 0, .string ⟨#[]⟩, .slice none 0 0, .slice none 0 0, .int .i64 0, .int .u8 0, .string ⟨#[]⟩, .string ⟨#[]⟩, .int .i64 0, .string ⟨#[]⟩, .slice none 0 0] 33)) = .ok () (w.alloc (.cells (rqC kd lb lf cl no lp) 33)) := by
  have hb := Bk.new w 33 #[.int .u8 0, .string ⟨#[]⟩, .int .i64 0, .int .u8 0, .string ⟨#[]⟩, .string ⟨#[]⟩, .int .i64 0, .string ⟨#[]⟩, .slice none 0 0, .slice none 0 0, .int .i64 0, .int .u8 0, .string ⟨#[]⟩, .string ⟨#[]⟩, .int .i64 0, .string ⟨#[]⟩, .slice none 0 0]
  have h1 := hb.there
  have h := run_storeCells_cells (P := Tryz.prog) w.heap.size 0 (rqC kd lb lf cl no lp).toList 0 _ (fun j hj => (h1 j hj).1) (fun j hj => (h1 j hj).2)
    (fun v hv => (Array.all_eq_true_iff_forall_mem.1 (rqC_one kd lb lf cl no lp)) v (by simpa using hv))
  have e := alloc_setAll (w := w) (t := 33) #[.int .u8 0, .string ⟨#[]⟩, .int .i64 0, .int .u8 0, .string ⟨#[]⟩, .string ⟨#[]⟩, .int .i64 0, .string ⟨#[]⟩, .slice none 0 0, .slice none 0 0, .int .i64 0, .int .u8 0, .string ⟨#[]⟩, .string ⟨#[]⟩, .int .i64 0, .string ⟨#[]⟩, .slice none 0 0] (rqC kd lb lf cl no lp) rfl
  exact h.trans (congrArg (Result.ok ()) e)
end Go.Proofs.YtfmkfabbiifolaaGreatDoor

/-
  Contract: fixed(): the chapter's examples are answered as it says.
-/
set_option linter.unusedVariables false
set_option linter.unusedSimpArgs false
namespace Go.Proofs.YtfmkfabbiifolaaGreatDoor
open Go.RowKit

set_option maxHeartbeats 16000000 in
set_option maxRecDepth 100000 in
theorem rqfixed_any (w : World) (he : Env w) :
    Calls Tryz.prog 9 #[] w fun e w' => e = .returned (.bool true) ∧ Below w.heap.size w w' := by
  have HE := Lib.hid he
  have HP1 := Lib.hid (fun wx hx => parse_a wx hx)
  have HP2 := Lib.hid (fun wx hx => parse_b wx hx)
  have HP3 := Lib.hid (fun wx hx => parse_bad exQ 9 (by decide) xq wx hx)
  have HP4 := Lib.hid (fun wx hx => parse_bad exR 7 (by decide) xr wx hx)
  have HP5 := Lib.hid (fun wx hx => parse_bad exU 6 (by decide) xu wx hx)
  have HPR := Lib.hid (fun wx cl lp h1 h2 h3 h4 => print_a wx cl lp h1 h2 h3 h4)
  have HCK := Lib.hid (fun wx cl lp h1 h2 h3 h4 => check_a wx cl lp h1 h2 h3 h4)
  obtain ⟨d, hu, hd⟩ := rowReq
  have hz := sizeReq
  unfold exA at HP1 HPR
  unfold exB at HP2
  unfold exQ at HP3
  unfold exR at HP4
  unfold exU at HP5
  have hst := fun (w : World) (kd : Int) (lb : ByteArray) (lf : Int) (cl : Kp) (no : Int) (lp : Lp) => run_storeReq w kd lb lf cl no lp
  clear he
  go_enter Tryz.func9, Tryz.ntmps9
  go_wp2_with (first
    | (go_at_call 14; refine (HCK.out _ cl lp hq.out hl.out HM6.out (HE.out.on HB6.out)).mono ?_; rintro e w7 ⟨rfl, hb7⟩; have HB7 := Lib.hid (HB6.out.trans (hb7.mono HB6.out.size)); clear hb7)
    | (go_at_call 11; refine (HPR.out _ cl lp hq.out hl.out HM5.out (HE.out.on HB5.out)).mono ?_; rintro e w6 ⟨rfl, hb6⟩; have HB6 := Lib.hid (HB5.out.trans (hb6.mono HB5.out.size)); have HM6 := Lib.hid (HM5.out.on hb6); have HX6 := Lib.hid (HX5.out.on hb6); have c2 := HX6.out.cell 2 (.int .i64 5) rfl; have c7 := HX6.out.cell 7 (.string ⟨#[112]⟩) (by rw [← hpa.out]; rfl); have d7 := (HY5.out.on hb6).cell 7 (.string ⟨#[102, 111, 114]⟩) (by rw [← hpb.out]; rfl); clear hb6)
    | (go_at_call 7; refine (HP5.out _ (HE.out.on HB4.out)).mono ?_; rintro e w5 ⟨rfl, hb5⟩; have hb5' := hb5.trans ((below1 w5 (.cells (rqC 0 ⟨#[]⟩ 0 kpZ 0 lpZ) 33)).mono hb5.size); have HB5 := Lib.hid (HB4.out.trans (hb5'.mono HB4.out.size)); have HM5 := Lib.hid (HM4.out.on hb5'); have HX5 := Lib.hid (HX4.out.on hb5'); have HY5 := Lib.hid (HY4.out.on hb5'); clear hb5 hb5')
    | (go_at_call 7; refine (HP4.out _ (HE.out.on HB3.out)).mono ?_; rintro e w4 ⟨rfl, hb4⟩; have hb4' := hb4.trans ((below1 w4 (.cells (rqC 0 ⟨#[]⟩ 0 kpZ 0 lpZ) 33)).mono hb4.size); have HB4 := Lib.hid (HB3.out.trans (hb4'.mono HB3.out.size)); have HM4 := Lib.hid (HM3.out.on hb4'); have HX4 := Lib.hid (HX3.out.on hb4'); have HY4 := Lib.hid (HY3.out.on hb4'); clear hb4 hb4')
    | (go_at_call 7; refine (HP3.out _ (HE.out.on HB2.out)).mono ?_; rintro e w3 ⟨rfl, hb3⟩; have hb3' := hb3.trans ((below1 w3 (.cells (rqC 0 ⟨#[]⟩ 0 kpZ 0 lpZ) 33)).mono hb3.size); have HB3 := Lib.hid (HB2.out.trans (hb3'.mono HB2.out.size)); have HM3 := Lib.hid (HM2.out.on hb3'); have HX3 := Lib.hid (HX2.out.on hb3'); have HY3 := Lib.hid (HY2.out.on hb3'); clear hb3 hb3')
    | (go_at_call 7; refine (HP2.out _ (HE.out.on HB1.out)).mono ?_; rintro e w2 ⟨cl2, lp2, rfl, hpb, hb2⟩; have hb2' := hb2.trans ((below1 w2 (.cells (rqC 1 exLow 0 cl2 0 lp2) 33)).mono hb2.size); have HB2 := Lib.hid (HB1.out.trans (hb2'.mono HB1.out.size)); have HM2 := Lib.hid (HM1.out.on hb2'); have HX2 := Lib.hid (HX1.out.on hb2'); have HY2 := Lib.hid (Bk.new w2 33 (rqC 1 exLow 0 cl2 0 lp2)); clear hb2 hb2')
    | (go_at_call 7; refine (HP1.out _ HE.out).mono ?_; rintro e w1 ⟨cl, lp, rfl, hq, hl, hm, hb1⟩; have HB1 := Lib.hid (hb1.trans ((below1 w1 (.cells (rqC 1 exLow 5 cl 0 lp) 33)).mono hb1.size)); have HM1 := Lib.hid (hm.out.on (below1 w1 (.cells (rqC 1 exLow 5 cl 0 lp) 33))); have HX1 := Lib.hid (Bk.new w1 33 (rqC 1 exLow 5 cl 0 lp)); have hpa := Lib.hid (show cl.head.pred = ⟨#[112]⟩ from (show cl.q.head.pred = _ by rw [hq.out]; rfl)); clear hb1 hm)
    | (refine wpL_load (by rfl) 33 (.tmp 1) rfl _ 0 rfl (rqC 1 exLow 5 cl 0 lp).toList d HX6.out.range hu hd (by rw [hz]; rfl) ?_; simp only [Array.toArray_toList])
    | (refine wpL_load (by rfl) 33 (.tmp 1) rfl _ 0 rfl (rqC 1 exLow 5 cl 0 lp).toList d HX5.out.range hu hd (by rw [hz]; rfl) ?_; simp only [Array.toArray_toList]))
  go_ret
  exact ⟨rfl, HB7.out⟩
end Go.Proofs.YtfmkfabbiifolaaGreatDoor

/-
  What every statement of this seat needs: what the listed variables give ('Env'), the start that meets the condition.
-/
namespace Go.Proofs.YtfmkfabbiifolaaGreatDoor
open Go.ChangeShapes Go.WideShapes Go.ChangeAt Go.WideMaps Go.WideElems Go.RowKit
open Go.ChangeMaps (open_string shut_string)

theorem laidOut : laidOutB Tryz.prog = true := by kernel_rfl
theorem own : ownKnob Tryz.prog.godebug = none := by kernel_rfl
def laid5 : List (String × DataW Unit) := [("math/bits.deBruijn32tab", Rows.laid_math_bits_deBruijn32tab), ("math/bits.deBruijn64tab", Rows.laid_math_bits_deBruijn64tab), ("internal/strconv.uint64pow10", Rows.laid_internal_strconv_uint64pow10), ("strconv.ErrRange", Rows.laid_strconv_ErrRange), ("strconv.ErrSyntax", Rows.laid_strconv_ErrSyntax)]

theorem star : "*" ++ "errors.errorString" = "*errors.errorString" := by decide
theorem rowPtr (u : TypeId) (h : Tryz.prog.typeName? 3 u = some "*errors.errorString") : u = 182 :=
  typeName_ptr_named (nm := "errors.errorString") (by rw [star]; kernel_rfl) (by kernel_rfl) (by decide) u (by rw [star]; exact h)
theorem env_of_laid {W : World} (h : laidMetH Tryz.prog laid5 W) : Env W := by
  rw [MakeChecks.laidMetH_plain _ _ _ (by kernel_rfl)] at h
  have h3 := (h.tail).tail
  have h4 := h3.tail
  have h5 := h4.tail
  obtain ⟨a, s, ha, _, _, _⟩ := laid_sentinel h4 (g := 3) (by kernel_rfl) (by kernel_rfl) Tryz.underlying115 rowPtr Tryz.underlying182 Tryz.underlying184 rfl rfl Tryz.underlying9 (by kernel_rfl) (by kernel_rfl)
  obtain ⟨b, t, hb, _, _, _⟩ := laid_sentinel h5 (g := 2) (by kernel_rfl) (by kernel_rfl) Tryz.underlying115 rowPtr Tryz.underlying182 Tryz.underlying184 rfl rfl Tryz.underlying9 (by kernel_rfl) (by kernel_rfl)
  have ht : Lib.TabIs Tryz.prog W "internal/strconv.uint64pow10" .u64 Lib.pow10Tab := Lib.tabIs_of_head (g := 1) (t := 171) (e := 156) (n := 20) (rest := [("strconv.ErrRange", Rows.laid_strconv_ErrRange), ("strconv.ErrSyntax", Rows.laid_strconv_ErrSyntax)]) (by kernel_rfl) (by kernel_rfl) Tryz.underlying171 Tryz.underlying156 (by kernel_rfl) (by kernel_rfl) h3
  exact ⟨ht, ⟨_, _, hb⟩, ⟨_, _, ha⟩⟩
theorem door_met (os : Os) (args : Array Value) : laidMetH Tryz.prog laid5 ((World.doorLaid Tryz.prog 400 os).forCall (fun _ _ => 0) ⟨#[], args, []⟩).memory :=
  laidMetH_of_parts3 (fuel := 8) (laidMet_of_run' 8 (by kernel_rfl) (by kernel_rfl)) (by kernel_rfl) (by kernel_rfl)
end Go.Proofs.YtfmkfabbiifolaaGreatDoor
