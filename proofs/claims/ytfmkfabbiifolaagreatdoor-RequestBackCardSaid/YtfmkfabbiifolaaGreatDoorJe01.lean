/-
  Joined of: QuA, Rop.
-/
import Derived.Test.YtfmkfabbiifolaaGreatDoorJc01
import Derived.Test.YtfmkfabbiifolaaGreatDoorJa31
import Derived.Test.YtfmkfabbiifolaaGreatDoorJa29
set_option linter.unusedVariables false
set_option linter.unusedSimpArgs false
/-
  What is asked of a clause hangs on what it says, not on where it lies; a copy of what came in may be handed on.
-/
namespace Go.Proofs.YtfmkfabbiifolaaGreatDoor
open Go.RowKit

theorem kq_len {a b : Kp} (h : a.q = b.q) : a.body.length = b.body.length := by
  have := congrArg (fun x : Cq => x.body.length) h
  simpa [Kp.q] using this
theorem kq_head {a b : Kp} (h : a.q = b.q) : a.head.q = b.head.q := congrArg Cq.head h
theorem kq_body {a b : Kp} (h : a.q = b.q) : a.body.map Lp.q = b.body.map Lp.q := congrArg Cq.body h
theorem check_eq {a b : Kp} (h : a.q = b.q) : a.check = b.check := by rw [check_q a, check_q b, h]
theorem txt_eq {a b : Kp} (h : a.q = b.q) : a.txt = b.txt := by rw [txt_q a, txt_q b, h]
theorem lit_arg {w w' : World} {l d : Lp} (h : l.Arg w) (hq : d.q = l.q) (hm : Tms w' w'.heap.size d.ptr d.args) : d.Arg w' := by
  have e1 : d.who = l.who := congrArg Lq.who hq
  have e2 : d.pred = l.pred := congrArg Lq.pred hq
  have e3 : d.args = l.args := congrArg Lq.args hq
  exact ⟨⟨hm, e3 ▸ h.isin.len, e1 ▸ h.isin.who, e2 ▸ h.isin.pred, e3 ▸ h.isin.sz⟩, ⟨e1 ▸ h.nb.who, e3 ▸ h.nb.args⟩, e3 ▸ h.sz⟩
theorem kp_arg {w w' : World} {k d : Kp} (h : k.Arg w) (hq : d.q = k.q) (hm : ClMem w' d) : d.Arg w' := by
  refine ⟨lit_arg h.head (kq_head hq) hm.head, hm.body, fun l hl => ?_, by rw [kq_len hq]; exact h.sz⟩
  have h1 : l.q ∈ k.body.map Lp.q := (kq_body hq) ▸ List.mem_map_of_mem hl
  obtain ⟨l', h2, h3⟩ := List.mem_map.1 h1
  exact lit_arg (h.each l' h2) h3.symm (hm.each l hl)
theorem kp_size {w : World} {k : Kp} (h : k.Arg w) : k.head.args.length * 40 ≤ 140737488355328 ∧ k.body.length * 88 ≤ 140737488355328 ∧ ∀ l ∈ k.body, l.args.length * 40 ≤ 140737488355328 :=
  ⟨Nat.le_trans h.head.sz (by decide), Nat.le_trans h.sz (by decide), fun l hl => Nat.le_trans (h.each l hl).sz (by decide)⟩
end Go.Proofs.YtfmkfabbiifolaaGreatDoor

/-
  Reading an argument that is a request, with what its sizes are held to.
-/
set_option linter.unusedVariables false
set_option linter.unusedSimpArgs false
namespace Go.Proofs.YtfmkfabbiifolaaGreatDoor
open Go.ChangeShapes Go.WideShapes Go.ChangeAt Go.WideMaps Go.WideElems Go.RowKit Go.Joins Go.Deep

theorem cellsReq : Tryz.prog.cellsOf 33 = 17 := by kernel_rfl
theorem cellsInt : Tryz.prog.cellsOf 3 = 1 := by kernel_rfl
theorem array17 {α : Type} {cs : Array α} (h : cs.size = 17) : ∃ c0 c1 c2 c3 c4 c5 c6 c7 c8 c9 c10 c11 c12 c13 c14 c15 c16, cs = #[c0, c1, c2, c3, c4, c5, c6, c7, c8, c9, c10, c11, c12, c13, c14, c15, c16] := by
  obtain ⟨l⟩ := cs
  match l, h with
  | [c0, c1, c2, c3, c4, c5, c6, c7, c8, c9, c10, c11, c12, c13, c14, c15, c16], _ => exact ⟨c0, c1, c2, c3, c4, c5, c6, c7, c8, c9, c10, c11, c12, c13, c14, c15, c16, rfl⟩
theorem list6 {α : Type} {l : List α} (h : l.length = 6) : ∃ a b c d e f, l = [a, b, c, d, e, f] := by
  match l, h with
  | [a, b, c, d, e, f], _ => exact ⟨a, b, c, d, e, f, rfl⟩
section
variable {H : Type} {enc : TypeId × Value → H} {W : World}
theorem one_intI {fuel : Nat} {a : Value} {x : DataW H × List MemPlace} (h : DataW.trod enc Tryz.prog W 0 (fun _ => true) true fuel 3 [a] = some x) :
    ∃ n : Int, a = .int .i64 n ∧ -9223372036854775808 ≤ n ∧ n ≤ 9223372036854775807 := by
  obtain ⟨n, e0, _, hn⟩ := DataW.trod_int Tryz.underlying3 h
  simp at e0
  have h2 := (Lit.wf_int_iff _ _).1 hn
  have h3 : IntKind.min .i64 = -9223372036854775808 := by decide
  have h4 : IntKind.max .i64 = 9223372036854775807 := by decide
  rw [h3, h4] at h2
  exact ⟨n, e0, h2⟩
theorem one_u8 {fuel : Nat} {a : Value} {x : DataW H × List MemPlace} (h : DataW.trod enc Tryz.prog W 0 (fun _ => true) true fuel 5 [a] = some x) :
    ∃ n : Int, a = .int .u8 n ∧ 0 ≤ n ∧ n ≤ 255 := by
  obtain ⟨n, e0, _, hn⟩ := DataW.trod_int Tryz.underlying5 h
  simp at e0
  have h2 := (Lit.wf_int_iff _ _).1 hn
  have h3 : IntKind.min .u8 = 0 := by decide
  have h4 : IntKind.max .u8 = 255 := by decide
  rw [h3, h4] at h2
  exact ⟨n, e0, h2⟩
/-- a request that came in -/
structure RqArg (kd : Int) (lb : ByteArray) (lf : Int) (cl : Kp) (no : Int) (lp : Lp) (W : World) : Prop where
  kd : 0 ≤ kd ∧ kd ≤ 255
  lb : lb.size ≤ 140737488351232
  lf : -9223372036854775808 ≤ lf ∧ lf ≤ 9223372036854775807
  no : -9223372036854775808 ≤ no ∧ no ≤ 9223372036854775807
  cl : cl.Arg W
  lp : lp.Arg W
theorem RqArg.on {kd : Int} {lb : ByteArray} {lf : Int} {cl : Kp} {no : Int} {lp : Lp} {w w' : World} (h : RqArg kd lb lf cl no lp w) (hb : Below w.heap.size w w') : RqArg kd lb lf cl no lp w' := ⟨h.kd, h.lb, h.lf, h.no, h.cl.on hb, h.lp.on hb⟩
set_option maxRecDepth 100000 in
theorem open_request {base : Nat} {v : Value} {d : DataW H} {p : List MemPlace} (hv : Value.okWide Tryz.prog W .any base 33 v) (h : DataW.Trod enc Tryz.prog W 0 (fun _ => true) true 33 v d p) (hw : Wt Tryz.prog 33 d) :
    ∃ kd lb lf cl no lp, v = .agg (rqC kd lb lf cl no lp) ∧ RqArg kd lb lf cl no lp W := by
  obtain ⟨cs, rfl, hsz⟩ := okWide_struct Tryz.underlying33 hv
  obtain ⟨c0, c1, c2, c3, c4, c5, c6, c7, c8, c9, c10, c11, c12, c13, c14, c15, c16, rfl⟩ := array17 (hsz.trans cellsReq)
  obtain ⟨fuel, hf⟩ := h
  obtain ⟨xs, n, _, hx, hl, hlen, hf⟩ := DataW.trod_struct Tryz.underlying33 hf
  obtain ⟨y0, y1, y2, y3, y4, y5, rfl⟩ := list6 (show xs.length = 6 from hlen)
  have h0 : DataW.trod enc Tryz.prog W 0 (fun _ => true) true n 5 (([c0, c1, c2, c3, c4, c5, c6, c7, c8, c9, c10, c11, c12, c13, c14, c15, c16].drop 0).take (Tryz.prog.cellsOf 5)) = some y0 := hf 0 _ rfl
  have h1 : DataW.trod enc Tryz.prog W 0 (fun _ => true) true n 9 (([c0, c1, c2, c3, c4, c5, c6, c7, c8, c9, c10, c11, c12, c13, c14, c15, c16].drop 1).take (Tryz.prog.cellsOf 9)) = some y1 := hf 1 _ rfl
  have h2 : DataW.trod enc Tryz.prog W 0 (fun _ => true) true n 2 (([c0, c1, c2, c3, c4, c5, c6, c7, c8, c9, c10, c11, c12, c13, c14, c15, c16].drop 2).take (Tryz.prog.cellsOf 2)) = some y2 := hf 2 _ rfl
  have h3 : DataW.trod enc Tryz.prog W 0 (fun _ => true) true n 31 (([c0, c1, c2, c3, c4, c5, c6, c7, c8, c9, c10, c11, c12, c13, c14, c15, c16].drop 3).take (Tryz.prog.cellsOf 31)) = some y3 := hf 3 _ rfl
  have h4 : DataW.trod enc Tryz.prog W 0 (fun _ => true) true n 3 (([c0, c1, c2, c3, c4, c5, c6, c7, c8, c9, c10, c11, c12, c13, c14, c15, c16].drop 10).take (Tryz.prog.cellsOf 3)) = some y4 := hf 4 _ rfl
  have h5 : DataW.trod enc Tryz.prog W 0 (fun _ => true) true n 28 (([c0, c1, c2, c3, c4, c5, c6, c7, c8, c9, c10, c11, c12, c13, c14, c15, c16].drop 11).take (Tryz.prog.cellsOf 28)) = some y5 := hf 5 _ rfl
  clear hf
  simp only [cellsU8, cellsS, cellsI, cellsInt, cellsClause, cellsLit, List.drop_succ_cons, List.drop_zero, List.take_succ_cons, List.take_zero] at h0 h1 h2 h3 h4 h5
  obtain ⟨rfl, _⟩ := Prod.mk.injEq _ _ _ _ ▸ hx
  have w1 : Wt Tryz.prog 9 y1.1 := hw.agg Tryz.underlying33 (j := 1) rfl rfl
  have w3 : Wt Tryz.prog 31 y3.1 := hw.agg Tryz.underlying33 (j := 3) rfl rfl
  have w5 : Wt Tryz.prog 28 y5.1 := hw.agg Tryz.underlying33 (j := 5) rfl rfl
  obtain ⟨kd, rfl, hk⟩ := one_u8 h0
  obtain ⟨lb, rfl, hb⟩ := one_str h1 w1
  obtain ⟨lf, rfl, hlf⟩ := one_int h2
  obtain ⟨no, rfl, hno⟩ := one_intI h4
  obtain ⟨l, he, hla⟩ := one_lit h5 w5
  obtain ⟨z0, z1, m, hx2, _, k0, k1⟩ := trod_struct2 Tryz.underlying31 h3
  have v0 : Wt Tryz.prog 28 z0.1 := by rw [hx2] at w3; exact w3.agg Tryz.underlying31 (j := 0) rfl rfl
  have v1 : Wt Tryz.prog 29 z1.1 := by rw [hx2] at w3; exact w3.agg Tryz.underlying31 (j := 1) rfl rfl
  simp only [cellsLit, cellssL] at k0 k1
  obtain ⟨l2, he2, hl2⟩ := one_lit (show DataW.trod enc Tryz.prog W 0 (fun _ => true) true m 28 [c3, c4, c5, c6, c7, c8] = some z0 from k0) v0
  obtain ⟨q, b, cc, rfl, hr, hz, hb2⟩ := open_lits (show DataW.trod enc Tryz.prog W 0 (fun _ => true) true m 29 [c9] = some z1 from k1) v1
  simp only [encL, List.cons.injEq, and_true] at he he2
  obtain ⟨rfl, rfl, rfl, rfl, rfl, rfl⟩ := he
  obtain ⟨rfl, rfl, rfl, rfl, rfl, rfl⟩ := he2
  exact ⟨kd, lb, lf, ⟨l2, q, cc, b⟩, no, l, rfl, hk, hb, hlf, hno, ⟨hl2, hr, hz, hb2⟩, hla⟩
end
end Go.Proofs.YtfmkfabbiifolaaGreatDoor
