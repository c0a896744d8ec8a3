/-
  Contract: chain.Head, of entries that may be.
-/
import Derived.Test.YtammglimobninaaDoorHbi
import Derived.Test.YtammglimobninaaDoorRbk
set_option linter.unusedVariables false
set_option linter.unusedSimpArgs false
namespace Go.Proofs.YtammglimobninaaDoor
open Go.RowKit Nm

/-- the sum that a head of the first k entries is cut from -/
def linkS (cut : Nat) (l : List En) : Nat → List UInt8
  | 0 => List.replicate 32 0
  | k + 1 => sumS ((linkS cut l k).take cut ++ bytesS k (l.getD k enZ))
theorem linkS_len (cut : Nat) (l : List En) : ∀ k, (linkS cut l k).length = 32
  | 0 => by simp [linkS]
  | k + 1 => sumS_len _
theorem linksC_one (cut count : Nat) (sum : List UInt8) : (linksC cut count sum).toArray.all (·.oneCell') = true := all_oneCell_toArray (by
  intro v hv
  simp only [linksC, List.mem_cons] at hv
  rcases hv with rfl | rfl | hv
  · rfl
  · rfl
  · obtain ⟨x, _, rfl⟩ := List.mem_map.1 hv; rfl)
theorem linksC_size (cut count : Nat) (sum : List UInt8) (h : sum.length = 32) : (linksC cut count sum).toArray.size = 34 := by simp [linksC, cells8_len, h]

/-- a struct of which only the first field is given, one cell -/
theorem built_first {P : Program} {t : TypeId} {fs : Array Field} {z : Array Value} {pl : List (Nat × Nat)} (hu : P.underlying t = some (.struct fs)) (hz : (P.info? t).bind (·.zero) = some (.agg z))
    (hp : fs.toList.mapM (fun f => (P.info? f.type).map fun i => (f.offset, i.size)) = some ((0, 1) :: pl)) (h0 : 0 < z.size) (v : Value) (hv : v.cells = #[v]) : P.built t [(0, v)] = some (z.setIfInBounds 0 v) := by
  unfold Program.built
  rw [hu]
  cases hi : P.info? t with
  | none => rw [hi] at hz; cases hz
  | some i =>
    rw [hi] at hz
    have hz' : i.zero = some (.agg z) := hz
    have h1 : (((0, 1) :: pl : List (Nat × Nat)).toArray)[0]? = some (0, 1) := by rw [List.getElem?_toArray]; rfl
    have hc : (Value.agg z).cells = z := rfl
    simp only [hz', hp, hc]
    unfold Instr.fill
    rw [h1]
    simp only [hv]
    have hcond : (decide ((#[v] : Array Value).size ≠ 1) || decide (0 + (#[v] : Array Value).size > z.size)) = false := by
      rw [Bool.or_eq_false_iff]
      exact ⟨rfl, decide_eq_false (by show ¬ (0 + 1 > z.size); omega)⟩
    rw [if_neg (by rw [hcond]; decide)]
    rfl
theorem wpList_alloc_as {P : Program} {ops : Array Oper} {rest : List Oper} {o : Oper} {a : Act} {w : World} {Q : Exit → Act → World → Prop} (hg : o.guard = none) (t : TypeId) (ho : o.op = .alloc t) (z : Array Value) (hz : (P.info? t).bind (·.zero) = some (.agg z))
    (h : wpList P ops Q rest (a.put o.dst (.pointer (some ⟨w.heap.size, 0, none⟩))) (w.alloc (.cells z t))) : wpList P ops Q (o :: rest) a w := by
  refine wpList_plain hg fun K hK => ?_
  cases hi : P.info? t with
  | none => rw [hi] at hz; cases hz
  | some i =>
    rw [hi] at hz
    have hz' : i.zero = some (.agg z) := hz
    unfold Oper.wp execOp
    simp only [ho]
    have hrun : (Instr.alloc t true (.tuple #[])).run P w = .ok (.pointer (some ⟨w.heap.size, 0, none⟩)) (w.alloc (.cells z t)) := by
      simp [Instr.alloc, zeroValue, typeInfo, hi, hz', newVar, newRow, Value.cells]
    simp only [Sem.run_bind, hrun, Result.andThen_ok, Sem.run_pure]
    exact hK _ _ h
theorem wpList_move_as {P : Program} {ops : Array Oper} {rest : List Oper} {o : Oper} {a : Act} {w : World} {Q : Exit → Act → World → Prop} (hg : o.guard = none) (x : Operand) (ho : o.op = .move x) (v : Value) (hx : a.eval x = v)
    (h : wpList P ops Q rest (a.put o.dst v) w) : wpList P ops Q (o :: rest) a w := by
  subst hx
  refine wpList_plain hg fun K hK => ?_
  unfold Oper.wp execOp
  simp only [ho, Sem.run_pure]
  exact hK _ _ h
theorem zero_links : (Tryd.prog.info? 73).bind (·.zero) = some (.agg (linksC 0 0 (List.replicate 32 0)).toArray) := by kernel_rfl
theorem built_links (cut : Nat) : Tryd.prog.built 73 [(0, .int .i64 cut)] = some (linksC cut 0 (List.replicate 32 0)).toArray := by
  rw [built_first (z := (linksC 0 0 (List.replicate 32 0)).toArray) (pl := [(1, 1), (2, 32)]) Tryd.underlying73 zero_links (by kernel_rfl) (by rw [linksC_size _ _ _ (by simp)]; omega) (.int .i64 cut) rfl]
  simp [linksC]

/-- what is kept in the loop -/
structure Hl (X w : World) (N cut k : Nat) (sum : List UInt8) : Prop where
  lb : Lb X N 73 [] [] cut k sum
  bel : Below w.heap.size w X
  far : w.heap.size ≤ N
theorem Hl.on {X X' w : World} {N cut k : Nat} {sum : List UInt8} (h : Hl X w N cut k sum) (hb : Below X.heap.size X X') : Hl X' w N cut k sum := ⟨h.lb.on hb, h.bel.trans (hb.mono h.bel.size), h.far⟩
theorem Hl.bound {X X' w : World} {N cut k k' : Nat} {sum sum' : List UInt8} (h : Hl X w N cut k sum) (hl : Lb X' N 73 [] [] cut k' sum') (ho : Only N X X') : Hl X' w N cut k' sum' :=
  ⟨hl, h.bel.trans ((ho.below (Nat.le_of_lt h.lb.bk.lt)).mono h.far), h.far⟩

set_option maxRecDepth 100000 in
set_option maxHeartbeats 4000000 in
theorem chead_good (cut : Nat) (q : Option Addr) (l : List En) (c : Nat) (w : World) (hE : Env w) (hL : Ens w q l) (hn : l.length < 1000000000000) (h1 : 1 ≤ cut) (h2 : cut ≤ 32) (hg : l.all goodB = true) :
    Calls Tryd.prog 16 #[.int .i64 cut, .slice q l.length c] w fun r w' => ∃ v' base, r = .returned (.tuple #[v', .int .i64 0]) ∧ w.heap.size ≤ base ∧ Acc w' base v' ((linkS cut l l.length).take cut) ∧ Below w.heap.size w w' := by
  have HE := Lib.hid hE
  have HL := Lib.hid hL
  have HG := Lib.hid hg
  have HN := Lib.hid hn
  have HCT := Lib.hid h2
  have HC := Lib.hid (show (decide (1 ≤ (cut : Int)) && decide ((cut : Int) ≤ 32)) = true by simp; omega)
  clear hE hL hg h1 h2
  go_enter Tryd.func16, Tryd.ntmps16
  go_upto_region 3 with (first
    | (go_at_call 36; refine (iscut_any cut _).mono ?_; rw [HC.out]; rintro r w1 ⟨rfl, rfl⟩)
    | (go_at_call 37; refine (allgood_any q l c _ HL.out (by have := HN.out; omega)).mono ?_; rw [HG.out]; rintro r w2 ⟨rfl, hb⟩; have HB := Lib.hid hb; clear hb))
  refine wp_region_list ?_
  refine wpList_move_as rfl _ rfl (.int .i64 cut) rfl ?_
  simp only [Act.put, List.setIfInBounds_toArray, List.set_cons_zero, List.set_cons_succ]
  refine wpList_build_as rfl 73 _ rfl (linksC cut 0 (List.replicate 32 0)).toArray (Eq.trans (congrArg (Tryd.prog.built 73) (show _ = [(0, Value.int .i64 cut)] from (by simp [Act.eval]))) (built_links cut)) ?_
  refine wpList_alloc_as rfl 73 rfl _ zero_links ?_
  refine wpList_store_row rfl 73 _ _ rfl _ _ rfl rfl _ _ (Bk.new _ _ _) (by rw [linksC_size _ _ _ (by simp)]; kernel_rfl) (by rw [linksC_size _ _ _ (by simp), linksC_size _ _ _ (by simp)]) (linksC_one _ _ _) ?_
  refine wpList_nil ?_
  rw [World.setRow_alloc_new]
  obtain ⟨zl, hzl⟩ : ∃ zl, zl = (linksC cut 0 (List.replicate 32 0)).toArray := ⟨_, rfl⟩
  have HH := Lib.hid (show Hl (w2.alloc (.cells (linksC cut 0 (List.replicate 32 0)).toArray 73)) w w2.heap.size cut 0 (linkS cut l 0) from
    ⟨⟨by simpa [linkS] using Bk.new w2 73 (linksC cut 0 (List.replicate 32 0)).toArray, linkS_len _ _ _⟩, HB.out.trans ((below1 w2 _).mono HB.out.size), HB.out.size⟩)
  generalize w2.alloc (.cells (linksC cut 0 (List.replicate 32 0)).toArray 73) = W0 at *
  generalize w2.heap.size = N at *
  (try simp only [Act.put])
  clear HB
  go_wp2_with fail
  go_loopw [21] (fun i wr => ∃ k : Nat, k ≤ l.length ∧ i = .int .i64 k ∧ Hl wr w N cut k (linkS cut l k)) (fun i _ => l.length - (intOf i).toNat)
  case atStart => exact ⟨0, by omega, rfl, HH.out⟩
  case round =>
    clear HH
    obtain ⟨k, hk, rfl, hh⟩ := hrel
    have HH := Lib.hid hh
    clear hh
    have w3 : (0 : Int) ≤ (k : Int) := by omega
    by_cases hlt : k < l.length
    · have w4 : (k : Int) < (l.length : Int) := by omega
      have HLW := Lib.hid (HL.out.on HH.out.bel)
      obtain ⟨b, off, rfl, hbl, hr⟩ := HLW.out.at k hlt
      have HR0 := Lib.hid hr
      have HK := Lib.hid (HL.out.ok l[k] (List.getElem_mem hlt))
      have HGD := Lib.hid (List.all_eq_true.1 HG.out _ (List.getElem_mem hlt))
      have HS := Lib.hid (show linkS cut l (k + 1) = sumS ((linkS cut l k).take cut ++ bytesS k l[k]) by simp [linkS, List.getD_eq_getElem?_getD, hlt])
      clear hr
      generalize l[k] = e at *
      obtain ⟨S, hS⟩ : ∃ S, Hid (S = linkS cut l (k + 1)) := ⟨_, Lib.hid rfl⟩
      have HS2 := Lib.hid (show Hid (S = sumS ((linkS cut l k).take cut ++ bytesS k e)) from Lib.hid (by rw [hS.out, HS.out]))
      clear HS
      generalize linkS cut l k = sum at *
      go_upto_region 7 with (first
        | (refine wpList_load_mid rfl 24 _ rfl b (off + k * 35) rfl _ _ HR0.out Tryd.underlying24 rfl (by rw [En.length]; kernel_rfl) ?_)
        | (refine wpList_store_row rfl 24 _ _ rfl _ _ rfl rfl _ _ (Bk.new _ _ _) (by rw [En.asize]; kernel_rfl) (by rw [En.asize]; rfl) (En.one _) ?_))
      rw [World.setRow_alloc_new]
      have HBK := Lib.hid (Bk.new wr 24 e.cells.toArray)
      have HH2 := Lib.hid (HH.out.on (below1 wr (.cells e.cells.toArray 24)))
      generalize wr.alloc (.cells e.cells.toArray 24) = WX at *
      (try simp only [Act.put])
      clear HR0 HH HLW
      go_wp2_with (first
        | (refine wpList_load_row rfl 24 _ rfl _ rfl _ _ _ _ HBK.out Tryd.underlying24 rfl (by rw [En.asize]; kernel_rfl) ?_)
        | (go_at_call 38; refine (bind_any N 73 [] [] cut k 0 sum rfl e HK.out HGD.out _ (HE.out.on HH2.out.bel HE.out.size) HH2.out.lb HCT.out (by have := HN.out; omega) S HS2.out).mono ?_; rintro r w5 ⟨rfl, hlb, ho⟩; have HH3 := Lib.hid (HH2.out.bound hlb ho); clear hlb ho))
      go_roundw
      case rel => exact ⟨k + 1, by omega, by go_num, by rw [← hS.out]; exact HH3.out⟩
      case measure => simp [intOf]; omega
    · obtain rfl : k = l.length := by omega
      go_wp2_with (first
        | (go_at_call 39; refine (lhead_any N 0 cut l.length (linkS cut l l.length) _ HH.out.lb.lk HCT.out).mono ?_; rintro r w6 ⟨v6, rfl, hA, hb⟩; have HA := Lib.hid hA; have HH6 := Lib.hid (HH.out.on hb); have HS6 := Lib.hid HH.out.bel.size; clear hA hb))
      exact bodyPost_ret (results_tmp2 rfl _ _ _) rfl ⟨_, _, rfl, HS6.out, HA.out, HH6.out.bel⟩
end Go.Proofs.YtammglimobninaaDoor
