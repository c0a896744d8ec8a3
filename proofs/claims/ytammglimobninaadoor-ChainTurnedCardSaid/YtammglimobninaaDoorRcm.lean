/-
  Both Clash, at any cut and any entries: Stg, Cls, Rha, Rsu, Rcl, Cno joined.
-/
import Derived.Test.YtammglimobninaaDoorHhd
import Derived.Test.YtammglimobninaaDoorRws
import Derived.Great.BuildSlice
import Derived.Test.YtammglimobninaaDoorHhb
import Derived.Test.YtammglimobninaaDoorHeq
import Derived.Deep.RegionHeld3
import Derived.Test.YtammglimobninaaDoorHrh
import Derived.Test.YtammglimobninaaDoorHbg
set_option linter.unusedVariables false
set_option linter.unusedSimpArgs false
namespace Go.Proofs.YtammglimobninaaDoor
open Go.RowKit Nm

/-- links -/
structure Ln where
  cut : Nat
  count : Nat
  sum : List UInt8
  len : sum.length = 32
def encL (x : Ln) : List Value := linksC x.cut x.count x.sum
theorem EL : Enc encL 34 := ⟨fun x => by simp [encL, linksC, cells8_len, x.len], by decide, fun x u hu => by
  simp only [encL, linksC, List.mem_cons] at hu
  rcases hu with rfl | rfl | hu
  · rfl
  · rfl
  · obtain ⟨y, _, rfl⟩ := List.mem_map.1 hu; rfl⟩
def lnS (cut : Nat) (l : List En) (k : Nat) : Ln := ⟨cut, k, linkS cut l k, linkS_len cut l k⟩
def stgS (cut : Nat) (l : List En) (n : Nat) : List Ln := (List.range n).map (lnS cut l)
theorem stgS_len (cut : Nat) (l : List En) (n : Nat) : (stgS cut l n).length = n := by simp [stgS]
theorem stgS_snoc (cut : Nat) (l : List En) (n : Nat) : flatE encL (stgS cut l (n + 1)) = flatE encL (stgS cut l n) ++ linksC cut n (linkS cut l n) := by
  rw [show stgS cut l (n + 1) = stgS cut l n ++ [lnS cut l n] by simp [stgS, List.range_succ], flatE_snoc]; rfl
theorem stgS_get (cut : Nat) (l : List En) (n k : Nat) (h : k < (stgS cut l n).length) : (stgS cut l n)[k] = lnS cut l k := by simp [stgS]
theorem Lk.of_rd {w : World} {q : Option Addr} {cut : Nat} {l : List En} {n k : Nat} (h : Rd encL 34 w w.heap.size q (stgS cut l n)) (hk : k < n) : ∃ b off, q = some ⟨b, off, none⟩ ∧ b < w.heap.size ∧ Lk w b (off + k * 34) cut k (linkS cut l k) := by
  obtain ⟨b, off, h1, h2, h3⟩ := h.at k (by rw [stgS_len]; exact hk)
  rw [stgS_get] at h3
  have h3' : ∀ (r : Nat) (u : Value), (linksC cut k (linkS cut l k))[r]? = some u → w.cell? ⟨b, off + k * 34 + r, none⟩ = some u := h3
  refine ⟨b, off, h1, h2, ⟨h3' 0 _ rfl, h3' 1 _ rfl, fun j v hv => ?_, linkS_len _ _ _⟩⟩
  have := h3' (j + 2) v hv
  rw [show off + k * 34 + (j + 2) = off + k * 34 + 2 + j by omega] at this
  exact this
theorem infoLn : (Tryd.prog.info? 73).map (fun i => (i.zero, i.size, i.bytes)) = some (some (.agg (linksC 0 0 (List.replicate 32 0)).toArray), 34, 48) := by kernel_rfl
/-- a slice of one struct -/
theorem wpList_one_row {P : Program} {ops : Array Oper} {rest : List Oper} {o : Oper} {a : Act} {w : World} {Q : Exit → Act → World → Prop} (hg : o.guard = none) (t e : TypeId) (x : Operand) (ho : o.op = .buildSlice t 1 #[(0, x)])
    (cs : Array Value) (s : Nat) (hx : a.eval x = .agg cs) (hcs : cs.size = s) (hs : 0 < s) (hs2 : s ≤ 1000) (ie : TypeInfo) (z : Value) (hu : P.underlying t = some (.slice e)) (hie : P.info? e = some ie) (hz : ie.zero = some z) (hsz : ie.size = s)
    (h : wpList P ops Q rest (a.put o.dst (.slice (some ⟨w.heap.size, 0, none⟩) 1 1)) (w.alloc (.cells cs e))) : wpList P ops Q (o :: rest) a w := by
  refine wpList_buildSlice hg t e 1 _ ho cs ie z hu hie hz (by rw [hsz]; omega) (by rw [hsz]; omega) ?_ h
  rw [hsz]
  have hv1 : ∀ v ∈ [Value.agg cs], v.cells.size = s := by
    intro v hv
    obtain rfl : v = .agg cs := by simpa using hv
    exact hcs
  have hw := Great.fill_whole hs [Value.agg cs] ((Array.range (1 * s)).map (z.cells[· % z.cells.size]!)) hv1 (by simp)
  have e1 : ([Value.agg cs].flatMap fun v => v.cells.toList).toArray = cs := by simp [Value.cells]
  rw [e1] at hw
  have e2 : ((#[(0, x)] : Array (Nat × Operand)).map fun (i, x) => (i, a.eval x)).toList = (([Value.agg cs].zipIdx 0).map fun x => (x.2, x.1)) := by simp [hx]
  rw [e2]
  exact hw

/-- what is kept in the loop: the links in block N, the row of what they were -/
structure Hks (X w : World) (N cut k : Nat) (sum : List UInt8) (v : Value) (xs : List Value) : Prop where
  hl : Hl X w N cut k sum
  row : X.ownsRow (N + 1) 73 34 v (k + 1) xs
theorem ownsRow_only {w w' : World} {N base E k n : Nat} {v : Value} {xs : List Value} (h : w.ownsRow base E k v n xs) (hb : N < base) (ho : Only N w w') : w'.ownsRow base E k v n xs := by
  obtain ⟨h1, h2⟩ := h
  refine ⟨h1, ?_⟩
  rcases h2 with h2 | ⟨g, cap, cur, h3, h4, h5, h6⟩
  · exact .inl h2
  · refine .inr ⟨g, cap, cur, h3, h4, ?_, h6⟩
    rw [ho.block g (Array.getElem?_eq_some_iff.1 h5).1 (by omega)]; exact h5
theorem Hl.below {X X' w : World} {N cut k : Nat} {sum : List UInt8} (h : Hl X w N cut k sum) (hb : Below (N + 1) X X') : Hl X' w N cut k sum :=
  ⟨⟨h.lb.bk.below hb (Nat.lt_succ_self _), h.lb.len⟩, h.bel.trans (hb.mono (by have := h.far; omega)), h.far⟩

set_option maxRecDepth 100000 in
set_option maxHeartbeats 4000000 in
theorem stages_good (cut : Nat) (q : Option Addr) (l : List En) (c : Nat) (w : World) (hE : Env w) (hL : Ens w q l) (hn : l.length ≤ 1000) (h2 : cut ≤ 32) (hg : l.all goodB = true) :
    Calls Tryd.prog 43 #[.int .i64 cut, .slice q l.length c] w fun r w' => ∃ q' c', r = .returned (.slice q' (l.length + 1) c') ∧ Rd encL 34 w' w'.heap.size q' (stgS cut l (l.length + 1)) ∧ Below w.heap.size w w' := by
  have HE := Lib.hid hE
  have HL := Lib.hid hL
  have HG := Lib.hid hg
  have HN := Lib.hid hn
  have HCT := Lib.hid h2
  obtain ⟨i, hi, hz0, hz1, hz2⟩ := info_parts infoLn
  have HI := Lib.hid (show Tryd.prog.info? 73 = some i ∧ i.zero = some (.agg (linksC 0 0 (List.replicate 32 0)).toArray) ∧ i.size = 34 ∧ i.bytes = 48 from ⟨hi, hz0, hz1, hz2⟩)
  have HZ := Lib.hid (show (Value.agg (linksC 0 0 (List.replicate 32 0)).toArray).cells.size = 34 from linksC_size _ _ _ (by simp))
  clear hE hL hg h2 hi hz0 hz1 hz2
  go_enter Tryd.func43, Tryd.ntmps43
  go_upto_region 1 with fail
  refine wp_region_list ?_
  refine wpList_move_as rfl _ rfl (.int .i64 cut) rfl ?_
  simp only [Act.put, List.setIfInBounds_toArray, List.set_cons_zero, List.set_cons_succ]
  refine wpList_build_as rfl 73 _ rfl (linksC cut 0 (List.replicate 32 0)).toArray (Eq.trans (congrArg (Tryd.prog.built 73) (show _ = [(0, Value.int .i64 cut)] from (by simp [Act.eval]))) (built_links cut)) ?_
  refine wpList_alloc_as rfl 73 rfl _ zero_links ?_
  refine wpList_store_row rfl 73 _ _ rfl _ _ rfl rfl _ _ (Bk.new _ _ _) (by rw [linksC_size _ _ _ (by simp)]; kernel_rfl) (by rw [linksC_size _ _ _ (by simp), linksC_size _ _ _ (by simp)]) (linksC_one _ _ _) ?_
  refine wpList_nil ?_
  rw [World.setRow_alloc_new]
  have HH := Lib.hid (show Hl (w.alloc (.cells (linksC cut 0 (List.replicate 32 0)).toArray 73)) w w.heap.size cut 0 (linkS cut l 0) from
    ⟨⟨by simpa [linkS] using Bk.new w 73 (linksC cut 0 (List.replicate 32 0)).toArray, linkS_len _ _ _⟩, below1 w _, Nat.le_refl _⟩)
  have HSZ := Lib.hid (show (w.alloc (.cells (linksC cut 0 (List.replicate 32 0)).toArray 73)).heap.size = w.heap.size + 1 by simp)
  generalize w.alloc (.cells (linksC cut 0 (List.replicate 32 0)).toArray 73) = W0 at *
  obtain ⟨N, hN⟩ : ∃ N, N = w.heap.size := ⟨_, rfl⟩
  rw [← hN] at HH HSZ ⊢
  have HNW := Lib.hid hN
  clear hN
  (try simp only [Act.put])
  have HB0 := Lib.hid (show W0.heap[N]? = some (.cells (linksC cut 0 (linkS cut l 0)).toArray 73 (0, 0)) by have := HH.out.lb.bk; simpa [Bk] using this)
  have HLS := Lib.hid (linksC_size cut 0 (linkS cut l 0) (linkS_len _ _ _))
  go_upto_region 3 with (first
    | (refine wpList_load_row rfl 73 _ rfl N rfl _ _ _ _ HB0.out Tryd.underlying73 rfl (by rw [HLS.out]; kernel_rfl) ?_)
    | (refine wpList_one_row rfl 78 73 _ rfl (linksC cut 0 (linkS cut l 0)).toArray 34 rfl HLS.out (by decide) (by decide) i _ Tryd.underlying78 HI.out.1 HI.out.2.1 HI.out.2.2.1 ?_))
  have HS0 := Lib.hid (show Hks (W0.alloc (.cells (linksC cut 0 (linkS cut l 0)).toArray 73)) w N cut 0 (linkS cut l 0) (.slice (some ⟨W0.heap.size, 0, none⟩) 1 1) (flatE encL (stgS cut l 1)) from
    ⟨HH.out.on (below1 _ _), by
      rw [stgS_snoc]
      refine ⟨by simp [flatE, stgS, linksC, cells8_len, linkS_len], .inr ⟨W0.heap.size, 1, _, rfl, by rw [HSZ.out]; exact Nat.le_refl _, Bk.new W0 73 (linksC cut 0 (linkS cut l 0)).toArray, Nat.le_refl _, by decide, by rw [HLS.out], ?_⟩⟩
      simp [flatE, stgS, linksC, cells8_len, linkS_len]
      exact List.take_of_length_le (by rw [cells8_len, linkS_len]; exact Nat.le_refl _)⟩)
  generalize W0.alloc (.cells (linksC cut 0 (linkS cut l 0)).toArray 73) = W1 at *
  generalize W0.heap.size = M at *
  clear HB0 HLS HH HSZ
  (try simp only [Act.put])
  go_wp2_with fail
  go_loopw [6, 15] (fun v i wr => ∃ k : Nat, k ≤ l.length ∧ i = .int .i64 k ∧ Hks wr w N cut k (linkS cut l k) v (flatE encL (stgS cut l (k + 1)))) (fun _ i _ => l.length - (intOf i).toNat)
  case atStart => exact ⟨0, by omega, rfl, HS0.out⟩
  case round =>
    clear HS0
    obtain ⟨k, hk, rfl, hh⟩ := hrel
    have HH := Lib.hid hh
    clear hh
    have w3 : (0 : Int) ≤ (k : Int) := by omega
    by_cases hlt : k < l.length
    · have w4 : (k : Int) < (l.length : Int) := by omega
      have HLW := Lib.hid (HL.out.on HH.out.hl.bel)
      obtain ⟨b, off, rfl, hbl, hr⟩ := HLW.out.at k hlt
      have HR0 := Lib.hid hr
      have HK := Lib.hid (HL.out.ok l[k] (List.getElem_mem hlt))
      have HGD := Lib.hid (List.all_eq_true.1 HG.out _ (List.getElem_mem hlt))
      have HS := Lib.hid (show linkS cut l (k + 1) = sumS ((linkS cut l k).take cut ++ bytesS k l[k]) by simp [linkS, List.getD_eq_getElem?_getD, hlt])
      have HSN := Lib.hid (stgS_snoc cut l (k + 1))
      clear hr
      generalize l[k] = e at *
      obtain ⟨S, hS⟩ : ∃ S, Hid (S = linkS cut l (k + 1)) := ⟨_, Lib.hid rfl⟩
      have HS2 := Lib.hid (show Hid (S = sumS ((linkS cut l k).take cut ++ bytesS k e)) from Lib.hid (by rw [hS.out, HS.out]))
      have HSL := Lib.hid (show S.length = 32 by rw [hS.out]; exact linkS_len _ _ _)
      rw [← hS.out] at HSN
      clear HS
      generalize linkS cut l k = sum at *
      generalize flatE encL (stgS cut l (k + 1)) = xs at *
      go_upto_region 6 with (first
        | (refine wpList_load_mid rfl 24 _ rfl b (off + k * 35) rfl _ _ HR0.out Tryd.underlying24 rfl (by rw [En.length]; kernel_rfl) ?_)
        | (refine wpList_store_row rfl 24 _ _ rfl _ _ rfl rfl _ _ (Bk.new _ _ _) (by rw [En.asize]; kernel_rfl) (by rw [En.asize]; rfl) (En.one _) ?_))
      rw [World.setRow_alloc_new]
      have HBK := Lib.hid (Bk.new wr 24 e.cells.toArray)
      have HH2 := Lib.hid (show Hl (wr.alloc (.cells e.cells.toArray 24)) w N cut k sum ∧ (wr.alloc (.cells e.cells.toArray 24)).ownsRow (N + 1) 73 34 _ (k + 1) xs from ⟨HH.out.hl.on (below1 wr (.cells e.cells.toArray 24)), owns_on HH.out.row (below1 wr _) (Nat.le_refl _)⟩)
      generalize wr.alloc (.cells e.cells.toArray 24) = WX at *
      (try simp only [Act.put])
      clear HR0 HH HLW
      go_upto_region 7 with (first
        | (refine wpList_load_row rfl 24 _ rfl _ rfl _ _ _ _ HBK.out Tryd.underlying24 rfl (by rw [En.asize]; kernel_rfl) ?_)
        | (go_at_call 38; refine (bind_any N 73 [] [] cut k 0 sum rfl e HK.out HGD.out _ (HE.out.on HH2.out.1.bel HE.out.size) HH2.out.1.lb HCT.out (by have := HN.out; omega) S HS2.out).mono ?_; rintro r w5 ⟨rfl, hlb, ho⟩; have HH3 := Lib.hid (show Hl w5 w N cut (k + 1) S ∧ w5.ownsRow (N + 1) 73 34 _ (k + 1) xs from ⟨HH2.out.1.bound hlb ho, ownsRow_only HH2.out.2 (Nat.lt_succ_self _) ho⟩); clear hlb ho))
      have HB5 := Lib.hid (show w5.heap[N]? = some (.cells (linksC cut (k + 1) S).toArray 73 (0, 0)) by have := HH3.out.1.lb.bk; simpa [Bk] using this)
      have HLS := Lib.hid (linksC_size cut (k + 1) S HSL.out)
      have HLL := Lib.hid (show (linksC cut (k + 1) S).length = 1 * 34 by simp [linksC, cells8_len, HSL.out])
      clear HBK HH2
      go_wp2_with (first
        | (refine wpList_append_grw rfl _ _ 78 rfl (N + 1) 73 i _ 34 48 Tryd.underlying78 HI.out.1 HI.out.2.1 HI.out.2.2.1 HI.out.2.2.2 HZ.out (by decide) _ (k + 1) xs rfl (.inr (owns_on HH3.out.2 (below1 w5 (.cells (linksC cut (k + 1) S).toArray 73)) (Nat.le_refl _))) ⟨w5.heap.size, 0, none⟩ 1 1 (linksC cut (k + 1) S) rfl HLL.out (fun j u hu => by rw [Addr.add_lit, Nat.zero_add]; exact (Bk.new w5 73 (linksC cut (k + 1) S).toArray).cell j u (by rw [List.toList_toArray]; exact hu)) (EL.one ⟨cut, k + 1, S, HSL.out⟩) (by decide) (by have := HN.out; unfold maxLen; omega) (by have := HN.out; omega) (by have := HH3.out.1.lb.bk.lt; simp; omega) ?_; intro g cap w7 hown hb7 hg7 hlt7; have HH7 := Lib.hid (show Hks w7 w N cut (k + 1) S (.slice (some ⟨g, 0, none⟩) (k + 1 + 1) cap) (flatE encL (stgS cut l (k + 1 + 1))) from ⟨(HH3.out.1.on (below1 w5 _)).below hb7, by rw [HSN.out]; exact hown⟩); clear hown hb7 hg7 hlt7)
        | (refine wpList_load_row rfl 73 _ rfl N rfl _ _ _ _ HB5.out Tryd.underlying73 rfl (by rw [HLS.out]; kernel_rfl) ?_)
        | (refine wpList_one_row rfl 78 73 _ rfl (linksC cut (k + 1) S).toArray 34 rfl HLS.out (by decide) (by decide) i _ Tryd.underlying78 HI.out.1 HI.out.2.1 HI.out.2.2.1 ?_))
      go_roundw
      case rel => exact ⟨k + 1, by omega, by go_num, by rw [← hS.out]; exact HH7.out⟩
      case measure => simp [intOf]; omega
    · obtain rfl : k = l.length := by omega
      have hr := HH.out.row
      obtain ⟨hx, h0 | ⟨g, cap, cur, rfl, h1, h2', h3⟩⟩ := hr
      · omega
      have HRD := Lib.hid (rd_of_owns EL (l := stgS cut l (l.length + 1)) (cap := cap) (Array.getElem?_eq_some_iff.1 h2').1 (by rw [stgS_len]; exact ⟨hx, .inr ⟨g, cap, cur, rfl, h1, h2', h3⟩⟩))
      clear hx h1 h2' h3
      obtain ⟨wq, rfl⟩ : ∃ wq : World, wq = wr := ⟨_, rfl⟩
      go_wp2_with fail
      go_ret
      exact ⟨_, _, rfl, HRD.out, HH.out.hl.bel⟩

/-- what is summed for the k-th entry -/
def sumdS (cut : Nat) (l : List En) (k : Nat) : List UInt8 := (linkS cut l k).take cut ++ bytesS k (l.getD k enZ)
/-- what is summed, from the ends on -/
def prsS (cut : Nat) (a b : List En) : List (List UInt8 × List UInt8) := (List.range (min a.length b.length)).map fun i => (sumdS cut a (a.length - 1 - i), sumdS cut b (b.length - 1 - i))
/-- the first two that differ -/
def clsF : List (List UInt8 × List UInt8) → List UInt8 × List UInt8 × Bool
  | [] => ([], [], false)
  | p :: r => if (p.1 == p.2) = true then clsF r else (p.1, p.2, true)
theorem prs_len (cut : Nat) (a b : List En) : (prsS cut a b).length = min a.length b.length := by simp [prsS]
theorem prs_drop (cut : Nat) (a b : List En) (t : Nat) (h : t < min a.length b.length) : (prsS cut a b).drop t = (sumdS cut a (a.length - 1 - t), sumdS cut b (b.length - 1 - t)) :: (prsS cut a b).drop (t + 1) := by
  rw [List.drop_eq_getElem_cons (by rw [prs_len]; exact h)]
  simp [prsS]
theorem prs_end (cut : Nat) (a b : List En) : (prsS cut a b).drop (min a.length b.length) = [] := List.drop_eq_nil_of_le (by rw [prs_len]; exact Nat.le_refl _)
/-- the answer -/
def clsS (cut : Nat) (a b : List En) : List UInt8 × List UInt8 × Bool := if ((linkS cut a a.length).take cut == (linkS cut b b.length).take cut) = true then clsF (prsS cut a b) else ([], [], false)

/-- what is answered -/
structure ClR (w w' : World) (r : Ending) (R : List UInt8 × List UInt8 × Bool) : Prop where
  ex : ∃ p1 d1 p2 d2, r = .returned (.tuple #[.slice p1 R.1.length d1, .slice p2 R.2.1.length d2, .bool R.2.2]) ∧ Rd0 w' p1 R.1 ∧ Rd0 w' p2 R.2.1 ∧ R.1.length ≤ d1 ∧ R.2.1.length ≤ d2
  bel : Below w.heap.size w w'
theorem ClR.no {w w' : World} {R : List UInt8 × List UInt8 × Bool} (h : R = ([], [], false)) (hb : Below w.heap.size w w') : ClR w w' (.returned (.tuple #[.slice none 0 0, .slice none 0 0, .bool false])) R := by
  subst h; exact ⟨⟨none, 0, none, 0, rfl, .inl rfl, .inl rfl, Nat.le_refl _, Nat.le_refl _⟩, hb⟩
theorem ClR.yes {w w' : World} {R : List UInt8 × List UInt8 × Bool} {X Y : List UInt8} {p1 p2 : Option Addr} {d1 d2 : Nat} (h : R = (X, Y, true)) (h1 : Rd0 w' p1 X) (h2 : Rd0 w' p2 Y) (h3 : X.length ≤ d1) (h4 : Y.length ≤ d2) (hb : Below w.heap.size w w') : ClR w w' (.returned (.tuple #[.slice p1 X.length d1, .slice p2 Y.length d2, .bool true])) R := by
  subst h; exact ⟨⟨p1, d1, p2, d2, rfl, h1, h2, h3, h4⟩, hb⟩
/-- what is kept -/
structure Ci (X w : World) (q1 : Option Addr) (a : List En) (q2 : Option Addr) (b : List En) (p1 p2 : Option Addr) (cut : Nat) : Prop where
  ea : Ens X q1 a
  eb : Ens X q2 b
  s1 : Rd encL 34 X X.heap.size p1 (stgS cut a (a.length + 1))
  s2 : Rd encL 34 X X.heap.size p2 (stgS cut b (b.length + 1))
  bel : Below w.heap.size w X
theorem Ci.on {X X' w : World} {q1 : Option Addr} {a : List En} {q2 : Option Addr} {b : List En} {p1 p2 : Option Addr} {cut : Nat} (h : Ci X w q1 a q2 b p1 p2 cut) (hb : Below X.heap.size X X') : Ci X' w q1 a q2 b p1 p2 cut :=
  ⟨h.ea.on hb, h.eb.on hb, h.s1.grow hb, h.s2.grow hb, h.bel.trans (hb.mono h.bel.size)⟩

set_option maxRecDepth 100000 in
set_option maxHeartbeats 8000000 in
theorem cclash_good (cut : Nat) (q1 : Option Addr) (a : List En) (c1 : Nat) (q2 : Option Addr) (b : List En) (c2 : Nat) (w : World) (hE : Env w) (hA : Ens w q1 a) (hB : Ens w q2 b) (hna : a.length ≤ 1000) (hnb : b.length ≤ 1000) (h0a : 0 < a.length) (h0b : 0 < b.length) (h1 : 1 ≤ cut) (h2 : cut ≤ 32) (hga : a.all goodB = true) (hgb : b.all goodB = true) :
    Calls Tryd.prog 20 #[.int .i64 cut, .slice q1 a.length c1, .slice q2 b.length c2] w fun r w' => ClR w w' r (clsS cut a b) := by
  have HE := Lib.hid hE
  have HA := Lib.hid hA
  have HB := Lib.hid hB
  have HGA := Lib.hid hga
  have HGB := Lib.hid hgb
  have HNA := Lib.hid hna
  have HNB := Lib.hid hnb
  have HCT := Lib.hid h2
  obtain ⟨R, hR⟩ : ∃ R, Hid (R = clsS cut a b) := ⟨_, Lib.hid rfl⟩
  rw [← hR.out]
  have HC := Lib.hid (show (decide (1 ≤ (cut : Int)) && decide ((cut : Int) ≤ 32)) = true by simp; omega)
  have z1 : ((a.length : Int) == 0) = false := by rw [beq_eq_false_iff_ne]; omega
  have z2 : ((b.length : Int) == 0) = false := by rw [beq_eq_false_iff_ne]; omega
  have g1 : IntKind.i64.wrap ((a.length : Int) - 1) = (a.length : Int) - 1 := IntWalk.i64_in _ (by omega)
  have g2 : IntKind.i64.wrap ((b.length : Int) - 1) = (b.length : Int) - 1 := IntWalk.i64_in _ (by omega)
  clear hE hA hB hga hgb h1 h2
  go_enter Tryd.func20, Tryd.ntmps20
  go_upto_region 3 with (first
    | (go_at_call 36; refine (iscut_any cut _).mono ?_; rw [HC.out]; rintro r w1 ⟨rfl, rfl⟩)
    | (go_at_call 37; refine (allgood_any q2 b c2 _ (HB.out.on HB1.out) (by have := HNB.out; omega)).mono ?_; rw [HGB.out]; rintro r w2 ⟨rfl, hb⟩; have HB2 := Lib.hid (HB1.out.trans (hb.mono HB1.out.size)); clear hb)
    | (go_at_call 37; refine (allgood_any q1 a c1 _ HA.out (by have := HNA.out; omega)).mono ?_; rw [HGA.out]; rintro r w1 ⟨rfl, hb⟩; have HB1 := Lib.hid hb; clear hb))
  go_upto_region 4 with (first
    | (go_at_call 43; refine (stages_good cut q2 b c2 _ (HE.out.on HB3.out.2.1 HE.out.size) (HB.out.on HB3.out.2.1) HNB.out HCT.out HGB.out).mono ?_; rintro r w4 ⟨p2, d2, rfl, hr, hb⟩; have HI := Lib.hid (show Ci w4 w q1 a q2 b p1 p2 cut from ⟨(HA.out.on HB3.out.2.1).on hb, (HB.out.on HB3.out.2.1).on hb, HB3.out.1.grow hb, hr, HB3.out.2.1.trans (hb.mono HB3.out.2.1.size)⟩); clear hr hb)
    | (go_at_call 43; refine (stages_good cut q1 a c1 _ (HE.out.on HB2.out HE.out.size) (HA.out.on HB2.out) HNA.out HCT.out HGA.out).mono ?_; rintro r w3 ⟨p1, d1, rfl, hr, hb⟩; have HB3 := Lib.hid (show Rd encL 34 w3 w3.heap.size p1 (stgS cut a (a.length + 1)) ∧ Below w.heap.size w w3 ∧ True from ⟨hr, HB2.out.trans (hb.mono HB2.out.size), trivial⟩); clear hr hb))
  clear HB1 HB2 HB3
  have HD := Lib.hid (HI.out.on (Below.refl _ _).drew)
  obtain ⟨b1, o1, rfl, _, hL1⟩ := Lk.of_rd HD.out.s1 (Nat.lt_succ_self a.length)
  obtain ⟨b2, o2, rfl, _, hL2⟩ := Lk.of_rd HD.out.s2 (Nat.lt_succ_self b.length)
  have HL1 := Lib.hid hL1
  have HL2 := Lib.hid hL2
  clear hL1 hL2 HI
  have x1 : (a.length : Int) < ((a.length + 1 : Nat) : Int) := by omega
  have x2 : (b.length : Int) < ((b.length + 1 : Nat) : Int) := by omega
  have x1' : (a.length : Int) < (a.length : Int) + 1 := by omega
  have x2' : (b.length : Int) < (b.length : Int) + 1 := by omega
  have y1 : (0 : Int) ≤ (a.length : Int) := by omega
  have y2 : (0 : Int) ≤ (b.length : Int) := by omega
  obtain ⟨SA, hSA⟩ : ∃ SA, Hid (SA = (linkS cut a a.length).take cut) := ⟨_, Lib.hid rfl⟩
  obtain ⟨SB, hSB⟩ : ∃ SB, Hid (SB = (linkS cut b b.length).take cut) := ⟨_, Lib.hid rfl⟩
  have HR := Lib.hid (show R = if (SA == SB) = true then clsF (prsS cut a b) else ([], [], false) by rw [hR.out, hSA.out, hSB.out]; rfl)
  have C1 := Lib.hid (fun X (h : Lk X b1 (o1 + a.length * 34) cut a.length (linkS cut a a.length)) => lhead_any b1 (o1 + a.length * 34) cut a.length (linkS cut a a.length) X h HCT.out)
  have C2 := Lib.hid (fun X (h : Lk X b2 (o2 + b.length * 34) cut b.length (linkS cut b b.length)) => lhead_any b2 (o2 + b.length * 34) cut b.length (linkS cut b b.length) X h HCT.out)
  rw [← hSA.out] at C1
  rw [← hSB.out] at C2
  refine wp_region_held_drew (S := fun _ => True) (by kernel_rfl) trivial (fun hHeld => ?_)
  refine wpAnyH_take (i := 0) (v := ?_) rfl (by kernel_rfl) (by kernel_rfl) (by kernel_rfl) (fun _ _ _ h => h) (Or.inl ⟨by rfl, ?hy⟩) (by assumption) ?_
  case hy =>
    intro w hSw
    go_simp
    all_goals with_reducible rfl
  (try simp only [Act.put, List.getElem_toArray, List.getElem_cons_succ, List.getElem_cons_zero, List.setIfInBounds_toArray, List.set_cons_zero, List.set_cons_succ])
  refine wpAnyH_take (i := 1) (v := ?_) rfl (by kernel_rfl) (by kernel_rfl) (by kernel_rfl) (fun _ _ _ h => h) (Or.inl ⟨by rfl, ?hy⟩) (by assumption) ?_
  case hy =>
    intro w hSw
    go_simp
    all_goals with_reducible rfl
  (try simp only [Act.put, List.getElem_toArray, List.getElem_cons_succ, List.getElem_cons_zero, List.setIfInBounds_toArray, List.set_cons_zero, List.set_cons_succ])
  refine wpAnyH_take (i := 2) (v := ?_) rfl (by kernel_rfl) (by kernel_rfl) (by kernel_rfl) (fun _ _ _ h => h) (Or.inl ⟨by rfl, ?hy⟩) (by assumption) ?_
  case hy =>
    intro w hSw
    go_simp
    all_goals with_reducible rfl
  (try simp only [Act.put, List.getElem_toArray, List.getElem_cons_succ, List.getElem_cons_zero, List.setIfInBounds_toArray, List.set_cons_zero, List.set_cons_succ])
  refine wpAnyH_take (i := 3) (v := ?_) rfl (by kernel_rfl) (by kernel_rfl) (by kernel_rfl) (fun _ _ _ h => h) (Or.inl ⟨by rfl, ?hy⟩) (by assumption) ?_
  case hy =>
    intro w hSw
    go_simp
    all_goals with_reducible rfl
  (try simp only [Act.put, List.getElem_toArray, List.getElem_cons_succ, List.getElem_cons_zero, List.setIfInBounds_toArray, List.set_cons_zero, List.set_cons_succ])
  refine wpAnyH_take (i := 5) (v := ?_) rfl (by kernel_rfl) (by kernel_rfl) (by kernel_rfl) (fun _ _ _ h => h) (Or.inl ⟨by rfl, ?hy⟩) (by assumption) ?_
  case hy =>
    intro w hSw
    go_simp
    all_goals with_reducible rfl
  (try simp only [Act.put, List.getElem_toArray, List.getElem_cons_succ, List.getElem_cons_zero, List.setIfInBounds_toArray, List.set_cons_zero, List.set_cons_succ])
  refine wpAnyH_take (i := 6) (v := ?_) rfl (by kernel_rfl) (by kernel_rfl) (by kernel_rfl) (fun _ _ _ h => h) (Or.inl ⟨by rfl, ?hy⟩) (by assumption) ?_
  case hy =>
    intro w hSw
    go_simp
    all_goals with_reducible rfl
  (try simp only [Act.put, List.getElem_toArray, List.getElem_cons_succ, List.getElem_cons_zero, List.setIfInBounds_toArray, List.set_cons_zero, List.set_cons_succ])
  refine wpAnyH_take (i := 7) (v := ?_) rfl (by kernel_rfl) (by kernel_rfl) (by kernel_rfl) (fun _ _ _ h => h) (Or.inl ⟨by rfl, ?hy⟩) (by assumption) ?_
  case hy =>
    intro w hSw
    go_simp
    all_goals with_reducible rfl
  (try simp only [Act.put, List.getElem_toArray, List.getElem_cons_succ, List.getElem_cons_zero, List.setIfInBounds_toArray, List.set_cons_zero, List.set_cons_succ])
  refine wpAnyH_take (i := 8) (v := ?_) rfl (by kernel_rfl) (by kernel_rfl) (by kernel_rfl) (fun _ _ _ h => h) (Or.inl ⟨by rfl, ?hy⟩) (by assumption) ?_
  case hy =>
    intro w hSw
    go_simp
    all_goals with_reducible rfl
  (try simp only [Act.put, List.getElem_toArray, List.getElem_cons_succ, List.getElem_cons_zero, List.setIfInBounds_toArray, List.set_cons_zero, List.set_cons_succ])
  refine wpAnyH_ready (rs := [4]) (by kernel_rfl) (by simp) ?_
  refine AllReadyH.cons rfl (fun K hK => ?_) AllReadyH.nil
  go_simp
  go_at_call 39
  refine (C1.out _ HL1.out).mono ?_
  rintro r w5 ⟨v5, rfl, hA, hb⟩
  obtain ⟨qa, ca, rfl, _, hRa⟩ := hA.rd
  have HRa := Lib.hid hRa
  have HD5 := Lib.hid (HD.out.on hb)
  have HL25 := Lib.hid (HL2.out.on hb)
  clear hA hb hRa
  refine hK.out _ _ (trivial) (fun hHeld => ?_)
  clear hK K
  (try simp only [Act.put, List.getElem_toArray, List.getElem_cons_succ, List.getElem_cons_zero, List.setIfInBounds_toArray, List.set_cons_zero, List.set_cons_succ])
  refine wpAnyH_ready (rs := [9]) (by kernel_rfl) (by simp) ?_
  refine AllReadyH.cons rfl (fun K hK => ?_) AllReadyH.nil
  go_simp
  go_at_call 39
  refine (C2.out _ HL25.out).mono ?_
  rintro r w6 ⟨v6, rfl, hA, hb⟩
  obtain ⟨qb, cb, rfl, _, hRb⟩ := hA.rd
  have HRR := Lib.hid (show Rd0 w6 qa SA ∧ Rd0 w6 qb SB from ⟨HRa.out.on hb, hRb⟩)
  have HD6 := Lib.hid (HD5.out.on hb)
  clear hA hb hRb
  refine hK.out _ _ (trivial) (fun hHeld => ?_)
  clear hK K
  (try simp only [Act.put, List.getElem_toArray, List.getElem_cons_succ, List.getElem_cons_zero, List.setIfInBounds_toArray, List.set_cons_zero, List.set_cons_succ])
  refine wpAnyH_ready (rs := [10]) (by kernel_rfl) (by simp) ?_
  refine AllReadyH.cons rfl (fun K hK => ?_) AllReadyH.nil
  go_simp
  go_at_call 42
  refine (equal_any qa qb SA SB ca cb _ HRR.out.1 HRR.out.2).mono ?_
  rcases Bool.eq_false_or_eq_true (SA == SB) with he | he
  · rw [he]
    rintro r w7 ⟨rfl, rfl⟩
    refine hK.out _ _ (trivial) (fun hHeld => ?_)
    clear hK K
    (try simp only [Act.put, List.getElem_toArray, List.getElem_cons_succ, List.getElem_cons_zero, List.setIfInBounds_toArray, List.set_cons_zero, List.set_cons_succ])
    refine wpAnyH_take (i := 11) (v := ?_) rfl (by kernel_rfl) (by kernel_rfl) (by kernel_rfl) (fun _ _ _ h => h) (Or.inl ⟨by rfl, ?hy⟩) (by assumption) ?_
    case hy =>
      intro w hSw
      go_simp
      all_goals with_reducible rfl
    (try simp only [Act.put, List.getElem_toArray, List.getElem_cons_succ, List.getElem_cons_zero, List.setIfInBounds_toArray, List.set_cons_zero, List.set_cons_succ])
    refine wpAnyH_done (by kernel_rfl) ?_ _
    have HR2 := Lib.hid (show R = clsF ((prsS cut a b).drop 0) by rw [HR.out, if_pos he, List.drop_zero])
    go_wp2_with fail
    go_loopw [11, 12] (fun i j wr => ∃ t : Nat, t ≤ min a.length b.length ∧ i = .int .i64 ((a.length : Int) - 1 - (t : Int)) ∧ j = .int .i64 ((b.length : Int) - 1 - (t : Int)) ∧ Hid (R = clsF ((prsS cut a b).drop t)) ∧ Ci wr w q1 a q2 b (some ⟨b1, o1, none⟩) (some ⟨b2, o2, none⟩) cut) (fun i _ _ => (intOf i + 1).toNat)
    case atStart => exact ⟨0, Nat.zero_le _, by simp, by simp, HR2, HD6.out⟩
    case round =>
      clear HR2 HD6 HRR HD HL1 HL2
      obtain ⟨t, ht, rfl, rfl, HT, hci⟩ := hrel
      have HI := Lib.hid hci
      clear hci
      by_cases hlt : t < min a.length b.length
      · have HDP := Lib.hid (prs_drop cut a b t hlt)
        obtain ⟨ka, hka⟩ : ∃ ka, ka = a.length - 1 - t := ⟨_, rfl⟩
        obtain ⟨kb, hkb⟩ : ∃ kb, kb = b.length - 1 - t := ⟨_, rfl⟩
        rw [← hka, ← hkb] at HDP
        have la : ka < a.length := by omega
        have lb : kb < b.length := by omega
        have ea : (a.length : Int) - 1 - (t : Int) = (ka : Int) := by omega
        have eb : (b.length : Int) - 1 - (t : Int) = (kb : Int) := by omega
        have ea2 : (a.length : Int) - 1 - ((t + 1 : Nat) : Int) = (ka : Int) - 1 := by omega
        have eb2 : (b.length : Int) - 1 - ((t + 1 : Nat) : Int) = (kb : Int) - 1 := by omega
        rw [ea, eb]
        have k0 : (0 : Int) ≤ (ka : Int) := by omega
        have k1 : (0 : Int) ≤ (kb : Int) := by omega
        have k2 : (ka : Int) < (a.length : Int) := by omega
        have k3 : (kb : Int) < (b.length : Int) := by omega
        have k4 : (ka : Int) < (a.length : Int) + 1 := by omega
        have k5 : (kb : Int) < (b.length : Int) + 1 := by omega
        have k6 : IntKind.i64.wrap ((ka : Int) - 1) = (ka : Int) - 1 := IntWalk.i64_in _ (by omega)
        have k7 : IntKind.i64.wrap ((kb : Int) - 1) = (kb : Int) - 1 := IntWalk.i64_in _ (by omega)
        clear hka hkb
        have HKA := Lib.hid (HI.out.ea.ok a[ka] (List.getElem_mem la))
        have HKB := Lib.hid (HI.out.eb.ok b[kb] (List.getElem_mem lb))
        have HGa := Lib.hid (List.all_eq_true.1 HGA.out _ (List.getElem_mem la))
        have HGb := Lib.hid (List.all_eq_true.1 HGB.out _ (List.getElem_mem lb))
        have HX := Lib.hid (show sumdS cut a ka = (linkS cut a ka).take cut ++ bytesS ka a[ka] by simp [sumdS, List.getD_eq_getElem?_getD, la])
        have HY := Lib.hid (show sumdS cut b kb = (linkS cut b kb).take cut ++ bytesS kb b[kb] by simp [sumdS, List.getD_eq_getElem?_getD, lb])
        have HKC := Lib.hid (show ka < 9223372036854775808 ∧ kb < 9223372036854775808 by have := HNA.out; have := HNB.out; omega)
        go_upto_region 9 with fail
        have HD9 := Lib.hid (HI.out.on (Below.refl _ _).drew)
        obtain ⟨ba, oa, rfl, _, hra⟩ := HD9.out.ea.at ka la
        obtain ⟨bb, ob, rfl, _, hrb⟩ := HD9.out.eb.at kb lb
        have HLA := Lib.hid (show Lk wr.drew b1 (o1 + ka * 34) cut ka (linkS cut a ka) by
          obtain ⟨x, y, e, _, h⟩ := Lk.of_rd HD9.out.s1 (show ka < a.length + 1 by omega)
          cases e; exact h)
        have HLB := Lib.hid (show Lk wr.drew b2 (o2 + kb * 34) cut kb (linkS cut b kb) by
          obtain ⟨x, y, e, _, h⟩ := Lk.of_rd HD9.out.s2 (show kb < b.length + 1 by omega)
          cases e; exact h)
        have HRG := Lib.hid (show wr.drew.rangeAt ba (oa + ka * 35) (a[ka]).cells ∧ wr.drew.rangeAt bb (ob + kb * 35) (b[kb]).cells from ⟨hra, hrb⟩)
        have HBL := Lib.hid (show ba < wr.drew.heap.size ∧ bb < wr.drew.heap.size from ⟨by assumption, by assumption⟩)
        clear hra hrb HI
        generalize a[ka] = xa at *
        generalize b[kb] = xb at *
        obtain ⟨X, hX⟩ : ∃ X, Hid (X = sumdS cut a ka) := ⟨_, Lib.hid rfl⟩
        obtain ⟨Y, hY⟩ : ∃ Y, Hid (Y = sumdS cut b kb) := ⟨_, Lib.hid rfl⟩
        rw [← hX.out] at HX HDP
        rw [← hY.out] at HY HDP
        have HRO := Lib.hid (fun (V V' : World) (hv : V.rangeAt ba (oa + ka * 35) xa.cells ∧ V.rangeAt bb (ob + kb * 35) xb.cells) (hl : ba < V.heap.size ∧ bb < V.heap.size) (hb : Below V.heap.size V V') => (show V'.rangeAt ba (oa + ka * 35) xa.cells ∧ V'.rangeAt bb (ob + kb * 35) xb.cells from
          ⟨fun j v hj => by rw [hb.cell (p := ⟨ba, oa + ka * 35 + j, none⟩) hl.1]; exact hv.1 j v hj, fun j v hj => by rw [hb.cell (p := ⟨bb, ob + kb * 35 + j, none⟩) hl.2]; exact hv.2 j v hj⟩))
        refine wp_region_held_drew (S := fun X => X.rangeAt ba (oa + ka * 35) xa.cells ∧ X.rangeAt bb (ob + kb * 35) xb.cells) (by kernel_rfl) HRG.out (fun hHeld => ?_)
        refine wpAnyH_take (i := 0) (v := ?_) rfl (by kernel_rfl) (by kernel_rfl) (by kernel_rfl) (fun _ _ _ h => h) (Or.inl ⟨by rfl, ?hy⟩) (by assumption) ?_
        case hy =>
          intro w hSw
          go_simp
          all_goals with_reducible rfl
        (try simp only [Act.put, List.getElem_toArray, List.getElem_cons_succ, List.getElem_cons_zero, List.setIfInBounds_toArray, List.set_cons_zero, List.set_cons_succ])
        refine wpAnyH_take (i := 1) (v := ?_) rfl (by kernel_rfl) (by kernel_rfl) (by kernel_rfl) (fun _ _ _ h => h) (Or.inl ⟨by rfl, ?hy⟩) (by assumption) ?_
        case hy =>
          intro w hSw
          go_simp
          all_goals with_reducible rfl
        (try simp only [Act.put, List.getElem_toArray, List.getElem_cons_succ, List.getElem_cons_zero, List.setIfInBounds_toArray, List.set_cons_zero, List.set_cons_succ])
        refine wpAnyH_take (i := 2) (v := ?_) rfl (by kernel_rfl) (by kernel_rfl) (by kernel_rfl) (fun _ _ _ h => h) (Or.inl ⟨by rfl, ?hy⟩) (by assumption) ?_
        case hy =>
          intro w hSw
          go_simp
          all_goals with_reducible rfl
        (try simp only [Act.put, List.getElem_toArray, List.getElem_cons_succ, List.getElem_cons_zero, List.setIfInBounds_toArray, List.set_cons_zero, List.set_cons_succ])
        refine wpAnyH_take (i := 3) (v := ?_) rfl (by kernel_rfl) (by kernel_rfl) (by kernel_rfl) (fun _ _ _ h => h) (Or.inl ⟨by rfl, ?hy⟩) (by assumption) ?_
        case hy =>
          intro w hSw
          go_simp
          all_goals with_reducible rfl
        (try simp only [Act.put, List.getElem_toArray, List.getElem_cons_succ, List.getElem_cons_zero, List.setIfInBounds_toArray, List.set_cons_zero, List.set_cons_succ])
        refine wpAnyH_take (i := 4) (v := ?_) rfl (by kernel_rfl) (by kernel_rfl) (by kernel_rfl) (fun _ _ _ h => h) (Or.inl ⟨by rfl, ?hy⟩) (by assumption) ?_
        case hy =>
          intro w hSw
          go_simp
          all_goals with_reducible rfl
        (try simp only [Act.put, List.getElem_toArray, List.getElem_cons_succ, List.getElem_cons_zero, List.setIfInBounds_toArray, List.set_cons_zero, List.set_cons_succ])
        refine wpAnyH_take (i := 5) (v := ?_) rfl (by kernel_rfl) (by kernel_rfl) (by kernel_rfl) (fun _ _ _ h => h) (Or.inl ⟨by rfl, ?hy⟩) (by assumption) ?_
        case hy =>
          intro w hSw
          go_simp
          all_goals with_reducible rfl
        (try simp only [Act.put, List.getElem_toArray, List.getElem_cons_succ, List.getElem_cons_zero, List.setIfInBounds_toArray, List.set_cons_zero, List.set_cons_succ])
        refine wpAnyH_take (i := 6) (v := .agg xa.cells.toArray) rfl (by kernel_rfl) (by kernel_rfl) (by kernel_rfl) (fun _ _ _ h => h) (yieldsIf_load_mid (by rfl) 24 (.tmp 75) rfl ba (oa + ka * 35) (by rfl) _ _ (fun _ h => h.1) Tryd.underlying24 rfl (by rw [En.length]; kernel_rfl)) (by assumption) ?_
        (try simp only [Act.put, List.getElem_toArray, List.getElem_cons_succ, List.getElem_cons_zero, List.setIfInBounds_toArray, List.set_cons_zero, List.set_cons_succ])
        refine wpAnyH_take (i := 8) (v := ?_) rfl (by kernel_rfl) (by kernel_rfl) (by kernel_rfl) (fun _ _ _ h => h) (Or.inl ⟨by rfl, ?hy⟩) (by assumption) ?_
        case hy =>
          intro w hSw
          go_simp
          all_goals with_reducible rfl
        (try simp only [Act.put, List.getElem_toArray, List.getElem_cons_succ, List.getElem_cons_zero, List.setIfInBounds_toArray, List.set_cons_zero, List.set_cons_succ])
        refine wpAnyH_take (i := 9) (v := ?_) rfl (by kernel_rfl) (by kernel_rfl) (by kernel_rfl) (fun _ _ _ h => h) (Or.inl ⟨by rfl, ?hy⟩) (by assumption) ?_
        case hy =>
          intro w hSw
          go_simp
          all_goals with_reducible rfl
        (try simp only [Act.put, List.getElem_toArray, List.getElem_cons_succ, List.getElem_cons_zero, List.setIfInBounds_toArray, List.set_cons_zero, List.set_cons_succ])
        refine wpAnyH_take (i := 10) (v := ?_) rfl (by kernel_rfl) (by kernel_rfl) (by kernel_rfl) (fun _ _ _ h => h) (Or.inl ⟨by rfl, ?hy⟩) (by assumption) ?_
        case hy =>
          intro w hSw
          go_simp
          all_goals with_reducible rfl
        (try simp only [Act.put, List.getElem_toArray, List.getElem_cons_succ, List.getElem_cons_zero, List.setIfInBounds_toArray, List.set_cons_zero, List.set_cons_succ])
        refine wpAnyH_take (i := 11) (v := ?_) rfl (by kernel_rfl) (by kernel_rfl) (by kernel_rfl) (fun _ _ _ h => h) (Or.inl ⟨by rfl, ?hy⟩) (by assumption) ?_
        case hy =>
          intro w hSw
          go_simp
          all_goals with_reducible rfl
        (try simp only [Act.put, List.getElem_toArray, List.getElem_cons_succ, List.getElem_cons_zero, List.setIfInBounds_toArray, List.set_cons_zero, List.set_cons_succ])
        refine wpAnyH_take (i := 12) (v := ?_) rfl (by kernel_rfl) (by kernel_rfl) (by kernel_rfl) (fun _ _ _ h => h) (Or.inl ⟨by rfl, ?hy⟩) (by assumption) ?_
        case hy =>
          intro w hSw
          go_simp
          all_goals with_reducible rfl
        (try simp only [Act.put, List.getElem_toArray, List.getElem_cons_succ, List.getElem_cons_zero, List.setIfInBounds_toArray, List.set_cons_zero, List.set_cons_succ])
        refine wpAnyH_take (i := 13) (v := ?_) rfl (by kernel_rfl) (by kernel_rfl) (by kernel_rfl) (fun _ _ _ h => h) (Or.inl ⟨by rfl, ?hy⟩) (by assumption) ?_
        case hy =>
          intro w hSw
          go_simp
          all_goals with_reducible rfl
        (try simp only [Act.put, List.getElem_toArray, List.getElem_cons_succ, List.getElem_cons_zero, List.setIfInBounds_toArray, List.set_cons_zero, List.set_cons_succ])
        refine wpAnyH_take (i := 14) (v := .agg xb.cells.toArray) rfl (by kernel_rfl) (by kernel_rfl) (by kernel_rfl) (fun _ _ _ h => h) (yieldsIf_load_mid (by rfl) 24 (.tmp 83) rfl bb (ob + kb * 35) (by rfl) _ _ (fun _ h => h.2) Tryd.underlying24 rfl (by rw [En.length]; kernel_rfl)) (by assumption) ?_
        (try simp only [Act.put, List.getElem_toArray, List.getElem_cons_succ, List.getElem_cons_zero, List.setIfInBounds_toArray, List.set_cons_zero, List.set_cons_succ])
        refine wpAnyH_ready (rs := [7]) (by kernel_rfl) (by simp) ?_
        refine AllReadyH.cons rfl (fun K hK => ?_) AllReadyH.nil
        go_simp
        go_at_call 44
        refine (summed_any b1 (o1 + ka * 34) cut ka (linkS cut a ka) xa HKA.out HGa.out _ HLA.out HCT.out HKC.out.1).mono ?_
        rw [← HX.out]
        rintro r w10 ⟨v10, rfl, hA, hb⟩
        obtain ⟨qx, cx, rfl, hcx, hRx⟩ := hA.rd
        have HRX := Lib.hid hRx
        have HCX := Lib.hid hcx
        have HD10 := Lib.hid (HD9.out.on hb)
        have HLB2 := Lib.hid (HLB.out.on hb)
        have HRG2 := Lib.hid (HRO.out _ _ HRG.out HBL.out hb)
        have HBL2 := Lib.hid (show ba < w10.heap.size ∧ bb < w10.heap.size from ⟨Nat.lt_of_lt_of_le HBL.out.1 hb.size, Nat.lt_of_lt_of_le HBL.out.2 hb.size⟩)
        clear hA hb hRx hcx
        refine hK.out _ _ (HRG2.out) (fun hHeld => ?_)
        clear hK K
        (try simp only [Act.put, List.getElem_toArray, List.getElem_cons_succ, List.getElem_cons_zero, List.setIfInBounds_toArray, List.set_cons_zero, List.set_cons_succ])
        refine wpAnyH_ready (rs := [15]) (by kernel_rfl) (by simp) ?_
        refine AllReadyH.cons rfl (fun K hK => ?_) AllReadyH.nil
        go_simp
        go_at_call 44
        refine (summed_any b2 (o2 + kb * 34) cut kb (linkS cut b kb) xb HKB.out HGb.out _ HLB2.out HCT.out HKC.out.2).mono ?_
        rw [← HY.out]
        rintro r w11 ⟨v11, rfl, hA, hb⟩
        obtain ⟨qy, cy, rfl, hcy, hRy⟩ := hA.rd
        have HCY := Lib.hid hcy
        have HXY := Lib.hid (show Rd0 w11 qx X ∧ Rd0 w11 qy Y from ⟨HRX.out.on hb, hRy⟩)
        have HD11 := Lib.hid (HD10.out.on hb)
        have HRG3 := Lib.hid (HRO.out _ _ HRG2.out HBL2.out hb)
        clear hA hb hRy hcy
        refine hK.out _ _ (HRG3.out) (fun hHeld => ?_)
        clear hK K
        (try simp only [Act.put, List.getElem_toArray, List.getElem_cons_succ, List.getElem_cons_zero, List.setIfInBounds_toArray, List.set_cons_zero, List.set_cons_succ])
        refine wpAnyH_ready (rs := [16]) (by kernel_rfl) (by simp) ?_
        refine AllReadyH.cons rfl (fun K hK => ?_) AllReadyH.nil
        go_simp
        skip
        refine hK.out _ _ (HRG3.out) (fun hHeld => ?_)
        clear hK K
        (try simp only [Act.put, List.getElem_toArray, List.getElem_cons_succ, List.getElem_cons_zero, List.setIfInBounds_toArray, List.set_cons_zero, List.set_cons_succ])
        refine wpAnyH_ready (rs := [17]) (by kernel_rfl) (by simp) ?_
        refine AllReadyH.cons rfl (fun K hK => ?_) AllReadyH.nil
        go_simp
        skip
        refine hK.out _ _ (HRG3.out) (fun hHeld => ?_)
        clear hK K
        (try simp only [Act.put, List.getElem_toArray, List.getElem_cons_succ, List.getElem_cons_zero, List.setIfInBounds_toArray, List.set_cons_zero, List.set_cons_succ])
        refine wpAnyH_done (by kernel_rfl) ?_ _
        clear HRO HRG HRG2 HBL HBL2 HLA HLB HLB2 HD9 HD10 HRX
        rcases Bool.eq_false_or_eq_true (X == Y) with hxy | hxy
        · go_wp2_with (go_at_call 42; refine (equal_any qx qy X Y cx cy _ HXY.out.1 HXY.out.2).mono ?_; rw [hxy]; rintro r w12 ⟨rfl, rfl⟩)
          go_roundw
          case rel => exact ⟨t + 1, by omega, by rw [ea2], by rw [eb2], Lib.hid (by rw [HT.out, HDP.out]; show (if (X == Y) = true then _ else _) = _; rw [if_pos hxy]), HD11.out⟩
          case measure => simp [intOf]; try omega
        · go_wp2_with (go_at_call 42; refine (equal_any qx qy X Y cx cy _ HXY.out.1 HXY.out.2).mono ?_; rw [hxy]; rintro r w12 ⟨rfl, rfl⟩)
          refine bodyPost_ret (results_tmp3 rfl _ _ _) rfl ?_; exact (ClR.yes (by rw [HT.out, HDP.out]; show (if (X == Y) = true then _ else _) = _; rw [if_neg (by rw [hxy]; decide)]) HXY.out.1 HXY.out.2 HCX.out HCY.out HD11.out.bel)
      · have HR3 := Lib.hid (show R = ([], [], false) by rw [HT.out, show t = min a.length b.length by omega, prs_end]; rfl)
        by_cases hta : a.length ≤ t
        · have ea : (a.length : Int) - 1 - (t : Int) = -1 := by omega
          rw [ea]
          obtain ⟨wq, rfl⟩ : ∃ wq : World, wq = wr := ⟨_, rfl⟩
          go_wp2_with fail
          refine bodyPost_ret (results_tmp3 rfl _ _ _) rfl ?_; exact (ClR.no HR3.out HI.out.bel)
        · obtain ⟨ka, hka⟩ : ∃ ka, ka = a.length - 1 - t := ⟨_, rfl⟩
          have ea : (a.length : Int) - 1 - (t : Int) = (ka : Int) := by omega
          have k0 : (0 : Int) ≤ (ka : Int) := by omega
          have eb : (b.length : Int) - 1 - (t : Int) = -1 := by omega
          rw [ea, eb]
          obtain ⟨wq, rfl⟩ : ∃ wq : World, wq = wr := ⟨_, rfl⟩
          go_wp2_with fail
          refine bodyPost_ret (results_tmp3 rfl _ _ _) rfl ?_; exact (ClR.no HR3.out HI.out.bel)
  · rw [he]
    rintro r w7 ⟨rfl, rfl⟩
    refine hK.out _ _ (trivial) (fun hHeld => ?_)
    clear hK K
    (try simp only [Act.put, List.getElem_toArray, List.getElem_cons_succ, List.getElem_cons_zero, List.setIfInBounds_toArray, List.set_cons_zero, List.set_cons_succ])
    refine wpAnyH_take (i := 11) (v := ?_) rfl (by kernel_rfl) (by kernel_rfl) (by kernel_rfl) (fun _ _ _ h => h) (Or.inl ⟨by rfl, ?hy⟩) (by assumption) ?_
    case hy =>
      intro w hSw
      go_simp
      all_goals with_reducible rfl
    (try simp only [Act.put, List.getElem_toArray, List.getElem_cons_succ, List.getElem_cons_zero, List.setIfInBounds_toArray, List.set_cons_zero, List.set_cons_succ])
    refine wpAnyH_done (by kernel_rfl) ?_ _
    have HR2 := Lib.hid (show R = ([], [], false) by rw [HR.out, if_neg (by rw [he]; decide)])
    go_wp2_with fail
    refine bodyPost_ret (results_tmp3 rfl _ _ _) rfl ?_; exact (ClR.no HR2.out HD6.out.bel)

/-- what is kept in the outer loop: a row of the call's own -/
structure Ro2 (X w : World) (n : Nat) (v : Value) (m : List UInt8) : Prop where
  own : X.ownsRow w.heap.size 5 1 v m.length (cells8 m)
  fm : ∃ p d, v = .slice p m.length d ∧ m.length ≤ d
  len : m.length = n
  bel : Below w.heap.size w X
theorem Ro2.acc {X w : World} {n : Nat} {v : Value} {m : List UInt8} (h : Ro2 X w n v m) : Acc X w.heap.size v m := ⟨h.fm, .inr h.own⟩
theorem Ro2.rd {X w : World} {n : Nat} {v : Value} {m : List UInt8} (h : Ro2 X w n v m) : ∃ q c, v = .slice q n c ∧ Rd0 X q m := by
  obtain ⟨q, c, h1, _, h2⟩ := h.acc.rd
  exact ⟨q, c, by rw [h1, h.len], h2⟩
theorem Ro2.of {X w : World} {n D : Nat} {v : Value} {m : List UInt8} (h : Acc X (D + 1) v m) (hD : w.heap.size ≤ D) (hl : m.length = n) (hn : 1 ≤ n) (hb : Below w.heap.size w X) : Ro2 X w n v m := by
  refine ⟨?_, h.1, hl, hb⟩
  rcases h.2 with ⟨h2, _⟩ | h2
  · subst h2; simp at hl; omega
  · obtain ⟨h3, h4⟩ := h2
    refine ⟨h3, h4.imp id ?_⟩
    rintro ⟨g, cap, cur, e1, e2, e3⟩
    exact ⟨g, cap, cur, e1, by omega, e3⟩

set_option maxRecDepth 100000 in
set_option maxHeartbeats 4000000 in
theorem rhead_acc (cut : Nat) (q : Option Addr) (l : List En) (c : Nat) (w : World) (hL : Ens w q l) (hn : l.length < 1000000000000) (h1 : 1 ≤ cut) (h2 : cut ≤ 32) (hg : l.all goodB = true) :
    Calls Tryd.prog 41 #[.int .i64 cut, .slice q l.length c] w fun r w' => ∃ v', r = .returned v' ∧ Acc w' w.heap.size v' ((linkS cut l l.length).take cut) ∧ Below w.heap.size w w' := by
  have HL := Lib.hid hL
  have HG := Lib.hid hg
  have HN := Lib.hid hn
  have HCT := Lib.hid h2
  have w0 : (0 : Int) ≤ (cut : Int) := by omega
  have hmk := fun wx => run_make8 cut .i64 (cut : Int) rfl (by omega) wx
  have H1 := Lib.hid h1
  clear hL hg h1 h2
  go_enter Tryd.func41, Tryd.ntmps41
  go_wp2_with fail
  have HO := Lib.hid (show Ro2 (w.alloc (.cells (cells8 (List.replicate cut 0)).toArray 5)) w cut (.slice (some ⟨w.heap.size, 0, none⟩) cut cut) ((linkS cut l 0).take cut) from by
    have e : (linkS cut l 0).take cut = List.replicate cut 0 := by show List.take cut (List.replicate 32 0) = _; rw [List.take_replicate, Nat.min_eq_left HCT.out]
    rw [e]
    have el : (List.replicate cut (0 : UInt8)).length = cut := by simp
    refine ⟨⟨by rw [cells8_len]; simp, .inr ⟨w.heap.size, cut, _, by rw [el], Nat.le_refl _, Bk.new w 5 (cells8 (List.replicate cut 0)).toArray, by rw [el]; exact Nat.le_refl _, by have := HCT.out; unfold maxLen; omega, by rw [List.size_toArray, cells8_len, el, Nat.mul_one], ?_⟩⟩, ⟨_, cut, by rw [el], by rw [el]; exact Nat.le_refl _⟩, el, below1 _ _⟩
    rw [List.toList_toArray]
    exact List.take_of_length_le (by rw [cells8_len]; omega))
  generalize w.alloc (.cells (cells8 (List.replicate cut 0)).toArray 5) = W0 at *
  go_loopw [5, 6] (fun v i wr => ∃ k : Nat, k ≤ l.length ∧ i = .int .i64 k ∧ Ro2 wr w cut v ((linkS cut l k).take cut)) (fun _ i _ => l.length - (intOf i).toNat)
  case atStart => exact ⟨0, by omega, rfl, HO.out⟩
  case round =>
    clear HO
    obtain ⟨k, hk, rfl, hro⟩ := hrel
    obtain ⟨q1, c1, rfl, hr1⟩ := hro.rd
    have HB := Lib.hid hro.bel
    have HRO := Lib.hid hro
    have HR1 := Lib.hid hr1
    clear hro hr1
    have w3 : (0 : Int) ≤ (k : Int) := by omega
    by_cases hlt : k < l.length
    · clear HRO
      have w4 : (k : Int) < (l.length : Int) := by omega
      have HLW := Lib.hid (HL.out.on HB.out)
      obtain ⟨b, off, rfl, hbl, hr⟩ := HLW.out.at k hlt
      have HR0 := Lib.hid hr
      have HK := Lib.hid (HL.out.ok l[k] (List.getElem_mem hlt))
      have HGD := Lib.hid (List.all_eq_true.1 HG.out _ (List.getElem_mem hlt))
      have HS := Lib.hid (show linkS cut l (k + 1) = sumS ((linkS cut l k).take cut ++ bytesS k l[k]) by simp [linkS, List.getD_eq_getElem?_getD, hlt])
      have HTL := Lib.hid (take_linkS cut l k HCT.out)
      clear hr
      generalize l[k] = e at *
      obtain ⟨S, hS⟩ : ∃ S, Hid (S = linkS cut l (k + 1)) := ⟨_, Lib.hid rfl⟩
      have HSL := Lib.hid (show S.length = 32 by rw [hS.out]; exact linkS_len _ _ _)
      obtain ⟨L, hL⟩ : ∃ L, Hid (L = (linkS cut l k).take cut) := ⟨_, Lib.hid rfl⟩
      have HS2 := Lib.hid (show Hid (S = sumS (L ++ bytesS k e)) from Lib.hid (by rw [hS.out, HS.out, hL.out]))
      have HLL := Lib.hid (show L.length = cut by rw [hL.out]; exact HTL.out)
      have hR1 := HR1.out
      rw [← hL.out] at hR1
      have HRL := Lib.hid hR1
      clear HR1
      have HLN := Lib.hid HLL.out.symm
      clear HS hR1 HTL
      generalize linkS cut l k = sum at *
      go_upto_region 6 with (first
        | (refine wpList_load_mid rfl 24 _ rfl b (off + k * 35) rfl _ _ HR0.out Tryd.underlying24 rfl (by rw [En.length]; kernel_rfl) ?_)
        | (go_at_call 12; refine (refbytes_good k e HK.out _ (by have := HN.out; omega) HGD.out).mono ?_; rintro r w5 ⟨v5, rfl, hA, hb5⟩; obtain ⟨q5, c5, rfl, _, hR5⟩ := hA.rd; have HB5 := Lib.hid (HB.out.trans (hb5.mono HB.out.size)); have HR5 := Lib.hid hR5; have HR15 := Lib.hid (HRL.out.on hb5); clear hA hb5 hR5))
      obtain ⟨M, hM⟩ : ∃ M, Hid (M = L ++ bytesS k e) := ⟨_, Lib.hid rfl⟩
      have HSM := Lib.hid (show Hid (S = sumS M) from Lib.hid (by rw [HS2.out.out, hM.out]))
      have HP := Lib.hid (good_parts HGD.out)
      have HML := Lib.hid (show (bytesS k e).length ≤ 5000 by have := HK.out.dig; have := HP.out.1; have := HP.out.2.2.2; simp [bytesS, numS_len]; omega)
      have HMM := Lib.hid (show M.length ≤ 6000 by rw [hM.out, List.length_append]; have := HML.out; have := HLL.out; have := HCT.out; omega)
      have HQ := Lib.hid (show (cells8 S).toArray.size = 32 by rw [List.size_toArray, cells8_len, HSL.out])
      clear HR0 HLW HRL HB HS2 HGD HP
      go_upto_region 7 with (first
        | (refine wpList_store_row rfl 22 _ _ rfl _ _ rfl rfl _ _ (Bk.new _ _ _) (by rw [HQ.out]; kernel_rfl) (by rw [HQ.out]; rfl) (cells8_one _) ?_)
        | (go_at_call 57; refine (rsum_any q7 c7 M _ HR7.out (by have := HMM.out; omega) S HSM.out).mono ?_; rintro r w8 ⟨rfl, hb8⟩; have HB8 := Lib.hid (HB7.out.trans (hb8.mono HB7.out.size)); clear hb8)
        | (refine wpList_app8 rfl _ _ rfl rfl w5.heap.size _ L rfl HA6.out q5 (bytesS k e) _ c5 rfl rfl (HR5.out.on HB6.out) (by have := HML.out; have := HLL.out; have := HCT.out; omega) HB6.out.size ?_; intro v7 w7 hA hb; rw [← hM.out] at hA; obtain ⟨q7, c7, rfl, _, hR7⟩ := hA.rd; have HB7 := Lib.hid (HB5.out.trans ((HB6.out.trans hb).mono HB5.out.size)); have HR7 := Lib.hid hR7; clear hA hb hR7)
        | (refine wpList_app8 rfl _ _ rfl rfl w5.heap.size _ [] rfl (acc_made (w := w5) (Nat.le_refl _)) q1 L _ c1 rfl HLN.out (HR15.out.on (below1 _ _)) (by have := HLL.out; have := HCT.out; rw [List.length_nil]; omega) (by simp) ?_; intro v6 w6 hA hb; rw [List.nil_append] at hA; have HA6 := Lib.hid hA; have HB6 := Lib.hid ((below1 w5 (.cells #[] 5)).trans hb); clear hA hb))
      rw [World.setRow_alloc_new]
      have HN0 := Lib.hid (show Rn (w8.alloc (.cells (cells8 S).toArray 22)) w w8.heap.size S (.slice none 0 0) (S.take 0) from ⟨Bk.new w8 _ _, by rw [List.take_zero]; exact acc_nil, HB8.out.trans ((below1 w8 _).mono HB8.out.size), HB8.out.size⟩)
      generalize w8.alloc (.cells (cells8 S).toArray 22) = WX at *
      generalize w8.heap.size = D at *
      (try simp only [Act.put])
      clear HB5 HR5 HR15 HA6 HB6 HB7 HR7 HB8 HMM HML HSM
      obtain ⟨wo, rfl⟩ : ∃ wo : World, wo = wr := ⟨_, rfl⟩
      go_wp2_with fail
      go_loopw [5, 10] (fun v i wr => ∃ j : Nat, j ≤ cut ∧ i = .int .i64 j ∧ Rn wr w D S v (S.take j)) (fun _ i _ => cut - (intOf i).toNat)
      case atStart => exact ⟨0, by omega, rfl, HN0.out⟩
      case round =>
        clear HN0
        obtain ⟨j, hj, rfl, hR⟩ := hrel
        have R := Lib.hid hR
        clear hR
        have w5 : (0 : Int) ≤ (j : Int) := by omega
        by_cases hlt2 : j < cut
        · have w6 : (j : Int) < (cut : Int) := by omega
          have hjS : j < S.length := by rw [HSL.out]; have := HCT.out; omega
          have w7 : (j : Int) < 32 := by have := HCT.out; omega
          have x0 := R.out.row.cell j (B8 S[j]) (by simp [cells8, hjS])
          have HT := Lib.hid (List.take_succ_eq_append_getElem hjS)
          generalize S[j] = y at *
          go_wp2_with (refine wpList_app8 rfl _ _ rfl rfl (D + 1) _ _ rfl (R.out.al _).acc _ [y] 1 1 rfl rfl (rd0_lit wr 5 [y]) (by rw [List.length_take, HSL.out, List.length_singleton]; omega) (R.out.al _).row.lt ?_; intro v9 w9 hA hb; rw [← HT.out] at hA; have R2 := Lib.hid ((R.out.al _).app hA hb); clear hA hb)
          go_roundw
          case rel => exact ⟨j + 1, by omega, by go_num, R2.out⟩
          case measure => simp [intOf]; omega
        · obtain rfl : j = cut := by omega
          have HSK := Lib.hid (show (S.take j).length = j by rw [List.length_take, HSL.out]; have := HCT.out; omega)
          have HN2 := Lib.hid (Ro2.of R.out.acc R.out.far HSK.out H1.out R.out.bel)
          clear R
          go_wp2_with fail
          go_roundw
          case rel => exact ⟨k + 1, by omega, by go_num, by rw [← hS.out]; exact HN2.out⟩
          case measure => simp [intOf]; omega
    · obtain rfl : k = l.length := by omega
      have HTL := Lib.hid (take_linkS cut l l.length HCT.out)
      go_wp2_with fail
      go_ret
      exact ⟨_, rfl, HRO.out.acc, HB.out⟩

set_option maxRecDepth 100000 in
set_option maxHeartbeats 2000000 in
theorem refsummed_any (cut k : Nat) (q : Option Addr) (l : List En) (c : Nat) (w : World) (hL : Ens w q l) (hk : k < l.length) (hc : l.length ≤ c) (hn : l.length ≤ 1000) (h1 : 1 ≤ cut) (h2 : cut ≤ 32) (hg : l.all goodB = true) :
    Calls Tryd.prog 45 #[.int .i64 cut, .slice q l.length c, .int .i64 k] w fun r w' => ∃ q' c', r = .returned (.slice q' (sumdS cut l k).length c') ∧ Rd0 w' q' (sumdS cut l k) ∧ (sumdS cut l k).length ≤ c' ∧ Below w.heap.size w w' := by
  have HL := Lib.hid hL
  have htk : (l.take k).length = k := by rw [List.length_take]; omega
  have hgt : (l.take k).all goodB = true := by
    rw [List.all_eq_true]; intro e he; exact List.all_eq_true.1 hg e (List.mem_of_mem_take he)
  have C1 := Lib.hid (fun X (h : Ens X q (l.take k)) => rhead_acc cut q (l.take k) c X h (by omega) h1 h2 hgt)
  rw [htk, linkS_take cut l k (by omega) k (Nat.le_refl _)] at C1
  have HX := Lib.hid (show sumdS cut l k = (linkS cut l k).take cut ++ bytesS k l[k] by simp [sumdS, List.getD_eq_getElem?_getD, hk])
  have HK := Lib.hid (hL.ok l[k] (List.getElem_mem hk))
  have HG := Lib.hid (List.all_eq_true.1 hg _ (List.getElem_mem hk))
  have HTL := Lib.hid (take_linkS cut l k h2)
  have HN := Lib.hid (show k ≤ 1000 ∧ cut ≤ 32 by omega)
  have hsl := fun wx => run_slice_toE (P := Tryd.prog) 34 24 Tryd.underlying34 (by kernel_rfl) q l.length c .i64 (k : Int) k rfl (by omega) wx
  have w3 : (0 : Int) ≤ (k : Int) := by omega
  have w4 : (k : Int) < (l.length : Int) := by omega
  obtain ⟨L, hLd⟩ : ∃ L, Hid (L = (linkS cut l k).take cut) := ⟨_, Lib.hid rfl⟩
  rw [← hLd.out] at C1 HX HTL
  obtain ⟨R, hR⟩ : ∃ R, Hid (R = sumdS cut l k) := ⟨_, Lib.hid rfl⟩
  rw [← hR.out] at HX ⊢
  have HLK := Lib.hid hk
  clear hL htk hgt h1 h2 hg
  go_enter Tryd.func45, Tryd.ntmps45
  go_upto_region 2 with (go_at_call 41; refine (C1.out _ (HL.out.take k)).mono ?_; rintro r w1 ⟨v1, rfl, hr, hb⟩; have HR1 := Lib.hid hr; have HB1 := Lib.hid hb; clear hr hb)
  have HLW := Lib.hid (HL.out.on HB1.out)
  obtain ⟨b, off, rfl, hbl, hr⟩ := HLW.out.at k HLK.out
  have HR0 := Lib.hid hr
  clear hr hsl
  generalize l[k] = e at *
  have HML := Lib.hid (show (bytesS k e).length ≤ 5000 by have := (good_parts HG.out); have := HK.out.dig; have := (good_parts HG.out).1; have := (good_parts HG.out).2.2.2; simp [bytesS, numS_len]; omega)
  go_upto_region 3 with (first
    | (refine wpList_load_mid rfl 24 _ rfl b (off + k * 35) rfl _ _ HR0.out Tryd.underlying24 rfl (by rw [En.length]; kernel_rfl) ?_)
    | (go_at_call 12; refine (refbytes_good k e HK.out _ (by have := HN.out; omega) HG.out).mono ?_; rintro r w2 ⟨v2, rfl, hA, hb2⟩; obtain ⟨q2, c2, rfl, _, hR2⟩ := hA.rd; have HR2 := Lib.hid hR2; have HR12 := Lib.hid (HR1.out.on HB1.out.size hb2); have HB2 := Lib.hid (HB1.out.trans (hb2.mono HB1.out.size)); clear hA hb2 hR2))
  go_wp2_with (refine wpList_app8 rfl _ _ rfl rfl w.heap.size _ L rfl HR12.out q2 (bytesS k e) _ c2 rfl rfl HR2.out (by have := HML.out; have := HTL.out; have := HN.out; omega) HB2.out.size ?_; intro v3 w3 hA hb; rw [← HX.out] at hA; have HA3 := Lib.hid hA; have HB3 := Lib.hid (HB2.out.trans hb); clear hA hb)
  obtain ⟨q3, c3, hv, hc3, hr3⟩ := HA3.out.rd
  subst hv
  go_ret
  exact ⟨q3, c3, rfl, hr3, hc3, HB3.out⟩

/-- what is kept -/
structure Rc (X w : World) (q1 : Option Addr) (a : List En) (q2 : Option Addr) (b : List En) : Prop where
  ea : Ens X q1 a
  eb : Ens X q2 b
  bel : Below w.heap.size w X
theorem Rc.on {X X' w : World} {q1 : Option Addr} {a : List En} {q2 : Option Addr} {b : List En} (h : Rc X w q1 a q2 b) (hb : Below X.heap.size X X') : Rc X' w q1 a q2 b :=
  ⟨h.ea.on hb, h.eb.on hb, h.bel.trans (hb.mono h.bel.size)⟩

set_option maxRecDepth 100000 in
set_option maxHeartbeats 8000000 in
theorem rclash_ok (cut : Nat) (q1 : Option Addr) (a : List En) (c1 : Nat) (q2 : Option Addr) (b : List En) (c2 : Nat) (w : World) (hA : Ens w q1 a) (hB : Ens w q2 b) (hca : a.length ≤ c1) (hcb : b.length ≤ c2) (hna : a.length ≤ 1000) (hnb : b.length ≤ 1000) (h1 : 1 ≤ cut) (h2 : cut ≤ 32) (hga : a.all goodB = true) (hgb : b.all goodB = true) :
    Calls Tryd.prog 21 #[.int .i64 cut, .slice q1 a.length c1, .slice q2 b.length c2] w fun r w' => ClR w w' r (clsS cut a b) := by
  have HI0 := Lib.hid (show Rc w w q1 a q2 b from ⟨hA, hB, Below.refl _ _⟩)
  have HNA := Lib.hid hna
  have HNB := Lib.hid hnb
  have HCT := Lib.hid h2
  obtain ⟨R, hR⟩ : ∃ R, Hid (R = clsS cut a b) := ⟨_, Lib.hid rfl⟩
  rw [← hR.out]
  obtain ⟨SA, hSA⟩ : ∃ SA, Hid (SA = (linkS cut a a.length).take cut) := ⟨_, Lib.hid rfl⟩
  obtain ⟨SB, hSB⟩ : ∃ SB, Hid (SB = (linkS cut b b.length).take cut) := ⟨_, Lib.hid rfl⟩
  have HR := Lib.hid (show R = if (SA == SB) = true then clsF (prsS cut a b) else ([], [], false) by rw [hR.out, hSA.out, hSB.out]; rfl)
  have D1 := Lib.hid (fun X (h : Ens X q1 a) => right_any (cut : Int) q1 a c1 X h (by omega))
  have D2 := Lib.hid (fun X (h : Ens X q2 b) => right_any (cut : Int) q2 b c2 X h (by omega))
  have hcd : (decide (1 ≤ (cut : Int)) && decide ((cut : Int) ≤ 32)) = true := by simp; omega
  rw [hga, hcd, Bool.and_true] at D1
  rw [hgb, hcd, Bool.and_true] at D2
  have C1 := Lib.hid (fun X (h : Ens X q1 a) => rhead_any cut q1 a c1 X h (by omega) h1 h2 hga)
  have C2 := Lib.hid (fun X (h : Ens X q2 b) => rhead_any cut q2 b c2 X h (by omega) h1 h2 hgb)
  rw [← hSA.out] at C1
  rw [← hSB.out] at C2
  have E1 := Lib.hid (fun X k (hk : k < a.length) (h : Ens X q1 a) => refsummed_any cut k q1 a c1 X h hk hca hna h1 h2 hga)
  have E2 := Lib.hid (fun X k (hk : k < b.length) (h : Ens X q2 b) => refsummed_any cut k q2 b c2 X h hk hcb hnb h1 h2 hgb)
  clear hA hB hga hgb hcd h1 h2
  go_enter Tryd.func21, Tryd.ntmps21
  go_upto_region 1 with fail
  have HD := Lib.hid (HI0.out.on (Below.refl _ _).drew)
  clear HI0
  refine wp_region_held_drew (S := fun _ => True) (by kernel_rfl) trivial (fun hHeld => ?_)
  refine wpAnyH_take (i := 0) (v := ?_) rfl (by kernel_rfl) (by kernel_rfl) (by kernel_rfl) (fun _ _ _ h => h) (Or.inl ⟨by rfl, ?hy⟩) (by assumption) ?_
  case hy =>
    intro w hSw
    go_simp
    all_goals with_reducible rfl
  (try simp only [Act.put, List.getElem_toArray, List.getElem_cons_succ, List.getElem_cons_zero, List.setIfInBounds_toArray, List.set_cons_zero, List.set_cons_succ])
  refine wpAnyH_take (i := 1) (v := ?_) rfl (by kernel_rfl) (by kernel_rfl) (by kernel_rfl) (fun _ _ _ h => h) (Or.inl ⟨by rfl, ?hy⟩) (by assumption) ?_
  case hy =>
    intro w hSw
    go_simp
    all_goals with_reducible rfl
  (try simp only [Act.put, List.getElem_toArray, List.getElem_cons_succ, List.getElem_cons_zero, List.setIfInBounds_toArray, List.set_cons_zero, List.set_cons_succ])
  refine wpAnyH_ready (rs := [2]) (by kernel_rfl) (by simp) ?_
  refine AllReadyH.cons rfl (fun K hK => ?_) AllReadyH.nil
  go_simp
  go_at_call 40
  refine (D1.out _ HD.out.ea).mono ?_
  rintro r w1 ⟨rfl, hb⟩
  have HD1 := Lib.hid (HD.out.on hb)
  clear hb
  refine hK.out _ _ (trivial) (fun hHeld => ?_)
  clear hK K
  (try simp only [Act.put, List.getElem_toArray, List.getElem_cons_succ, List.getElem_cons_zero, List.setIfInBounds_toArray, List.set_cons_zero, List.set_cons_succ])
  refine wpAnyH_take (i := 3) (v := ?_) rfl (by kernel_rfl) (by kernel_rfl) (by kernel_rfl) (fun _ _ _ h => h) (Or.inl ⟨by rfl, ?hy⟩) (by assumption) ?_
  case hy =>
    intro w hSw
    go_simp
    all_goals with_reducible rfl
  (try simp only [Act.put, List.getElem_toArray, List.getElem_cons_succ, List.getElem_cons_zero, List.setIfInBounds_toArray, List.set_cons_zero, List.set_cons_succ])
  refine wpAnyH_take (i := 4) (v := ?_) rfl (by kernel_rfl) (by kernel_rfl) (by kernel_rfl) (fun _ _ _ h => h) (Or.inl ⟨by rfl, ?hy⟩) (by assumption) ?_
  case hy =>
    intro w hSw
    go_simp
    all_goals with_reducible rfl
  (try simp only [Act.put, List.getElem_toArray, List.getElem_cons_succ, List.getElem_cons_zero, List.setIfInBounds_toArray, List.set_cons_zero, List.set_cons_succ])
  refine wpAnyH_take (i := 5) (v := ?_) rfl (by kernel_rfl) (by kernel_rfl) (by kernel_rfl) (fun _ _ _ h => h) (Or.inl ⟨by rfl, ?hy⟩) (by assumption) ?_
  case hy =>
    intro w hSw
    go_simp
    all_goals with_reducible rfl
  (try simp only [Act.put, List.getElem_toArray, List.getElem_cons_succ, List.getElem_cons_zero, List.setIfInBounds_toArray, List.set_cons_zero, List.set_cons_succ])
  refine wpAnyH_take (i := 6) (v := ?_) rfl (by kernel_rfl) (by kernel_rfl) (by kernel_rfl) (fun _ _ _ h => h) (Or.inl ⟨by rfl, ?hy⟩) (by assumption) ?_
  case hy =>
    intro w hSw
    go_simp
    all_goals with_reducible rfl
  (try simp only [Act.put, List.getElem_toArray, List.getElem_cons_succ, List.getElem_cons_zero, List.setIfInBounds_toArray, List.set_cons_zero, List.set_cons_succ])
  refine wpAnyH_ready (rs := [7]) (by kernel_rfl) (by simp) ?_
  refine AllReadyH.cons rfl (fun K hK => ?_) AllReadyH.nil
  go_simp
  go_at_call 40
  refine (D2.out _ HD1.out.eb).mono ?_
  rintro r w2 ⟨rfl, hb⟩
  have HD2 := Lib.hid (HD1.out.on hb)
  clear hb
  refine hK.out _ _ (trivial) (fun hHeld => ?_)
  clear hK K
  (try simp only [Act.put, List.getElem_toArray, List.getElem_cons_succ, List.getElem_cons_zero, List.setIfInBounds_toArray, List.set_cons_zero, List.set_cons_succ])
  refine wpAnyH_take (i := 8) (v := ?_) rfl (by kernel_rfl) (by kernel_rfl) (by kernel_rfl) (fun _ _ _ h => h) (Or.inl ⟨by rfl, ?hy⟩) (by assumption) ?_
  case hy =>
    intro w hSw
    go_simp
    all_goals with_reducible rfl
  (try simp only [Act.put, List.getElem_toArray, List.getElem_cons_succ, List.getElem_cons_zero, List.setIfInBounds_toArray, List.set_cons_zero, List.set_cons_succ])
  refine wpAnyH_take (i := 9) (v := ?_) rfl (by kernel_rfl) (by kernel_rfl) (by kernel_rfl) (fun _ _ _ h => h) (Or.inl ⟨by rfl, ?hy⟩) (by assumption) ?_
  case hy =>
    intro w hSw
    go_simp
    all_goals with_reducible rfl
  (try simp only [Act.put, List.getElem_toArray, List.getElem_cons_succ, List.getElem_cons_zero, List.setIfInBounds_toArray, List.set_cons_zero, List.set_cons_succ])
  refine wpAnyH_take (i := 10) (v := ?_) rfl (by kernel_rfl) (by kernel_rfl) (by kernel_rfl) (fun _ _ _ h => h) (Or.inl ⟨by rfl, ?hy⟩) (by assumption) ?_
  case hy =>
    intro w hSw
    go_simp
    all_goals with_reducible rfl
  (try simp only [Act.put, List.getElem_toArray, List.getElem_cons_succ, List.getElem_cons_zero, List.setIfInBounds_toArray, List.set_cons_zero, List.set_cons_succ])
  refine wpAnyH_take (i := 11) (v := ?_) rfl (by kernel_rfl) (by kernel_rfl) (by kernel_rfl) (fun _ _ _ h => h) (Or.inl ⟨by rfl, ?hy⟩) (by assumption) ?_
  case hy =>
    intro w hSw
    go_simp
    all_goals with_reducible rfl
  (try simp only [Act.put, List.getElem_toArray, List.getElem_cons_succ, List.getElem_cons_zero, List.setIfInBounds_toArray, List.set_cons_zero, List.set_cons_succ])
  refine wpAnyH_take (i := 12) (v := ?_) rfl (by kernel_rfl) (by kernel_rfl) (by kernel_rfl) (fun _ _ _ h => h) (Or.inl ⟨by rfl, ?hy⟩) (by assumption) ?_
  case hy =>
    intro w hSw
    go_simp
    all_goals with_reducible rfl
  (try simp only [Act.put, List.getElem_toArray, List.getElem_cons_succ, List.getElem_cons_zero, List.setIfInBounds_toArray, List.set_cons_zero, List.set_cons_succ])
  refine wpAnyH_take (i := 15) (v := ?_) rfl (by kernel_rfl) (by kernel_rfl) (by kernel_rfl) (fun _ _ _ h => h) (Or.inl ⟨by rfl, ?hy⟩) (by assumption) ?_
  case hy =>
    intro w hSw
    go_simp
    all_goals with_reducible rfl
  (try simp only [Act.put, List.getElem_toArray, List.getElem_cons_succ, List.getElem_cons_zero, List.setIfInBounds_toArray, List.set_cons_zero, List.set_cons_succ])
  refine wpAnyH_take (i := 16) (v := ?_) rfl (by kernel_rfl) (by kernel_rfl) (by kernel_rfl) (fun _ _ _ h => h) (Or.inl ⟨by rfl, ?hy⟩) (by assumption) ?_
  case hy =>
    intro w hSw
    go_simp
    all_goals with_reducible rfl
  (try simp only [Act.put, List.getElem_toArray, List.getElem_cons_succ, List.getElem_cons_zero, List.setIfInBounds_toArray, List.set_cons_zero, List.set_cons_succ])
  refine wpAnyH_ready (rs := [13]) (by kernel_rfl) (by simp) ?_
  refine AllReadyH.cons rfl (fun K hK => ?_) AllReadyH.nil
  go_simp
  go_at_call 41
  refine (C1.out _ HD2.out.ea).mono ?_
  rintro r w3 ⟨qa, ca, rfl, hr, hb⟩
  have HD3 := Lib.hid (HD2.out.on hb)
  have HRa := Lib.hid hr
  clear hr hb
  have cv1 := run_back8 w3 qa SA ca HRa.out
  refine hK.out _ _ (trivial) (fun hHeld => ?_)
  clear hK K
  (try simp only [Act.put, List.getElem_toArray, List.getElem_cons_succ, List.getElem_cons_zero, List.setIfInBounds_toArray, List.set_cons_zero, List.set_cons_succ])
  refine wpAnyH_ready (rs := [14, 17]) (by kernel_rfl) (by simp) ?_
  refine AllReadyH.cons rfl (fun K hK => ?_) (AllReadyH.cons rfl (fun K hK => ?_) AllReadyH.nil)
  · go_simp
    skip
    refine hK.out _ _ (trivial) (fun hHeld => ?_)
    clear hK K
    (try simp only [Act.put, List.getElem_toArray, List.getElem_cons_succ, List.getElem_cons_zero, List.setIfInBounds_toArray, List.set_cons_zero, List.set_cons_succ])
    refine wpAnyH_ready (rs := [17]) (by kernel_rfl) (by simp) ?_
    refine AllReadyH.cons rfl (fun K hK => ?_) AllReadyH.nil
    go_simp
    go_at_call 41
    refine (C2.out _ HD3.out.eb).mono ?_
    rintro r w4 ⟨qb, cb, rfl, hr, hb⟩
    have HD4 := Lib.hid (HD3.out.on hb)
    have HRR := Lib.hid (show Rd0 w4 qa SA ∧ Rd0 w4 qb SB from ⟨HRa.out.on hb, hr⟩)
    clear hr hb
    have cv2 := run_back8 w4 qb SB cb HRR.out.2
    have cv3 := run_back8 w4 qa SA ca HRR.out.1
    refine hK.out _ _ (trivial) (fun hHeld => ?_)
    clear hK K
    (try simp only [Act.put, List.getElem_toArray, List.getElem_cons_succ, List.getElem_cons_zero, List.setIfInBounds_toArray, List.set_cons_zero, List.set_cons_succ])
    refine wpAnyH_ready (rs := [18]) (by kernel_rfl) (by simp) ?_
    refine AllReadyH.cons rfl (fun K hK => ?_) AllReadyH.nil
    go_simp
    skip
    refine hK.out _ _ (trivial) (fun hHeld => ?_)
    clear hK K
    (try simp only [Act.put, List.getElem_toArray, List.getElem_cons_succ, List.getElem_cons_zero, List.setIfInBounds_toArray, List.set_cons_zero, List.set_cons_succ])
    rcases Bool.eq_false_or_eq_true (SA == SB) with he | he
    · obtain rfl : SA = SB := eq_of_beq he
      have he2 : (SA != SA) = false := by simp
      refine wpAnyH_take (i := 19) (v := ?_) rfl (by kernel_rfl) (by kernel_rfl) (by kernel_rfl) (fun _ _ _ h => h) (Or.inl ⟨by rfl, ?hy⟩) (by assumption) ?_
      case hy =>
        intro w hSw
        go_simp
        all_goals with_reducible rfl
      (try simp only [Act.put, List.getElem_toArray, List.getElem_cons_succ, List.getElem_cons_zero, List.setIfInBounds_toArray, List.set_cons_zero, List.set_cons_succ])
      refine wpAnyH_take (i := 20) (v := ?_) rfl (by kernel_rfl) (by kernel_rfl) (by kernel_rfl) (fun _ _ _ h => h) (Or.inl ⟨by rfl, ?hy⟩) (by assumption) ?_
      case hy =>
        intro w hSw
        go_simp
        all_goals with_reducible rfl
      (try simp only [Act.put, List.getElem_toArray, List.getElem_cons_succ, List.getElem_cons_zero, List.setIfInBounds_toArray, List.set_cons_zero, List.set_cons_succ])
      refine wpAnyH_done (by kernel_rfl) ?_ _
      have HR2 := Lib.hid (show R = clsF ((prsS cut a b).drop 0) by rw [HR.out, if_pos he, List.drop_zero])
      clear HR HRR HRa cv1 cv2 cv3 HD HD1 HD2 HD3 C1 C2 D1 D2
      go_wp2_with fail
      go_loopw [9] (fun i wr => ∃ t : Nat, t ≤ min a.length b.length ∧ i = .int .i64 ((t : Int) + 1) ∧ Hid (R = clsF ((prsS cut a b).drop t)) ∧ Rc wr w q1 a q2 b) (fun i _ => a.length + 1 - (intOf i).toNat)
      case atStart => exact ⟨0, Nat.zero_le _, by simp, HR2, HD4.out⟩
      case round =>
        clear HR2 HD4
        obtain ⟨t, ht, rfl, HT, hci⟩ := hrel
        have HI := Lib.hid hci
        clear hci
        by_cases hlt : t < min a.length b.length
        · have HDP := Lib.hid (prs_drop cut a b t hlt)
          obtain ⟨ka, hka⟩ : ∃ ka, ka = a.length - 1 - t := ⟨_, rfl⟩
          obtain ⟨kb, hkb⟩ : ∃ kb, kb = b.length - 1 - t := ⟨_, rfl⟩
          rw [← hka, ← hkb] at HDP
          have HLA := Lib.hid (show ka < a.length by omega)
          have HLB := Lib.hid (show kb < b.length by omega)
          have k0 : (t : Int) + 1 ≤ (a.length : Int) := by omega
          have k1 : (t : Int) + 1 ≤ (b.length : Int) := by omega
          have k2 : (a.length : Int) - ((t : Int) + 1) = (ka : Int) := by omega
          have k3 : (b.length : Int) - ((t : Int) + 1) = (kb : Int) := by omega
          have k4 : IntKind.i64.wrap ((a.length : Int) - ((t : Int) + 1)) = (ka : Int) := by rw [k2]; exact IntWalk.i64_in _ (by omega)
          have k5 : IntKind.i64.wrap ((b.length : Int) - ((t : Int) + 1)) = (kb : Int) := by rw [k3]; exact IntWalk.i64_in _ (by omega)
          have k6 : IntKind.i64.wrap ((t : Int) + 1 + 1) = (t : Int) + 1 + 1 := IntWalk.i64_in _ (by omega)
          have k7 : IntKind.i64.wrap (ka : Int) = (ka : Int) := IntWalk.i64_in _ (by omega)
          have k8 : IntKind.i64.wrap (kb : Int) = (kb : Int) := IntWalk.i64_in _ (by omega)
          clear hka hkb
          have F1 := Lib.hid (fun X (h : Ens X q1 a) => E1.out X ka HLA.out h)
          have F2 := Lib.hid (fun X (h : Ens X q2 b) => E2.out X kb HLB.out h)
          obtain ⟨X, hX⟩ : ∃ X, Hid (X = sumdS cut a ka) := ⟨_, Lib.hid rfl⟩
          obtain ⟨Y, hY⟩ : ∃ Y, Hid (Y = sumdS cut b kb) := ⟨_, Lib.hid rfl⟩
          rw [← hX.out] at F1 HDP
          rw [← hY.out] at F2 HDP
          go_upto_region 7 with (first
            | (go_at_call 45; refine (F2.out _ HI5.out.eb).mono ?_; rintro r w6 ⟨qy, cy, rfl, hr, hcy, hb⟩; have HCY := Lib.hid hcy; clear hcy; have HI6 := Lib.hid (HI5.out.on hb); have HXY := Lib.hid (show Rd0 w6 qx X ∧ Rd0 w6 qy Y from ⟨HRX.out.on hb, hr⟩); clear hr hb)
            | (go_at_call 45; refine (F1.out _ HI.out.ea).mono ?_; rintro r w5 ⟨qx, cx, rfl, hr, hcx, hb⟩; have HCX := Lib.hid hcx; clear hcx; have HI5 := Lib.hid (HI.out.on hb); have HRX := Lib.hid hr; clear hr hb))
          have v1 := run_back8 w6 qx X cx HXY.out.1
          have v2 := run_back8 w6 qy Y cy HXY.out.2
          rcases Bool.eq_false_or_eq_true (X == Y) with hxy | hxy
          · have HT2 := Lib.hid (show R = clsF ((prsS cut a b).drop (t + 1)) by rw [HT.out, HDP.out]; show (if (X == Y) = true then _ else _) = _; rw [if_pos hxy])
            obtain rfl : X = Y := eq_of_beq hxy
            have hxy2 : (X != X) = false := by simp
            go_wp2_with fail
            go_roundw
            case rel => exact ⟨t + 1, by omega, by go_num, HT2, HI6.out⟩
            case measure => simp [intOf]; try omega
          · have HT2 := Lib.hid (show R = (X, Y, true) by rw [HT.out, HDP.out]; show (if (X == Y) = true then _ else _) = _; rw [if_neg (by rw [hxy]; decide)])
            have hxy2 : (X != Y) = true := by simp [bne, hxy]
            go_wp2_with fail
            refine bodyPost_ret (results_tmp3 rfl _ _ _) rfl ?_; exact (ClR.yes HT2.out HXY.out.1 HXY.out.2 HCX.out HCY.out HI6.out.bel)
        · have HR3 := Lib.hid (show R = ([], [], false) by rw [HT.out, show t = min a.length b.length by omega, prs_end]; rfl)
          by_cases hta : a.length ≤ t
          · have k0 : (a.length : Int) < (t : Int) + 1 := by omega
            have k0' : ¬ (t : Int) + 1 ≤ (a.length : Int) := by omega
            obtain ⟨wq, rfl⟩ : ∃ wq : World, wq = wr := ⟨_, rfl⟩
            go_wp2_with fail
            refine bodyPost_ret (results_tmp3 rfl _ _ _) rfl ?_; exact (ClR.no HR3.out HI.out.bel)
          · have k0 : (t : Int) + 1 ≤ (a.length : Int) := by omega
            have k1 : (b.length : Int) < (t : Int) + 1 := by omega
            have k1' : ¬ (t : Int) + 1 ≤ (b.length : Int) := by omega
            obtain ⟨wq, rfl⟩ : ∃ wq : World, wq = wr := ⟨_, rfl⟩
            go_wp2_with fail
            refine bodyPost_ret (results_tmp3 rfl _ _ _) rfl ?_; exact (ClR.no HR3.out HI.out.bel)
    · have he2 : (SA != SB) = true := by simp [bne, he]
      refine wpAnyH_take (i := 19) (v := ?_) rfl (by kernel_rfl) (by kernel_rfl) (by kernel_rfl) (fun _ _ _ h => h) (Or.inl ⟨by rfl, ?hy⟩) (by assumption) ?_
      case hy =>
        intro w hSw
        go_simp
        all_goals with_reducible rfl
      (try simp only [Act.put, List.getElem_toArray, List.getElem_cons_succ, List.getElem_cons_zero, List.setIfInBounds_toArray, List.set_cons_zero, List.set_cons_succ])
      refine wpAnyH_take (i := 20) (v := ?_) rfl (by kernel_rfl) (by kernel_rfl) (by kernel_rfl) (fun _ _ _ h => h) (Or.inl ⟨by rfl, ?hy⟩) (by assumption) ?_
      case hy =>
        intro w hSw
        go_simp
        all_goals with_reducible rfl
      (try simp only [Act.put, List.getElem_toArray, List.getElem_cons_succ, List.getElem_cons_zero, List.setIfInBounds_toArray, List.set_cons_zero, List.set_cons_succ])
      refine wpAnyH_done (by kernel_rfl) ?_ _
      have HR2 := Lib.hid (show R = ([], [], false) by rw [HR.out, if_neg (by rw [he]; decide)])
      go_wp2_with fail
      refine bodyPost_ret (results_tmp3 rfl _ _ _) rfl ?_; exact (ClR.no HR2.out HD4.out.bel)
  · go_simp
    go_at_call 41
    refine (C2.out _ HD3.out.eb).mono ?_
    rintro r w4 ⟨qb, cb, rfl, hr, hb⟩
    have HD4 := Lib.hid (HD3.out.on hb)
    have HRR := Lib.hid (show Rd0 w4 qa SA ∧ Rd0 w4 qb SB from ⟨HRa.out.on hb, hr⟩)
    clear hr hb
    have cv2 := run_back8 w4 qb SB cb HRR.out.2
    have cv3 := run_back8 w4 qa SA ca HRR.out.1
    refine hK.out _ _ (trivial) (fun hHeld => ?_)
    clear hK K
    (try simp only [Act.put, List.getElem_toArray, List.getElem_cons_succ, List.getElem_cons_zero, List.setIfInBounds_toArray, List.set_cons_zero, List.set_cons_succ])
    refine wpAnyH_ready (rs := [14, 18]) (by kernel_rfl) (by simp) ?_
    refine AllReadyH.cons rfl (fun K hK => ?_) (AllReadyH.cons rfl (fun K hK => ?_) AllReadyH.nil)
    · go_simp
      skip
      refine hK.out _ _ (trivial) (fun hHeld => ?_)
      clear hK K
      (try simp only [Act.put, List.getElem_toArray, List.getElem_cons_succ, List.getElem_cons_zero, List.setIfInBounds_toArray, List.set_cons_zero, List.set_cons_succ])
      refine wpAnyH_ready (rs := [18]) (by kernel_rfl) (by simp) ?_
      refine AllReadyH.cons rfl (fun K hK => ?_) AllReadyH.nil
      go_simp
      skip
      refine hK.out _ _ (trivial) (fun hHeld => ?_)
      clear hK K
      (try simp only [Act.put, List.getElem_toArray, List.getElem_cons_succ, List.getElem_cons_zero, List.setIfInBounds_toArray, List.set_cons_zero, List.set_cons_succ])
      rcases Bool.eq_false_or_eq_true (SA == SB) with he | he
      · obtain rfl : SA = SB := eq_of_beq he
        have he2 : (SA != SA) = false := by simp
        refine wpAnyH_take (i := 19) (v := ?_) rfl (by kernel_rfl) (by kernel_rfl) (by kernel_rfl) (fun _ _ _ h => h) (Or.inl ⟨by rfl, ?hy⟩) (by assumption) ?_
        case hy =>
          intro w hSw
          go_simp
          all_goals with_reducible rfl
        (try simp only [Act.put, List.getElem_toArray, List.getElem_cons_succ, List.getElem_cons_zero, List.setIfInBounds_toArray, List.set_cons_zero, List.set_cons_succ])
        refine wpAnyH_take (i := 20) (v := ?_) rfl (by kernel_rfl) (by kernel_rfl) (by kernel_rfl) (fun _ _ _ h => h) (Or.inl ⟨by rfl, ?hy⟩) (by assumption) ?_
        case hy =>
          intro w hSw
          go_simp
          all_goals with_reducible rfl
        (try simp only [Act.put, List.getElem_toArray, List.getElem_cons_succ, List.getElem_cons_zero, List.setIfInBounds_toArray, List.set_cons_zero, List.set_cons_succ])
        refine wpAnyH_done (by kernel_rfl) ?_ _
        have HR2 := Lib.hid (show R = clsF ((prsS cut a b).drop 0) by rw [HR.out, if_pos he, List.drop_zero])
        clear HR HRR HRa cv1 cv2 cv3 HD HD1 HD2 HD3 C1 C2 D1 D2
        go_wp2_with fail
        go_loopw [9] (fun i wr => ∃ t : Nat, t ≤ min a.length b.length ∧ i = .int .i64 ((t : Int) + 1) ∧ Hid (R = clsF ((prsS cut a b).drop t)) ∧ Rc wr w q1 a q2 b) (fun i _ => a.length + 1 - (intOf i).toNat)
        case atStart => exact ⟨0, Nat.zero_le _, by simp, HR2, HD4.out⟩
        case round =>
          clear HR2 HD4
          obtain ⟨t, ht, rfl, HT, hci⟩ := hrel
          have HI := Lib.hid hci
          clear hci
          by_cases hlt : t < min a.length b.length
          · have HDP := Lib.hid (prs_drop cut a b t hlt)
            obtain ⟨ka, hka⟩ : ∃ ka, ka = a.length - 1 - t := ⟨_, rfl⟩
            obtain ⟨kb, hkb⟩ : ∃ kb, kb = b.length - 1 - t := ⟨_, rfl⟩
            rw [← hka, ← hkb] at HDP
            have HLA := Lib.hid (show ka < a.length by omega)
            have HLB := Lib.hid (show kb < b.length by omega)
            have k0 : (t : Int) + 1 ≤ (a.length : Int) := by omega
            have k1 : (t : Int) + 1 ≤ (b.length : Int) := by omega
            have k2 : (a.length : Int) - ((t : Int) + 1) = (ka : Int) := by omega
            have k3 : (b.length : Int) - ((t : Int) + 1) = (kb : Int) := by omega
            have k4 : IntKind.i64.wrap ((a.length : Int) - ((t : Int) + 1)) = (ka : Int) := by rw [k2]; exact IntWalk.i64_in _ (by omega)
            have k5 : IntKind.i64.wrap ((b.length : Int) - ((t : Int) + 1)) = (kb : Int) := by rw [k3]; exact IntWalk.i64_in _ (by omega)
            have k6 : IntKind.i64.wrap ((t : Int) + 1 + 1) = (t : Int) + 1 + 1 := IntWalk.i64_in _ (by omega)
            have k7 : IntKind.i64.wrap (ka : Int) = (ka : Int) := IntWalk.i64_in _ (by omega)
            have k8 : IntKind.i64.wrap (kb : Int) = (kb : Int) := IntWalk.i64_in _ (by omega)
            clear hka hkb
            have F1 := Lib.hid (fun X (h : Ens X q1 a) => E1.out X ka HLA.out h)
            have F2 := Lib.hid (fun X (h : Ens X q2 b) => E2.out X kb HLB.out h)
            obtain ⟨X, hX⟩ : ∃ X, Hid (X = sumdS cut a ka) := ⟨_, Lib.hid rfl⟩
            obtain ⟨Y, hY⟩ : ∃ Y, Hid (Y = sumdS cut b kb) := ⟨_, Lib.hid rfl⟩
            rw [← hX.out] at F1 HDP
            rw [← hY.out] at F2 HDP
            go_upto_region 7 with (first
              | (go_at_call 45; refine (F2.out _ HI5.out.eb).mono ?_; rintro r w6 ⟨qy, cy, rfl, hr, hcy, hb⟩; have HCY := Lib.hid hcy; clear hcy; have HI6 := Lib.hid (HI5.out.on hb); have HXY := Lib.hid (show Rd0 w6 qx X ∧ Rd0 w6 qy Y from ⟨HRX.out.on hb, hr⟩); clear hr hb)
              | (go_at_call 45; refine (F1.out _ HI.out.ea).mono ?_; rintro r w5 ⟨qx, cx, rfl, hr, hcx, hb⟩; have HCX := Lib.hid hcx; clear hcx; have HI5 := Lib.hid (HI.out.on hb); have HRX := Lib.hid hr; clear hr hb))
            have v1 := run_back8 w6 qx X cx HXY.out.1
            have v2 := run_back8 w6 qy Y cy HXY.out.2
            rcases Bool.eq_false_or_eq_true (X == Y) with hxy | hxy
            · have HT2 := Lib.hid (show R = clsF ((prsS cut a b).drop (t + 1)) by rw [HT.out, HDP.out]; show (if (X == Y) = true then _ else _) = _; rw [if_pos hxy])
              obtain rfl : X = Y := eq_of_beq hxy
              have hxy2 : (X != X) = false := by simp
              go_wp2_with fail
              go_roundw
              case rel => exact ⟨t + 1, by omega, by go_num, HT2, HI6.out⟩
              case measure => simp [intOf]; try omega
            · have HT2 := Lib.hid (show R = (X, Y, true) by rw [HT.out, HDP.out]; show (if (X == Y) = true then _ else _) = _; rw [if_neg (by rw [hxy]; decide)])
              have hxy2 : (X != Y) = true := by simp [bne, hxy]
              go_wp2_with fail
              refine bodyPost_ret (results_tmp3 rfl _ _ _) rfl ?_; exact (ClR.yes HT2.out HXY.out.1 HXY.out.2 HCX.out HCY.out HI6.out.bel)
          · have HR3 := Lib.hid (show R = ([], [], false) by rw [HT.out, show t = min a.length b.length by omega, prs_end]; rfl)
            by_cases hta : a.length ≤ t
            · have k0 : (a.length : Int) < (t : Int) + 1 := by omega
              have k0' : ¬ (t : Int) + 1 ≤ (a.length : Int) := by omega
              obtain ⟨wq, rfl⟩ : ∃ wq : World, wq = wr := ⟨_, rfl⟩
              go_wp2_with fail
              refine bodyPost_ret (results_tmp3 rfl _ _ _) rfl ?_; exact (ClR.no HR3.out HI.out.bel)
            · have k0 : (t : Int) + 1 ≤ (a.length : Int) := by omega
              have k1 : (b.length : Int) < (t : Int) + 1 := by omega
              have k1' : ¬ (t : Int) + 1 ≤ (b.length : Int) := by omega
              obtain ⟨wq, rfl⟩ : ∃ wq : World, wq = wr := ⟨_, rfl⟩
              go_wp2_with fail
              refine bodyPost_ret (results_tmp3 rfl _ _ _) rfl ?_; exact (ClR.no HR3.out HI.out.bel)
      · have he2 : (SA != SB) = true := by simp [bne, he]
        refine wpAnyH_take (i := 19) (v := ?_) rfl (by kernel_rfl) (by kernel_rfl) (by kernel_rfl) (fun _ _ _ h => h) (Or.inl ⟨by rfl, ?hy⟩) (by assumption) ?_
        case hy =>
          intro w hSw
          go_simp
          all_goals with_reducible rfl
        (try simp only [Act.put, List.getElem_toArray, List.getElem_cons_succ, List.getElem_cons_zero, List.setIfInBounds_toArray, List.set_cons_zero, List.set_cons_succ])
        refine wpAnyH_take (i := 20) (v := ?_) rfl (by kernel_rfl) (by kernel_rfl) (by kernel_rfl) (fun _ _ _ h => h) (Or.inl ⟨by rfl, ?hy⟩) (by assumption) ?_
        case hy =>
          intro w hSw
          go_simp
          all_goals with_reducible rfl
        (try simp only [Act.put, List.getElem_toArray, List.getElem_cons_succ, List.getElem_cons_zero, List.setIfInBounds_toArray, List.set_cons_zero, List.set_cons_succ])
        refine wpAnyH_done (by kernel_rfl) ?_ _
        have HR2 := Lib.hid (show R = ([], [], false) by rw [HR.out, if_neg (by rw [he]; decide)])
        go_wp2_with fail
        refine bodyPost_ret (results_tmp3 rfl _ _ _) rfl ?_; exact (ClR.no HR2.out HD4.out.bel)
    · go_simp
      skip
      refine hK.out _ _ (trivial) (fun hHeld => ?_)
      clear hK K
      (try simp only [Act.put, List.getElem_toArray, List.getElem_cons_succ, List.getElem_cons_zero, List.setIfInBounds_toArray, List.set_cons_zero, List.set_cons_succ])
      refine wpAnyH_ready (rs := [14]) (by kernel_rfl) (by simp) ?_
      refine AllReadyH.cons rfl (fun K hK => ?_) AllReadyH.nil
      go_simp
      skip
      refine hK.out _ _ (trivial) (fun hHeld => ?_)
      clear hK K
      (try simp only [Act.put, List.getElem_toArray, List.getElem_cons_succ, List.getElem_cons_zero, List.setIfInBounds_toArray, List.set_cons_zero, List.set_cons_succ])
      rcases Bool.eq_false_or_eq_true (SA == SB) with he | he
      · obtain rfl : SA = SB := eq_of_beq he
        have he2 : (SA != SA) = false := by simp
        refine wpAnyH_take (i := 19) (v := ?_) rfl (by kernel_rfl) (by kernel_rfl) (by kernel_rfl) (fun _ _ _ h => h) (Or.inl ⟨by rfl, ?hy⟩) (by assumption) ?_
        case hy =>
          intro w hSw
          go_simp
          all_goals with_reducible rfl
        (try simp only [Act.put, List.getElem_toArray, List.getElem_cons_succ, List.getElem_cons_zero, List.setIfInBounds_toArray, List.set_cons_zero, List.set_cons_succ])
        refine wpAnyH_take (i := 20) (v := ?_) rfl (by kernel_rfl) (by kernel_rfl) (by kernel_rfl) (fun _ _ _ h => h) (Or.inl ⟨by rfl, ?hy⟩) (by assumption) ?_
        case hy =>
          intro w hSw
          go_simp
          all_goals with_reducible rfl
        (try simp only [Act.put, List.getElem_toArray, List.getElem_cons_succ, List.getElem_cons_zero, List.setIfInBounds_toArray, List.set_cons_zero, List.set_cons_succ])
        refine wpAnyH_done (by kernel_rfl) ?_ _
        have HR2 := Lib.hid (show R = clsF ((prsS cut a b).drop 0) by rw [HR.out, if_pos he, List.drop_zero])
        clear HR HRR HRa cv1 cv2 cv3 HD HD1 HD2 HD3 C1 C2 D1 D2
        go_wp2_with fail
        go_loopw [9] (fun i wr => ∃ t : Nat, t ≤ min a.length b.length ∧ i = .int .i64 ((t : Int) + 1) ∧ Hid (R = clsF ((prsS cut a b).drop t)) ∧ Rc wr w q1 a q2 b) (fun i _ => a.length + 1 - (intOf i).toNat)
        case atStart => exact ⟨0, Nat.zero_le _, by simp, HR2, HD4.out⟩
        case round =>
          clear HR2 HD4
          obtain ⟨t, ht, rfl, HT, hci⟩ := hrel
          have HI := Lib.hid hci
          clear hci
          by_cases hlt : t < min a.length b.length
          · have HDP := Lib.hid (prs_drop cut a b t hlt)
            obtain ⟨ka, hka⟩ : ∃ ka, ka = a.length - 1 - t := ⟨_, rfl⟩
            obtain ⟨kb, hkb⟩ : ∃ kb, kb = b.length - 1 - t := ⟨_, rfl⟩
            rw [← hka, ← hkb] at HDP
            have HLA := Lib.hid (show ka < a.length by omega)
            have HLB := Lib.hid (show kb < b.length by omega)
            have k0 : (t : Int) + 1 ≤ (a.length : Int) := by omega
            have k1 : (t : Int) + 1 ≤ (b.length : Int) := by omega
            have k2 : (a.length : Int) - ((t : Int) + 1) = (ka : Int) := by omega
            have k3 : (b.length : Int) - ((t : Int) + 1) = (kb : Int) := by omega
            have k4 : IntKind.i64.wrap ((a.length : Int) - ((t : Int) + 1)) = (ka : Int) := by rw [k2]; exact IntWalk.i64_in _ (by omega)
            have k5 : IntKind.i64.wrap ((b.length : Int) - ((t : Int) + 1)) = (kb : Int) := by rw [k3]; exact IntWalk.i64_in _ (by omega)
            have k6 : IntKind.i64.wrap ((t : Int) + 1 + 1) = (t : Int) + 1 + 1 := IntWalk.i64_in _ (by omega)
            have k7 : IntKind.i64.wrap (ka : Int) = (ka : Int) := IntWalk.i64_in _ (by omega)
            have k8 : IntKind.i64.wrap (kb : Int) = (kb : Int) := IntWalk.i64_in _ (by omega)
            clear hka hkb
            have F1 := Lib.hid (fun X (h : Ens X q1 a) => E1.out X ka HLA.out h)
            have F2 := Lib.hid (fun X (h : Ens X q2 b) => E2.out X kb HLB.out h)
            obtain ⟨X, hX⟩ : ∃ X, Hid (X = sumdS cut a ka) := ⟨_, Lib.hid rfl⟩
            obtain ⟨Y, hY⟩ : ∃ Y, Hid (Y = sumdS cut b kb) := ⟨_, Lib.hid rfl⟩
            rw [← hX.out] at F1 HDP
            rw [← hY.out] at F2 HDP
            go_upto_region 7 with (first
              | (go_at_call 45; refine (F2.out _ HI5.out.eb).mono ?_; rintro r w6 ⟨qy, cy, rfl, hr, hcy, hb⟩; have HCY := Lib.hid hcy; clear hcy; have HI6 := Lib.hid (HI5.out.on hb); have HXY := Lib.hid (show Rd0 w6 qx X ∧ Rd0 w6 qy Y from ⟨HRX.out.on hb, hr⟩); clear hr hb)
              | (go_at_call 45; refine (F1.out _ HI.out.ea).mono ?_; rintro r w5 ⟨qx, cx, rfl, hr, hcx, hb⟩; have HCX := Lib.hid hcx; clear hcx; have HI5 := Lib.hid (HI.out.on hb); have HRX := Lib.hid hr; clear hr hb))
            have v1 := run_back8 w6 qx X cx HXY.out.1
            have v2 := run_back8 w6 qy Y cy HXY.out.2
            rcases Bool.eq_false_or_eq_true (X == Y) with hxy | hxy
            · have HT2 := Lib.hid (show R = clsF ((prsS cut a b).drop (t + 1)) by rw [HT.out, HDP.out]; show (if (X == Y) = true then _ else _) = _; rw [if_pos hxy])
              obtain rfl : X = Y := eq_of_beq hxy
              have hxy2 : (X != X) = false := by simp
              go_wp2_with fail
              go_roundw
              case rel => exact ⟨t + 1, by omega, by go_num, HT2, HI6.out⟩
              case measure => simp [intOf]; try omega
            · have HT2 := Lib.hid (show R = (X, Y, true) by rw [HT.out, HDP.out]; show (if (X == Y) = true then _ else _) = _; rw [if_neg (by rw [hxy]; decide)])
              have hxy2 : (X != Y) = true := by simp [bne, hxy]
              go_wp2_with fail
              refine bodyPost_ret (results_tmp3 rfl _ _ _) rfl ?_; exact (ClR.yes HT2.out HXY.out.1 HXY.out.2 HCX.out HCY.out HI6.out.bel)
          · have HR3 := Lib.hid (show R = ([], [], false) by rw [HT.out, show t = min a.length b.length by omega, prs_end]; rfl)
            by_cases hta : a.length ≤ t
            · have k0 : (a.length : Int) < (t : Int) + 1 := by omega
              have k0' : ¬ (t : Int) + 1 ≤ (a.length : Int) := by omega
              obtain ⟨wq, rfl⟩ : ∃ wq : World, wq = wr := ⟨_, rfl⟩
              go_wp2_with fail
              refine bodyPost_ret (results_tmp3 rfl _ _ _) rfl ?_; exact (ClR.no HR3.out HI.out.bel)
            · have k0 : (t : Int) + 1 ≤ (a.length : Int) := by omega
              have k1 : (b.length : Int) < (t : Int) + 1 := by omega
              have k1' : ¬ (t : Int) + 1 ≤ (b.length : Int) := by omega
              obtain ⟨wq, rfl⟩ : ∃ wq : World, wq = wr := ⟨_, rfl⟩
              go_wp2_with fail
              refine bodyPost_ret (results_tmp3 rfl _ _ _) rfl ?_; exact (ClR.no HR3.out HI.out.bel)
      · have he2 : (SA != SB) = true := by simp [bne, he]
        refine wpAnyH_take (i := 19) (v := ?_) rfl (by kernel_rfl) (by kernel_rfl) (by kernel_rfl) (fun _ _ _ h => h) (Or.inl ⟨by rfl, ?hy⟩) (by assumption) ?_
        case hy =>
          intro w hSw
          go_simp
          all_goals with_reducible rfl
        (try simp only [Act.put, List.getElem_toArray, List.getElem_cons_succ, List.getElem_cons_zero, List.setIfInBounds_toArray, List.set_cons_zero, List.set_cons_succ])
        refine wpAnyH_take (i := 20) (v := ?_) rfl (by kernel_rfl) (by kernel_rfl) (by kernel_rfl) (fun _ _ _ h => h) (Or.inl ⟨by rfl, ?hy⟩) (by assumption) ?_
        case hy =>
          intro w hSw
          go_simp
          all_goals with_reducible rfl
        (try simp only [Act.put, List.getElem_toArray, List.getElem_cons_succ, List.getElem_cons_zero, List.setIfInBounds_toArray, List.set_cons_zero, List.set_cons_succ])
        refine wpAnyH_done (by kernel_rfl) ?_ _
        have HR2 := Lib.hid (show R = ([], [], false) by rw [HR.out, if_neg (by rw [he]; decide)])
        go_wp2_with fail
        refine bodyPost_ret (results_tmp3 rfl _ _ _) rfl ?_; exact (ClR.no HR2.out HD4.out.bel)

def clashR (cut : Int) (a b : List En) : List UInt8 × List UInt8 × Bool := if (okS cut a && okS cut b) = true then clsS cut.toNat a b else ([], [], false)

set_option maxRecDepth 100000 in
set_option maxHeartbeats 2000000 in
theorem cclash_no (cut : Int) (q1 : Option Addr) (a : List En) (c1 : Nat) (q2 : Option Addr) (b : List En) (c2 : Nat) (w : World) (hA : Ens w q1 a) (hB : Ens w q2 b) (hna : a.length ≤ 1000) (hnb : b.length ≤ 1000)
    (h : (decide (1 ≤ cut) && decide (cut ≤ 32)) = false ∨ a.all goodB = false ∨ b.all goodB = false ∨ a.length = 0 ∨ b.length = 0) :
    Calls Tryd.prog 20 #[.int .i64 cut, .slice q1 a.length c1, .slice q2 b.length c2] w fun r w' => ClR w w' r ([], [], false) := by
  have HA := Lib.hid hA
  have HB := Lib.hid hB
  have HNA := Lib.hid hna
  have HNB := Lib.hid hnb
  have HC := Lib.hid (fun X => iscut_any cut X)
  have D1 := Lib.hid (fun X (h : Ens X q1 a) => allgood_any q1 a c1 X h (by omega))
  have D2 := Lib.hid (fun X (h : Ens X q2 b) => allgood_any q2 b c2 X h (by omega))
  clear hA hB
  generalize (decide (1 ≤ cut) && decide (cut ≤ 32)) = ic at *
  generalize a.all goodB = ga at *
  generalize b.all goodB = gb at *
  have hz1 : a.length = 0 ∨ ((a.length : Int) == 0) = false := by
    by_cases e : a.length = 0
    · exact .inl e
    · exact .inr (by rw [beq_eq_false_iff_ne]; omega)
  cases ic with
  | false =>
    clear h hz1
    go_enter Tryd.func20, Tryd.ntmps20
    go_wp2_with (go_at_call 36; refine (HC.out _).mono ?_; rintro r w1 ⟨rfl, rfl⟩)
    refine bodyPost_ret (results_tmp3 rfl _ _ _) rfl ?_; exact (ClR.no rfl (Below.refl _ _))
  | true =>
    cases ga with
    | false =>
      clear h hz1
      go_enter Tryd.func20, Tryd.ntmps20
      go_wp2_with (first
        | (go_at_call 36; refine (HC.out _).mono ?_; rintro r w1 ⟨rfl, rfl⟩)
        | (go_at_call 37; refine (D1.out _ HA.out).mono ?_; rintro r w2 ⟨rfl, hb⟩; have HB2 := Lib.hid hb; clear hb))
      refine bodyPost_ret (results_tmp3 rfl _ _ _) rfl ?_; exact (ClR.no rfl HB2.out)
    | true =>
      cases gb with
      | false =>
        clear h hz1
        go_enter Tryd.func20, Tryd.ntmps20
        go_wp2_with (first
          | (go_at_call 36; refine (HC.out _).mono ?_; rintro r w1 ⟨rfl, rfl⟩)
          | (go_at_call 37; refine (D2.out _ (HB.out.on HB2.out)).mono ?_; rintro r w3 ⟨rfl, hb⟩; have HB3 := Lib.hid (HB2.out.trans (hb.mono HB2.out.size)); clear hb)
          | (go_at_call 37; refine (D1.out _ HA.out).mono ?_; rintro r w2 ⟨rfl, hb⟩; have HB2 := Lib.hid hb; clear hb))
        refine bodyPost_ret (results_tmp3 rfl _ _ _) rfl ?_; exact (ClR.no rfl HB3.out)
      | true =>
        by_cases e1 : a.length = 0
        · clear h hz1
          rw [e1]
          go_enter Tryd.func20, Tryd.ntmps20
          go_wp2_with (first
            | (go_at_call 36; refine (HC.out _).mono ?_; rintro r w1 ⟨rfl, rfl⟩)
            | (go_at_call 37; refine (D2.out _ (HB.out.on HB2.out)).mono ?_; rintro r w3 ⟨rfl, hb⟩; have HB3 := Lib.hid (HB2.out.trans (hb.mono HB2.out.size)); clear hb)
            | (go_at_call 37; refine (by have := D1.out _ HA.out; rw [e1] at this; exact this : Calls _ _ _ _ _).mono ?_; rintro r w2 ⟨rfl, hb⟩; have HB2 := Lib.hid hb; clear hb))
          refine bodyPost_ret (results_tmp3 rfl _ _ _) rfl ?_; exact (ClR.no rfl HB3.out)
        · have e2 : b.length = 0 := by
            rcases h with h | h | h | h | h
            · cases h
            · cases h
            · cases h
            · exact absurd h e1
            · exact h
          have z1 : ((a.length : Int) == 0) = false := hz1.resolve_left e1
          rw [e2] at D2 ⊢
          clear h hz1
          go_enter Tryd.func20, Tryd.ntmps20
          go_wp2_with (first
            | (go_at_call 36; refine (HC.out _).mono ?_; rintro r w1 ⟨rfl, rfl⟩)
            | (go_at_call 37; refine (D2.out _ (HB.out.on HB2.out)).mono ?_; rintro r w3 ⟨rfl, hb⟩; have HB3 := Lib.hid (HB2.out.trans (hb.mono HB2.out.size)); clear hb)
            | (go_at_call 37; refine (D1.out _ HA.out).mono ?_; rintro r w2 ⟨rfl, hb⟩; have HB2 := Lib.hid hb; clear hb))
          refine bodyPost_ret (results_tmp3 rfl _ _ _) rfl ?_; exact (ClR.no rfl HB3.out)
set_option maxRecDepth 100000 in
set_option maxHeartbeats 2000000 in
theorem rclash_no (cut : Int) (q1 : Option Addr) (a : List En) (c1 : Nat) (q2 : Option Addr) (b : List En) (c2 : Nat) (w : World) (hA : Ens w q1 a) (hB : Ens w q2 b) (hna : a.length ≤ 1000) (hnb : b.length ≤ 1000)
    (h : okS cut a = false ∨ okS cut b = false) :
    Calls Tryd.prog 21 #[.int .i64 cut, .slice q1 a.length c1, .slice q2 b.length c2] w fun r w' => ClR w w' r ([], [], false) := by
  have HD := Lib.hid (show Rc w.drew w q1 a q2 b from (show Rc w w q1 a q2 b from ⟨hA, hB, Below.refl _ _⟩).on (Below.refl _ _).drew)
  have D1 := Lib.hid (fun X (h : Ens X q1 a) => right_any cut q1 a c1 X h (by omega))
  have D2 := Lib.hid (fun X (h : Ens X q2 b) => right_any cut q2 b c2 X h (by omega))
  rw [okS_right] at D1 D2
  clear hA hB
  cases e1 : okS cut a with
  | false =>
    rw [e1] at D1
    clear h e1
    go_enter Tryd.func21, Tryd.ntmps21
    go_upto_region 1 with fail
    refine wp_region_held_drew (S := fun _ => True) (by kernel_rfl) trivial (fun hHeld => ?_)
    refine wpAnyH_take (i := 0) (v := ?_) rfl (by kernel_rfl) (by kernel_rfl) (by kernel_rfl) (fun _ _ _ h => h) (Or.inl ⟨by rfl, ?hy⟩) (by assumption) ?_
    case hy =>
      intro w hSw
      go_simp
      all_goals with_reducible rfl
    (try simp only [Act.put, List.getElem_toArray, List.getElem_cons_succ, List.getElem_cons_zero, List.setIfInBounds_toArray, List.set_cons_zero, List.set_cons_succ])
    refine wpAnyH_take (i := 1) (v := ?_) rfl (by kernel_rfl) (by kernel_rfl) (by kernel_rfl) (fun _ _ _ h => h) (Or.inl ⟨by rfl, ?hy⟩) (by assumption) ?_
    case hy =>
      intro w hSw
      go_simp
      all_goals with_reducible rfl
    (try simp only [Act.put, List.getElem_toArray, List.getElem_cons_succ, List.getElem_cons_zero, List.setIfInBounds_toArray, List.set_cons_zero, List.set_cons_succ])
    refine wpAnyH_ready (rs := [2]) (by kernel_rfl) (by simp) ?_
    refine AllReadyH.cons rfl (fun K hK => ?_) AllReadyH.nil
    go_simp
    go_at_call 40
    refine (D1.out _ HD.out.ea).mono ?_
    rintro r w1 ⟨rfl, hb⟩
    have HD1 := Lib.hid (HD.out.on hb)
    clear hb
    refine hK.out _ _ (trivial) (fun hHeld => ?_)
    clear hK K
    (try simp only [Act.put, List.getElem_toArray, List.getElem_cons_succ, List.getElem_cons_zero, List.setIfInBounds_toArray, List.set_cons_zero, List.set_cons_succ])
    refine wpAnyH_take (i := 3) (v := ?_) rfl (by kernel_rfl) (by kernel_rfl) (by kernel_rfl) (fun _ _ _ h => h) (Or.inl ⟨by rfl, ?hy⟩) (by assumption) ?_
    case hy =>
      intro w hSw
      go_simp
      all_goals with_reducible rfl
    (try simp only [Act.put, List.getElem_toArray, List.getElem_cons_succ, List.getElem_cons_zero, List.setIfInBounds_toArray, List.set_cons_zero, List.set_cons_succ])
    refine wpAnyH_take (i := 4) (v := ?_) rfl (by kernel_rfl) (by kernel_rfl) (by kernel_rfl) (fun _ _ _ h => h) (Or.inl ⟨by rfl, ?hy⟩) (by assumption) ?_
    case hy =>
      intro w hSw
      go_simp
      all_goals with_reducible rfl
    (try simp only [Act.put, List.getElem_toArray, List.getElem_cons_succ, List.getElem_cons_zero, List.setIfInBounds_toArray, List.set_cons_zero, List.set_cons_succ])
    refine wpAnyH_take (i := 5) (v := undef) rfl (by kernel_rfl) (by kernel_rfl) (by kernel_rfl) (fun _ _ _ h => h) (Or.inr ⟨by rfl, rfl⟩) (by assumption) ?_
    (try simp only [Act.put, List.getElem_toArray, List.getElem_cons_succ, List.getElem_cons_zero, List.setIfInBounds_toArray, List.set_cons_zero, List.set_cons_succ])
    refine wpAnyH_take (i := 6) (v := undef) rfl (by kernel_rfl) (by kernel_rfl) (by kernel_rfl) (fun _ _ _ h => h) (Or.inr ⟨by rfl, rfl⟩) (by assumption) ?_
    (try simp only [Act.put, List.getElem_toArray, List.getElem_cons_succ, List.getElem_cons_zero, List.setIfInBounds_toArray, List.set_cons_zero, List.set_cons_succ])
    refine wpAnyH_take (i := 7) (v := undef) rfl (by kernel_rfl) (by kernel_rfl) (by kernel_rfl) (fun _ _ _ h => h) (Or.inr ⟨by rfl, rfl⟩) (by assumption) ?_
    (try simp only [Act.put, List.getElem_toArray, List.getElem_cons_succ, List.getElem_cons_zero, List.setIfInBounds_toArray, List.set_cons_zero, List.set_cons_succ])
    refine wpAnyH_take (i := 8) (v := undef) rfl (by kernel_rfl) (by kernel_rfl) (by kernel_rfl) (fun _ _ _ h => h) (Or.inr ⟨by rfl, rfl⟩) (by assumption) ?_
    (try simp only [Act.put, List.getElem_toArray, List.getElem_cons_succ, List.getElem_cons_zero, List.setIfInBounds_toArray, List.set_cons_zero, List.set_cons_succ])
    refine wpAnyH_take (i := 9) (v := ?_) rfl (by kernel_rfl) (by kernel_rfl) (by kernel_rfl) (fun _ _ _ h => h) (Or.inl ⟨by rfl, ?hy⟩) (by assumption) ?_
    case hy =>
      intro w hSw
      go_simp
      all_goals with_reducible rfl
    (try simp only [Act.put, List.getElem_toArray, List.getElem_cons_succ, List.getElem_cons_zero, List.setIfInBounds_toArray, List.set_cons_zero, List.set_cons_succ])
    refine wpAnyH_take (i := 10) (v := ?_) rfl (by kernel_rfl) (by kernel_rfl) (by kernel_rfl) (fun _ _ _ h => h) (Or.inl ⟨by rfl, ?hy⟩) (by assumption) ?_
    case hy =>
      intro w hSw
      go_simp
      all_goals with_reducible rfl
    (try simp only [Act.put, List.getElem_toArray, List.getElem_cons_succ, List.getElem_cons_zero, List.setIfInBounds_toArray, List.set_cons_zero, List.set_cons_succ])
    refine wpAnyH_take (i := 11) (v := undef) rfl (by kernel_rfl) (by kernel_rfl) (by kernel_rfl) (fun _ _ _ h => h) (Or.inr ⟨by rfl, rfl⟩) (by assumption) ?_
    (try simp only [Act.put, List.getElem_toArray, List.getElem_cons_succ, List.getElem_cons_zero, List.setIfInBounds_toArray, List.set_cons_zero, List.set_cons_succ])
    refine wpAnyH_take (i := 12) (v := undef) rfl (by kernel_rfl) (by kernel_rfl) (by kernel_rfl) (fun _ _ _ h => h) (Or.inr ⟨by rfl, rfl⟩) (by assumption) ?_
    (try simp only [Act.put, List.getElem_toArray, List.getElem_cons_succ, List.getElem_cons_zero, List.setIfInBounds_toArray, List.set_cons_zero, List.set_cons_succ])
    refine wpAnyH_take (i := 13) (v := undef) rfl (by kernel_rfl) (by kernel_rfl) (by kernel_rfl) (fun _ _ _ h => h) (Or.inr ⟨by rfl, rfl⟩) (by assumption) ?_
    (try simp only [Act.put, List.getElem_toArray, List.getElem_cons_succ, List.getElem_cons_zero, List.setIfInBounds_toArray, List.set_cons_zero, List.set_cons_succ])
    refine wpAnyH_take (i := 14) (v := undef) rfl (by kernel_rfl) (by kernel_rfl) (by kernel_rfl) (fun _ _ _ h => h) (Or.inr ⟨by rfl, rfl⟩) (by assumption) ?_
    (try simp only [Act.put, List.getElem_toArray, List.getElem_cons_succ, List.getElem_cons_zero, List.setIfInBounds_toArray, List.set_cons_zero, List.set_cons_succ])
    refine wpAnyH_take (i := 15) (v := undef) rfl (by kernel_rfl) (by kernel_rfl) (by kernel_rfl) (fun _ _ _ h => h) (Or.inr ⟨by rfl, rfl⟩) (by assumption) ?_
    (try simp only [Act.put, List.getElem_toArray, List.getElem_cons_succ, List.getElem_cons_zero, List.setIfInBounds_toArray, List.set_cons_zero, List.set_cons_succ])
    refine wpAnyH_take (i := 16) (v := undef) rfl (by kernel_rfl) (by kernel_rfl) (by kernel_rfl) (fun _ _ _ h => h) (Or.inr ⟨by rfl, rfl⟩) (by assumption) ?_
    (try simp only [Act.put, List.getElem_toArray, List.getElem_cons_succ, List.getElem_cons_zero, List.setIfInBounds_toArray, List.set_cons_zero, List.set_cons_succ])
    refine wpAnyH_take (i := 17) (v := undef) rfl (by kernel_rfl) (by kernel_rfl) (by kernel_rfl) (fun _ _ _ h => h) (Or.inr ⟨by rfl, rfl⟩) (by assumption) ?_
    (try simp only [Act.put, List.getElem_toArray, List.getElem_cons_succ, List.getElem_cons_zero, List.setIfInBounds_toArray, List.set_cons_zero, List.set_cons_succ])
    refine wpAnyH_take (i := 18) (v := undef) rfl (by kernel_rfl) (by kernel_rfl) (by kernel_rfl) (fun _ _ _ h => h) (Or.inr ⟨by rfl, rfl⟩) (by assumption) ?_
    (try simp only [Act.put, List.getElem_toArray, List.getElem_cons_succ, List.getElem_cons_zero, List.setIfInBounds_toArray, List.set_cons_zero, List.set_cons_succ])
    refine wpAnyH_take (i := 19) (v := undef) rfl (by kernel_rfl) (by kernel_rfl) (by kernel_rfl) (fun _ _ _ h => h) (Or.inr ⟨by rfl, rfl⟩) (by assumption) ?_
    (try simp only [Act.put, List.getElem_toArray, List.getElem_cons_succ, List.getElem_cons_zero, List.setIfInBounds_toArray, List.set_cons_zero, List.set_cons_succ])
    refine wpAnyH_take (i := 20) (v := ?_) rfl (by kernel_rfl) (by kernel_rfl) (by kernel_rfl) (fun _ _ _ h => h) (Or.inl ⟨by rfl, ?hy⟩) (by assumption) ?_
    case hy =>
      intro w hSw
      go_simp
      all_goals with_reducible rfl
    (try simp only [Act.put, List.getElem_toArray, List.getElem_cons_succ, List.getElem_cons_zero, List.setIfInBounds_toArray, List.set_cons_zero, List.set_cons_succ])
    refine wpAnyH_done (by kernel_rfl) ?_ _
    go_wp2_with fail
    refine bodyPost_ret (results_tmp3 rfl _ _ _) rfl ?_; exact (ClR.no rfl HD1.out.bel)
  | true =>
    have e2 : okS cut b = false := by
      rcases h with h | h
      · rw [e1] at h; cases h
      · exact h
    rw [e1] at D1
    rw [e2] at D2
    clear h e1 e2
    go_enter Tryd.func21, Tryd.ntmps21
    go_upto_region 1 with fail
    refine wp_region_held_drew (S := fun _ => True) (by kernel_rfl) trivial (fun hHeld => ?_)
    refine wpAnyH_take (i := 0) (v := ?_) rfl (by kernel_rfl) (by kernel_rfl) (by kernel_rfl) (fun _ _ _ h => h) (Or.inl ⟨by rfl, ?hy⟩) (by assumption) ?_
    case hy =>
      intro w hSw
      go_simp
      all_goals with_reducible rfl
    (try simp only [Act.put, List.getElem_toArray, List.getElem_cons_succ, List.getElem_cons_zero, List.setIfInBounds_toArray, List.set_cons_zero, List.set_cons_succ])
    refine wpAnyH_take (i := 1) (v := ?_) rfl (by kernel_rfl) (by kernel_rfl) (by kernel_rfl) (fun _ _ _ h => h) (Or.inl ⟨by rfl, ?hy⟩) (by assumption) ?_
    case hy =>
      intro w hSw
      go_simp
      all_goals with_reducible rfl
    (try simp only [Act.put, List.getElem_toArray, List.getElem_cons_succ, List.getElem_cons_zero, List.setIfInBounds_toArray, List.set_cons_zero, List.set_cons_succ])
    refine wpAnyH_ready (rs := [2]) (by kernel_rfl) (by simp) ?_
    refine AllReadyH.cons rfl (fun K hK => ?_) AllReadyH.nil
    go_simp
    go_at_call 40
    refine (D1.out _ HD.out.ea).mono ?_
    rintro r w1 ⟨rfl, hb⟩
    have HD1 := Lib.hid (HD.out.on hb)
    clear hb
    refine hK.out _ _ (trivial) (fun hHeld => ?_)
    clear hK K
    (try simp only [Act.put, List.getElem_toArray, List.getElem_cons_succ, List.getElem_cons_zero, List.setIfInBounds_toArray, List.set_cons_zero, List.set_cons_succ])
    refine wpAnyH_take (i := 3) (v := ?_) rfl (by kernel_rfl) (by kernel_rfl) (by kernel_rfl) (fun _ _ _ h => h) (Or.inl ⟨by rfl, ?hy⟩) (by assumption) ?_
    case hy =>
      intro w hSw
      go_simp
      all_goals with_reducible rfl
    (try simp only [Act.put, List.getElem_toArray, List.getElem_cons_succ, List.getElem_cons_zero, List.setIfInBounds_toArray, List.set_cons_zero, List.set_cons_succ])
    refine wpAnyH_take (i := 4) (v := ?_) rfl (by kernel_rfl) (by kernel_rfl) (by kernel_rfl) (fun _ _ _ h => h) (Or.inl ⟨by rfl, ?hy⟩) (by assumption) ?_
    case hy =>
      intro w hSw
      go_simp
      all_goals with_reducible rfl
    (try simp only [Act.put, List.getElem_toArray, List.getElem_cons_succ, List.getElem_cons_zero, List.setIfInBounds_toArray, List.set_cons_zero, List.set_cons_succ])
    refine wpAnyH_take (i := 5) (v := ?_) rfl (by kernel_rfl) (by kernel_rfl) (by kernel_rfl) (fun _ _ _ h => h) (Or.inl ⟨by rfl, ?hy⟩) (by assumption) ?_
    case hy =>
      intro w hSw
      go_simp
      all_goals with_reducible rfl
    (try simp only [Act.put, List.getElem_toArray, List.getElem_cons_succ, List.getElem_cons_zero, List.setIfInBounds_toArray, List.set_cons_zero, List.set_cons_succ])
    refine wpAnyH_take (i := 6) (v := ?_) rfl (by kernel_rfl) (by kernel_rfl) (by kernel_rfl) (fun _ _ _ h => h) (Or.inl ⟨by rfl, ?hy⟩) (by assumption) ?_
    case hy =>
      intro w hSw
      go_simp
      all_goals with_reducible rfl
    (try simp only [Act.put, List.getElem_toArray, List.getElem_cons_succ, List.getElem_cons_zero, List.setIfInBounds_toArray, List.set_cons_zero, List.set_cons_succ])
    refine wpAnyH_ready (rs := [7]) (by kernel_rfl) (by simp) ?_
    refine AllReadyH.cons rfl (fun K hK => ?_) AllReadyH.nil
    go_simp
    go_at_call 40
    refine (D2.out _ HD1.out.eb).mono ?_
    rintro r w2 ⟨rfl, hb⟩
    have HD2 := Lib.hid (HD1.out.on hb)
    clear hb
    refine hK.out _ _ (trivial) (fun hHeld => ?_)
    clear hK K
    (try simp only [Act.put, List.getElem_toArray, List.getElem_cons_succ, List.getElem_cons_zero, List.setIfInBounds_toArray, List.set_cons_zero, List.set_cons_succ])
    refine wpAnyH_take (i := 8) (v := ?_) rfl (by kernel_rfl) (by kernel_rfl) (by kernel_rfl) (fun _ _ _ h => h) (Or.inl ⟨by rfl, ?hy⟩) (by assumption) ?_
    case hy =>
      intro w hSw
      go_simp
      all_goals with_reducible rfl
    (try simp only [Act.put, List.getElem_toArray, List.getElem_cons_succ, List.getElem_cons_zero, List.setIfInBounds_toArray, List.set_cons_zero, List.set_cons_succ])
    refine wpAnyH_take (i := 9) (v := ?_) rfl (by kernel_rfl) (by kernel_rfl) (by kernel_rfl) (fun _ _ _ h => h) (Or.inl ⟨by rfl, ?hy⟩) (by assumption) ?_
    case hy =>
      intro w hSw
      go_simp
      all_goals with_reducible rfl
    (try simp only [Act.put, List.getElem_toArray, List.getElem_cons_succ, List.getElem_cons_zero, List.setIfInBounds_toArray, List.set_cons_zero, List.set_cons_succ])
    refine wpAnyH_take (i := 10) (v := ?_) rfl (by kernel_rfl) (by kernel_rfl) (by kernel_rfl) (fun _ _ _ h => h) (Or.inl ⟨by rfl, ?hy⟩) (by assumption) ?_
    case hy =>
      intro w hSw
      go_simp
      all_goals with_reducible rfl
    (try simp only [Act.put, List.getElem_toArray, List.getElem_cons_succ, List.getElem_cons_zero, List.setIfInBounds_toArray, List.set_cons_zero, List.set_cons_succ])
    refine wpAnyH_take (i := 11) (v := undef) rfl (by kernel_rfl) (by kernel_rfl) (by kernel_rfl) (fun _ _ _ h => h) (Or.inr ⟨by rfl, rfl⟩) (by assumption) ?_
    (try simp only [Act.put, List.getElem_toArray, List.getElem_cons_succ, List.getElem_cons_zero, List.setIfInBounds_toArray, List.set_cons_zero, List.set_cons_succ])
    refine wpAnyH_take (i := 12) (v := undef) rfl (by kernel_rfl) (by kernel_rfl) (by kernel_rfl) (fun _ _ _ h => h) (Or.inr ⟨by rfl, rfl⟩) (by assumption) ?_
    (try simp only [Act.put, List.getElem_toArray, List.getElem_cons_succ, List.getElem_cons_zero, List.setIfInBounds_toArray, List.set_cons_zero, List.set_cons_succ])
    refine wpAnyH_take (i := 13) (v := undef) rfl (by kernel_rfl) (by kernel_rfl) (by kernel_rfl) (fun _ _ _ h => h) (Or.inr ⟨by rfl, rfl⟩) (by assumption) ?_
    (try simp only [Act.put, List.getElem_toArray, List.getElem_cons_succ, List.getElem_cons_zero, List.setIfInBounds_toArray, List.set_cons_zero, List.set_cons_succ])
    refine wpAnyH_take (i := 14) (v := undef) rfl (by kernel_rfl) (by kernel_rfl) (by kernel_rfl) (fun _ _ _ h => h) (Or.inr ⟨by rfl, rfl⟩) (by assumption) ?_
    (try simp only [Act.put, List.getElem_toArray, List.getElem_cons_succ, List.getElem_cons_zero, List.setIfInBounds_toArray, List.set_cons_zero, List.set_cons_succ])
    refine wpAnyH_take (i := 15) (v := undef) rfl (by kernel_rfl) (by kernel_rfl) (by kernel_rfl) (fun _ _ _ h => h) (Or.inr ⟨by rfl, rfl⟩) (by assumption) ?_
    (try simp only [Act.put, List.getElem_toArray, List.getElem_cons_succ, List.getElem_cons_zero, List.setIfInBounds_toArray, List.set_cons_zero, List.set_cons_succ])
    refine wpAnyH_take (i := 16) (v := undef) rfl (by kernel_rfl) (by kernel_rfl) (by kernel_rfl) (fun _ _ _ h => h) (Or.inr ⟨by rfl, rfl⟩) (by assumption) ?_
    (try simp only [Act.put, List.getElem_toArray, List.getElem_cons_succ, List.getElem_cons_zero, List.setIfInBounds_toArray, List.set_cons_zero, List.set_cons_succ])
    refine wpAnyH_take (i := 17) (v := undef) rfl (by kernel_rfl) (by kernel_rfl) (by kernel_rfl) (fun _ _ _ h => h) (Or.inr ⟨by rfl, rfl⟩) (by assumption) ?_
    (try simp only [Act.put, List.getElem_toArray, List.getElem_cons_succ, List.getElem_cons_zero, List.setIfInBounds_toArray, List.set_cons_zero, List.set_cons_succ])
    refine wpAnyH_take (i := 18) (v := undef) rfl (by kernel_rfl) (by kernel_rfl) (by kernel_rfl) (fun _ _ _ h => h) (Or.inr ⟨by rfl, rfl⟩) (by assumption) ?_
    (try simp only [Act.put, List.getElem_toArray, List.getElem_cons_succ, List.getElem_cons_zero, List.setIfInBounds_toArray, List.set_cons_zero, List.set_cons_succ])
    refine wpAnyH_take (i := 19) (v := undef) rfl (by kernel_rfl) (by kernel_rfl) (by kernel_rfl) (fun _ _ _ h => h) (Or.inr ⟨by rfl, rfl⟩) (by assumption) ?_
    (try simp only [Act.put, List.getElem_toArray, List.getElem_cons_succ, List.getElem_cons_zero, List.setIfInBounds_toArray, List.set_cons_zero, List.set_cons_succ])
    refine wpAnyH_take (i := 20) (v := ?_) rfl (by kernel_rfl) (by kernel_rfl) (by kernel_rfl) (fun _ _ _ h => h) (Or.inl ⟨by rfl, ?hy⟩) (by assumption) ?_
    case hy =>
      intro w hSw
      go_simp
      all_goals with_reducible rfl
    (try simp only [Act.put, List.getElem_toArray, List.getElem_cons_succ, List.getElem_cons_zero, List.setIfInBounds_toArray, List.set_cons_zero, List.set_cons_succ])
    refine wpAnyH_done (by kernel_rfl) ?_ _
    go_wp2_with fail
    refine bodyPost_ret (results_tmp3 rfl _ _ _) rfl ?_; exact (ClR.no rfl HD2.out.bel)

theorem clsS_empty (cut : Nat) (a b : List En) (h : a.length = 0 ∨ b.length = 0) : clsS cut a b = ([], [], false) := by
  have e : prsS cut a b = [] := by
    apply List.eq_nil_of_length_eq_zero
    rw [prs_len]; omega
  unfold clsS
  rw [e]
  split <;> rfl
theorem okS_parts {cut : Int} {l : List En} (h : okS cut l = true) : 1 ≤ cut ∧ cut ≤ 32 ∧ l.all goodB = true := by
  simp only [okS, Bool.and_eq_true, decide_eq_true_eq] at h
  exact ⟨h.1.1, h.1.2, h.2⟩
theorem cclash_both (cut : Int) (q1 : Option Addr) (a : List En) (c1 : Nat) (q2 : Option Addr) (b : List En) (c2 : Nat) (w : World) (hE : Env w) (hA : Ens w q1 a) (hB : Ens w q2 b) (hna : a.length ≤ 1000) (hnb : b.length ≤ 1000) :
    Calls Tryd.prog 20 #[.int .i64 cut, .slice q1 a.length c1, .slice q2 b.length c2] w fun r w' => ClR w w' r (clashR cut a b) := by
  unfold clashR
  by_cases hk : (okS cut a && okS cut b) = true
  · rw [if_pos hk]
    rw [Bool.and_eq_true] at hk
    obtain ⟨h1, h2, h3⟩ := okS_parts hk.1
    obtain ⟨_, _, h4⟩ := okS_parts hk.2
    obtain ⟨n, rfl⟩ : ∃ n : Nat, cut = (n : Int) := ⟨cut.toNat, by omega⟩
    rw [Int.toNat_natCast]
    by_cases h0 : a.length = 0 ∨ b.length = 0
    · rw [clsS_empty n a b h0]
      exact cclash_no (n : Int) q1 a c1 q2 b c2 w hA hB hna hnb (.inr (.inr (.inr h0)))
    · exact cclash_good n q1 a c1 q2 b c2 w hE hA hB hna hnb (by omega) (by omega) (by omega) (by omega) h3 h4
  · rw [if_neg hk]
    refine cclash_no cut q1 a c1 q2 b c2 w hA hB hna hnb ?_
    unfold okS at hk
    cases e1 : (decide (1 ≤ cut) && decide (cut ≤ 32)) with
    | false => exact .inl rfl
    | true =>
      rw [e1, Bool.true_and, Bool.true_and] at hk
      cases e2 : a.all goodB with
      | false => exact .inr (.inl rfl)
      | true =>
        rw [e2, Bool.true_and] at hk
        exact .inr (.inr (.inl (by simpa using hk)))
theorem rclash_both (cut : Int) (q1 : Option Addr) (a : List En) (c1 : Nat) (q2 : Option Addr) (b : List En) (c2 : Nat) (w : World) (hA : Ens w q1 a) (hB : Ens w q2 b) (hca : a.length ≤ c1) (hcb : b.length ≤ c2) (hna : a.length ≤ 1000) (hnb : b.length ≤ 1000) :
    Calls Tryd.prog 21 #[.int .i64 cut, .slice q1 a.length c1, .slice q2 b.length c2] w fun r w' => ClR w w' r (clashR cut a b) := by
  unfold clashR
  by_cases hk : (okS cut a && okS cut b) = true
  · rw [if_pos hk]
    rw [Bool.and_eq_true] at hk
    obtain ⟨h1, h2, h3⟩ := okS_parts hk.1
    obtain ⟨_, _, h4⟩ := okS_parts hk.2
    obtain ⟨n, rfl⟩ : ∃ n : Nat, cut = (n : Int) := ⟨cut.toNat, by omega⟩
    rw [Int.toNat_natCast]
    exact rclash_ok n q1 a c1 q2 b c2 w hA hB hca hcb hna hnb (by omega) (by omega) h3 h4
  · rw [if_neg hk]
    refine rclash_no cut q1 a c1 q2 b c2 w hA hB hna hnb ?_
    cases e1 : okS cut a with
    | false => exact .inl rfl
    | true =>
      rw [e1, Bool.true_and] at hk
      exact .inr (by simpa using hk)
end Go.Proofs.YtammglimobninaaDoor
