/-
  Joined of: Opn, QuA, QuB, CpyD.
-/
import Derived.Test.YtnjdganikeganaaGreatDoorJa22
import Derived.SizedLaws
import Derived.DataShut
import Derived.Lib.SmallJoins
import Derived.Deep.SlicePairs
import Derived.Test.YtnjdganikeganaaGreatDoorJa21
import Derived.Test.YtnjdganikeganaaGreatDoorJa32
set_option linter.unusedVariables false
set_option linter.unusedSimpArgs false
/-
  Reading the arguments of this seat's statements: literals and clauses, with what their sizes are held to.
-/
namespace Go.Proofs.YtnjdganikeganaaGreatDoor
open Go.ChangeShapes Go.WideShapes Go.ChangeAt Go.WideMaps Go.WideElems Go.RowKit Go.Joins Go.Deep

section
variable {H : Type} {P : Program}
/-- all that a datum weighs is within reach -/
def Wt (P : Program) (t : TypeId) (d : DataW H) : Prop := ∀ n ∈ d.weights P t, n ≤ reachBytes
theorem weights_mem_all {e : TypeId} : ∀ {l : List (DataW H)} {d : DataW H}, d ∈ l → ∀ n ∈ d.weights P e, n ∈ DataW.weightsAll P e l
  | x :: r, d, hd, n, hn => by
    simp only [DataW.weightsAll, List.mem_append]
    rcases List.mem_cons.1 hd with rfl | hd
    · exact .inl hn
    · exact .inr (weights_mem_all hd n hn)
theorem Wt.agg {t : TypeId} {fs : Array Field} {ps : List (DataW H)} (hu : P.underlying t = some (.struct fs)) (h : Wt P t (.agg ps)) {j : Nat} {f : Field} {d : DataW H} (hf : fs.toList[j]? = some f) (hd : ps[j]? = some d) : Wt P f.type d := by
  intro n hn
  refine h n ?_
  simp only [DataW.weights, hu]
  exact DataW.weights_mem_each (j := j) (t := f.type) (by simp [hf]) hd n hn
theorem Wt.slice {t e : TypeId} {elems spare : List (DataW H)} (hu : P.underlying t = some (.slice e)) (h : Wt P t (.slice elems spare)) :
    (elems.length + spare.length) * P.bytesOf e ≤ reachBytes ∧ ∀ d ∈ elems, Wt P e d := by
  refine ⟨h _ (by simp only [DataW.weights, hu]; exact List.mem_cons_self), fun d hd n hn => h n ?_⟩
  simp only [DataW.weights, hu]
  exact List.mem_cons_of_mem _ (List.mem_append_left _ (weights_mem_all hd n hn))
theorem Wt.str {t : TypeId} {bs : List UInt8} (h : Wt P t (.lit (.string bs) : DataW H)) : bs.length ≤ reachBytes := h _ (by simp [DataW.weights])
theorem wt_of_sized {ts : List TypeId} {ds : List (DataW H)} (h : (DataW.weightsEach P ts ds).all (· ≤ reachBytes) = true) {j : Nat} {t : TypeId} {d : DataW H} (ht : ts[j]? = some t) (hd : ds[j]? = some d) : Wt P t d := fun n hn => by
  have := List.all_eq_true.1 h n (DataW.weights_mem_each ht hd n hn)
  simpa using this
end
theorem reach_val : reachBytes = 140737488351232 := rfl

theorem cellsTerm : Tryz.prog.cellsOf 25 = 3 := by kernel_rfl
theorem cellsLit : Tryz.prog.cellsOf 28 = 6 := by kernel_rfl
theorem cellsClause : Tryz.prog.cellsOf 31 = 7 := by kernel_rfl
theorem cellsValue : Tryz.prog.cellsOf 23 = 2 := by kernel_rfl
theorem cellsS : Tryz.prog.cellsOf 9 = 1 := by kernel_rfl
theorem cellsI : Tryz.prog.cellsOf 2 = 1 := by kernel_rfl
theorem cellsU8 : Tryz.prog.cellsOf 5 = 1 := by kernel_rfl
theorem cellssT : Tryz.prog.cellsOf 26 = 1 := by kernel_rfl
theorem cellssL : Tryz.prog.cellsOf 29 = 1 := by kernel_rfl
theorem bytesTerm : Tryz.prog.bytesOf 25 = 40 := by kernel_rfl
theorem bytesLit : Tryz.prog.bytesOf 28 = 88 := by kernel_rfl

section
variable {H : Type} {enc : TypeId × Value → H} {W : World}
theorem one_str {fuel : Nat} {a : Value} {x : DataW H × List MemPlace} (h : DataW.trod enc Tryz.prog W 0 (fun _ => true) true fuel 9 [a] = some x) (hw : Wt Tryz.prog 9 x.1) :
    ∃ s : ByteArray, a = .string s ∧ s.size ≤ 140737488351232 := by
  obtain ⟨s, e0, rfl, _⟩ := DataW.trod_string Tryz.underlying9 h
  have := Wt.str hw
  rw [reach_val] at this
  simp at e0
  exact ⟨s, e0, this⟩
theorem one_int {fuel : Nat} {a : Value} {x : DataW H × List MemPlace} (h : DataW.trod enc Tryz.prog W 0 (fun _ => true) true fuel 2 [a] = some x) :
    ∃ n : Int, a = .int .i64 n ∧ -9223372036854775808 ≤ n ∧ n ≤ 9223372036854775807 := by
  obtain ⟨n, e0, _, hn⟩ := DataW.trod_int Tryz.underlying2 h
  simp at e0
  have h2 := (Lit.wf_int_iff _ _).1 hn
  have h3 : IntKind.min .i64 = -9223372036854775808 := by decide
  have h4 : IntKind.max .i64 = 9223372036854775807 := by decide
  rw [h3, h4] at h2
  exact ⟨n, e0, h2⟩
theorem one_value {fuel : Nat} {a b : Value} {x : DataW H × List MemPlace} (h : DataW.trod enc Tryz.prog W 0 (fun _ => true) true fuel 23 [a, b] = some x) (hw : Wt Tryz.prog 23 x.1) :
    ∃ (s : ByteArray) (n : Int), a = .string s ∧ b = .int .i64 n ∧ s.size ≤ 140737488351232 ∧ -9223372036854775808 ≤ n ∧ n ≤ 9223372036854775807 := by
  obtain ⟨y0, y1, m, rfl, _, h0, h1⟩ := trod_struct2 Tryz.underlying23 h
  have w0 := hw.agg Tryz.underlying23 (j := 0) rfl rfl
  simp only [cellsS, cellsI] at h0 h1
  obtain ⟨s, e0, hs⟩ := one_str h0 w0
  obtain ⟨n, e1, hn⟩ := one_int h1
  exact ⟨s, n, e0, e1, hs, hn⟩
theorem one_term {fuel : Nat} {a b c : Value} {x : DataW H × List MemPlace} (h : DataW.trod enc Tryz.prog W 0 (fun _ => true) true fuel 25 [a, b, c] = some x) (hw : Wt Tryz.prog 25 x.1) :
    ∃ t : Tm, a = .string t.v ∧ b = .string t.s ∧ c = .int .i64 t.n ∧ t.Sz ∧ t.Nb := by
  obtain ⟨y0, y1, m, rfl, _, h0, h1⟩ := trod_struct2 Tryz.underlying25 h
  have w0 := hw.agg Tryz.underlying25 (j := 0) rfl rfl
  have w1 := hw.agg Tryz.underlying25 (j := 1) rfl rfl
  simp only [cellsS, cellsValue] at h0 h1
  obtain ⟨v, e0, hv⟩ := one_str h0 w0
  have h1' : DataW.trod enc Tryz.prog W 0 (fun _ => true) true m 23 [b, c] = some y1 := h1
  obtain ⟨s, n, rfl, rfl, hs, hn⟩ := one_value h1' w1
  exact ⟨⟨v, s, n⟩, e0, rfl, rfl, ⟨hv, hs⟩, hn⟩
/-- a slice whose elements are read one by one, with its weight -/
theorem open_rdw {α : Type} [Inhabited α] {e : α → List Value} {k : Nat} (E : Enc e k) {sT eT : TypeId} {G : α → Prop} (hu : Tryz.prog.underlying sT = some (.slice eT)) (hk : Tryz.prog.cellsOf eT = k)
    (one : ∀ {fuel : Nat} {cs : List Value} {x : DataW H × List MemPlace}, DataW.trod enc Tryz.prog W 0 (fun _ => true) true fuel eT cs = some x → cs.length = k → Wt Tryz.prog eT x.1 → ∃ a, cs = e a ∧ G a)
    {fuel : Nat} {v : Value} {x : DataW H × List MemPlace} (h : DataW.trod enc Tryz.prog W 0 (fun _ => true) true fuel sT [v] = some x) (hw : Wt Tryz.prog sT x.1) :
    ∃ (q : Option Addr) (l : List α) (c : Nat), v = .slice q l.length c ∧ Rd e k W W.heap.size q l ∧ (∀ a ∈ l, G a) ∧ l.length * Tryz.prog.bytesOf eT ≤ reachBytes := by
  rcases open_slice hu h with ⟨hc, hx⟩ | ⟨a, len, cap, m, n, D, Pl, hc, _, hl, hm, hmm, hxx, hx⟩
  · simp at hc; subst hc
    exact ⟨none, [], 0, rfl, .nil, fun a ha => by simp at ha, by simp⟩
  · simp at hc; subst hc
    simp at hmm; subst hmm
    rw [hxx] at hw
    obtain ⟨hw1, hw2⟩ := Wt.slice hu hw
    have each : ∀ i, i < len → ∃ o : α, (∀ r u, (e o)[r]? = some u → W.cell? (a.add (i * k + r)) = some u) ∧ G o := by
      intro i hi
      obtain ⟨cs', h1, h2⟩ := hx i (by omega)
      rw [hk] at h1
      obtain ⟨_, hlen, hcell⟩ := World.cells?_some h1
      obtain ⟨o, ho, hG⟩ := one h2 hlen (hw2 _ (List.mem_map.2 ⟨i, by simpa using hi, rfl⟩))
      refine ⟨o, fun r u hr => ?_, hG⟩
      have hr' : r < cs'.length := by rw [ho]; exact (List.getElem?_eq_some_iff.1 hr).1
      have := hcell r (by omega)
      rw [add_add] at this
      rw [this]
      subst ho
      exact hr
    obtain ⟨O, hO⟩ := choose_lt each
    refine ⟨some a, (List.range len).map O, m, by simp, ?_, fun o ho => ?_, ?_⟩
    · rcases Nat.eq_zero_or_pos len with h0 | h0
      · subst h0; exact .inl rfl
      · obtain ⟨b, o, sp⟩ := a
        have hk0 := E.pos
        have hlen0 := E.len (O 0)
        have c0 := (hO 0 h0).1 0 _ (List.getElem?_eq_getElem (by omega))
        have hsp : sp = none := by simpa [Addr.add] using World.cell?_spot c0
        subst hsp
        rw [Addr.add_lit] at c0
        refine .inr ⟨b, o, rfl, lt_of_cell c0, fun i hi r u hu => ?_⟩
        have hi' : i < len := by simpa using hi
        simp only [List.getElem_map, List.getElem_range] at hu
        have := (hO i hi').1 r u hu
        rw [Addr.add_lit] at this
        rw [Nat.add_assoc]; exact this
    · obtain ⟨i, hi, rfl⟩ := List.mem_map.1 ho
      exact (hO i (by simpa using hi)).2
    · have : len * Tryz.prog.bytesOf eT ≤ (len + ((List.range (m - len)).map fun j => D (len + j)).length) * Tryz.prog.bytesOf eT := Nat.mul_le_mul_right _ (Nat.le_add_right _ _)
      refine Nat.le_trans ?_ (Nat.le_trans this (by simpa using hw1))
      simp
instance : Inhabited ByteArray := ⟨⟨#[]⟩⟩
instance : Inhabited Tm := ⟨tmZ⟩
instance : Inhabited Lp := ⟨lpZ⟩
theorem open_terms {fuel : Nat} {v : Value} {x : DataW H × List MemPlace} (h : DataW.trod enc Tryz.prog W 0 (fun _ => true) true fuel 26 [v] = some x) (hw : Wt Tryz.prog 26 x.1) :
    ∃ (q : Option Addr) (l : List Tm) (c : Nat), v = .slice q l.length c ∧ Tms W W.heap.size q l ∧ (∀ t ∈ l, t.Sz ∧ t.Nb) ∧ l.length * 40 ≤ 140737488351232 := by
  have := open_rdw EM (G := fun t : Tm => t.Sz ∧ t.Nb) Tryz.underlying26 cellsTerm (fun h hl hw => by
    rename_i cs _
    match cs, hl with
    | [a, b, c], _ => obtain ⟨t, rfl, rfl, rfl, h1, h2⟩ := one_term h hw; exact ⟨t, rfl, h1, h2⟩) h hw
  rw [bytesTerm, reach_val] at this
  exact this
/-- a literal that came in: where it lies and how large it is -/
structure Lp.Arg (l : Lp) (W : World) : Prop where
  isin : l.In W W.heap.size
  nb : l.Nb
  sz : l.args.length * 40 ≤ 140737488351232
theorem one_lit {fuel : Nat} {a b c d e f : Value} {x : DataW H × List MemPlace} (h : DataW.trod enc Tryz.prog W 0 (fun _ => true) true fuel 28 [a, b, c, d, e, f] = some x) (hw : Wt Tryz.prog 28 x.1) :
    ∃ l : Lp, [a, b, c, d, e, f] = encL l ∧ l.Arg W := by
  obtain ⟨y0, y1, y2, y3, m, rfl, _, h0, h1, h2, h3⟩ := trod_struct4 Tryz.underlying28 h
  have w1 := hw.agg Tryz.underlying28 (j := 1) rfl rfl
  have w2 := hw.agg Tryz.underlying28 (j := 2) rfl rfl
  have w3 := hw.agg Tryz.underlying28 (j := 3) rfl rfl
  simp only [cellsU8, cellsTerm, cellsS, cellssT] at h0 h1 h2 h3
  obtain ⟨k, e0, _, _⟩ := DataW.trod_int Tryz.underlying5 (show DataW.trod enc Tryz.prog W 0 (fun _ => true) true m 5 [a] = some y0 from h0)
  obtain ⟨t, rfl, rfl, rfl, h4, h5⟩ := one_term (show DataW.trod enc Tryz.prog W 0 (fun _ => true) true m 25 [b, c, d] = some y1 from h1) w1
  obtain ⟨s, rfl, hs⟩ := one_str (show DataW.trod enc Tryz.prog W 0 (fun _ => true) true m 9 [e] = some y2 from h2) w2
  obtain ⟨q, l, cc, rfl, hr, hz, hl⟩ := open_terms (show DataW.trod enc Tryz.prog W 0 (fun _ => true) true m 26 [f] = some y3 from h3) w3
  simp at e0; subst e0
  exact ⟨⟨k, t, s, q, cc, l⟩, rfl, ⟨hr, by show l.length ≤ _; omega, h4, hs, fun t ht => (hz t ht).1⟩, ⟨h5, fun t ht => (hz t ht).2⟩, hl⟩
theorem open_lits {fuel : Nat} {v : Value} {x : DataW H × List MemPlace} (h : DataW.trod enc Tryz.prog W 0 (fun _ => true) true fuel 29 [v] = some x) (hw : Wt Tryz.prog 29 x.1) :
    ∃ (q : Option Addr) (l : List Lp) (c : Nat), v = .slice q l.length c ∧ Rd encL 6 W W.heap.size q l ∧ (∀ t ∈ l, t.Arg W) ∧ l.length * 88 ≤ 140737488351232 := by
  have := open_rdw EL (G := fun l : Lp => l.Arg W) Tryz.underlying29 cellsLit (fun h hl hw => by
    rename_i cs _
    match cs, hl with
    | [a, b, c, d, e, f], _ => exact one_lit h hw) h hw
  rw [bytesLit, reach_val] at this
  exact this
/-- a clause that came in -/
structure Kp.Arg (c : Kp) (W : World) : Prop where
  head : c.head.Arg W
  body : Rd encL 6 W W.heap.size c.ptr c.body
  each : ∀ l ∈ c.body, l.Arg W
  sz : c.body.length * 88 ≤ 140737488351232
theorem array6 {α : Type} {cs : Array α} (h : cs.size = 6) : ∃ c0 c1 c2 c3 c4 c5, cs = #[c0, c1, c2, c3, c4, c5] := by
  obtain ⟨l⟩ := cs
  match l, h with
  | [c0, c1, c2, c3, c4, c5], _ => exact ⟨c0, c1, c2, c3, c4, c5, rfl⟩
theorem array7 {α : Type} {cs : Array α} (h : cs.size = 7) : ∃ c0 c1 c2 c3 c4 c5 c6, cs = #[c0, c1, c2, c3, c4, c5, c6] := by
  obtain ⟨l⟩ := cs
  match l, h with
  | [c0, c1, c2, c3, c4, c5, c6], _ => exact ⟨c0, c1, c2, c3, c4, c5, c6, rfl⟩
set_option maxRecDepth 100000 in
theorem open_lit {base : Nat} {v : Value} {d : DataW H} {p : List MemPlace} (hv : Value.okWide Tryz.prog W .any base 28 v) (h : DataW.Trod enc Tryz.prog W 0 (fun _ => true) true 28 v d p) (hw : Wt Tryz.prog 28 d) :
    ∃ l : Lp, v = l.agg ∧ l.Arg W := by
  obtain ⟨cs, rfl, hsz⟩ := okWide_struct Tryz.underlying28 hv
  obtain ⟨c0, c1, c2, c3, c4, c5, rfl⟩ := array6 (hsz.trans cellsLit)
  obtain ⟨fuel, hf⟩ := h
  obtain ⟨l, he, hl⟩ := one_lit (show DataW.trod enc Tryz.prog W 0 (fun _ => true) true fuel 28 [c0, c1, c2, c3, c4, c5] = some (d, p) from hf) hw
  refine ⟨l, ?_, hl⟩
  simp only [encL, List.cons.injEq, and_true] at he
  obtain ⟨rfl, rfl, rfl, rfl, rfl, rfl⟩ := he
  rfl
set_option maxRecDepth 100000 in
theorem open_clause {base : Nat} {v : Value} {d : DataW H} {p : List MemPlace} (hv : Value.okWide Tryz.prog W .any base 31 v) (h : DataW.Trod enc Tryz.prog W 0 (fun _ => true) true 31 v d p) (hw : Wt Tryz.prog 31 d) :
    ∃ c : Kp, v = c.agg ∧ c.Arg W := by
  obtain ⟨cs, rfl, hsz⟩ := okWide_struct Tryz.underlying31 hv
  obtain ⟨c0, c1, c2, c3, c4, c5, c6, rfl⟩ := array7 (hsz.trans cellsClause)
  obtain ⟨fuel, hf⟩ := h
  obtain ⟨y0, y1, m, hx, _, h0, h1⟩ := trod_struct2 Tryz.underlying31 (show DataW.trod enc Tryz.prog W 0 (fun _ => true) true fuel 31 [c0, c1, c2, c3, c4, c5, c6] = some (d, p) from hf)
  simp only [Prod.mk.injEq] at hx
  obtain ⟨rfl, rfl⟩ := hx
  have w0 := hw.agg Tryz.underlying31 (j := 0) rfl rfl
  have w1 := hw.agg Tryz.underlying31 (j := 1) rfl rfl
  simp only [cellsLit, cellssL] at h0 h1
  obtain ⟨l, he, hl⟩ := one_lit (show DataW.trod enc Tryz.prog W 0 (fun _ => true) true m 28 [c0, c1, c2, c3, c4, c5] = some y0 from h0) w0
  obtain ⟨q, b, cc, rfl, hr, hz, hb⟩ := open_lits (show DataW.trod enc Tryz.prog W 0 (fun _ => true) true m 29 [c6] = some y1 from h1) w1
  simp only [encL, List.cons.injEq, and_true] at he
  obtain ⟨rfl, rfl, rfl, rfl, rfl, rfl⟩ := he
  exact ⟨⟨l, q, cc, b⟩, rfl, hl, hr, hz, hb⟩
end
theorem Lp.Arg.on {l : Lp} {w w' : World} (h : l.Arg w) (hb : Below w.heap.size w w') : l.Arg w' := ⟨h.isin.grow hb, h.nb, h.sz⟩
theorem Kp.Arg.on {c : Kp} {w w' : World} (h : c.Arg w) (hb : Below w.heap.size w w') : c.Arg w' := ⟨h.head.on hb, h.body.grow hb, fun l hl => (h.each l hl).on hb, h.sz⟩
theorem Kp.Arg.kin {c : Kp} {w : World} (h : c.Arg w) : c.In w w.heap.size := ⟨h.head.isin, h.body, fun l hl => (h.each l hl).isin, by have := h.sz; omega⟩
theorem Kp.Arg.nb {c : Kp} {w : World} (h : c.Arg w) : c.Nb := ⟨h.head.nb, fun l hl => (h.each l hl).nb⟩
theorem Kp.Arg.mem {c : Kp} {w : World} (h : c.Arg w) : ClMem w c := ⟨h.head.isin.args, h.body, fun l hl => (h.each l hl).isin.args⟩
end Go.Proofs.YtnjdganikeganaaGreatDoor

/-
  What is asked of a clause hangs on what it says, not on where it lies; a copy of what came in may be handed on.
-/
namespace Go.Proofs.YtnjdganikeganaaGreatDoor
open Go.RowKit

theorem kq_len {a b : Kp} (h : a.q = b.q) : a.body.length = b.body.length := by
  have := congrArg (fun x : Cq => x.body.length) h
  simpa [Kp.q] using this
theorem kq_head {a b : Kp} (h : a.q = b.q) : a.head.q = b.head.q := congrArg Cq.head h
theorem kq_body {a b : Kp} (h : a.q = b.q) : a.body.map Lp.q = b.body.map Lp.q := congrArg Cq.body h
theorem check_eq {a b : Kp} (h : a.q = b.q) : a.check = b.check := by rw [check_q a, check_q b, h]
theorem txt_eq {a b : Kp} (h : a.q = b.q) : a.txt = b.txt := by rw [txt_q a, txt_q b, h]
theorem vars_eq {a b : Kp} (h : a.q = b.q) : a.vars = b.vars := by rw [vars_q a, vars_q b, h]
theorem fact_eq {a b : Kp} (h : a.q = b.q) : a.fact = b.fact := by rw [fact_q a, fact_q b, h]
theorem lit_arg {w w' : World} {l d : Lp} (h : l.Arg w) (hq : d.q = l.q) (hm : Tms w' w'.heap.size d.ptr d.args) : d.Arg w' := by
  have e1 : d.who = l.who := congrArg Lq.who hq
  have e2 : d.pred = l.pred := congrArg Lq.pred hq
  have e3 : d.args = l.args := congrArg Lq.args hq
  exact ⟨⟨hm, e3 ▸ h.isin.len, e1 ▸ h.isin.who, e2 ▸ h.isin.pred, e3 ▸ h.isin.sz⟩, ⟨e1 ▸ h.nb.who, e3 ▸ h.nb.args⟩, e3 ▸ h.sz⟩
theorem kp_arg {w w' : World} {k d : Kp} (h : k.Arg w) (hq : d.q = k.q) (hm : ClMem w' d) : d.Arg w' := by
  refine ⟨lit_arg h.head (kq_head hq) hm.head, hm.body, fun l hl => ?_, by rw [kq_len hq]; exact h.sz⟩
  have h1 : l.q ∈ k.body.map Lp.q := (kq_body hq) ▸ List.mem_map_of_mem hl
  obtain ⟨l', h2, h3⟩ := List.mem_map.1 h1
  exact lit_arg (h.each l' h2) h3.symm (hm.each l hl)
theorem kp_size {w : World} {k : Kp} (h : k.Arg w) : k.head.args.length * 40 ≤ 140737488355328 ∧ k.body.length * 88 ≤ 140737488355328 ∧ ∀ l ∈ k.body, l.args.length * 40 ≤ 140737488355328 :=
  ⟨Nat.le_trans h.head.sz (by decide), Nat.le_trans h.sz (by decide), fun l hl => Nat.le_trans (h.each l hl).sz (by decide)⟩
end Go.Proofs.YtnjdganikeganaaGreatDoor

/-
  Plain: of a clause that may be, what its bare head is.
-/
namespace Go.Proofs.YtnjdganikeganaaGreatDoor
open Go.RowKit

/-- the clause of the head alone -/
def Kp.bare (k : Kp) (q : Option Addr) (c : Nat) : Kp := ⟨k.head.q.at q c, none, 0, []⟩
def freeB (l : List Tm) : Bool := l.any fun t => !t.v.toList.isEmpty
theorem vars_no (k : Kp) (h : k.check = false) : k.vars = [] := by unfold Kp.vars; rw [h]; rfl
theorem fact_no (k : Kp) (h : k.check = false) : k.fact = false := by unfold Kp.fact; rw [h]; rfl
theorem fact_body (k : Kp) (h : k.body.length ≠ 0) : k.fact = false := by unfold Kp.fact; simp [h]
theorem bare_check (k : Kp) (q : Option Addr) (c : Nat) (h : k.check = true) : (k.bare q c).check = true := by
  unfold Kp.check at h ⊢
  simp only [Bool.and_eq_true] at h
  obtain ⟨_, h1, h2, _⟩ := h
  have e1 : (k.bare q c).head.who = k.head.who := rfl
  have e2 : (k.bare q c).head.ask = k.head.ask := rfl
  rw [e1, e2, h1, h2]
  rfl
theorem putV_nil_iff (xs : List ByteArray) (v : ByteArray) : putV xs v = [] ↔ xs = [] ∧ v.toList.isEmpty = true := by
  unfold putV
  cases hv : v.toList.isEmpty with
  | true => simp
  | false =>
    simp only [Bool.false_eq_true, if_false, and_false, iff_false]
    split
    · rename_i hc
      intro h
      rw [h] at hc
      exact absurd ((Lib.containsS_iff _ _).1 hc) (by simp)
    · simp
theorem foldP_nil : ∀ (l : List Tm) (xs : List ByteArray), l.foldl (fun ys t => putV ys t.v) xs = [] ↔ xs = [] ∧ freeB l = false
  | [], xs => by simp [freeB]
  | t :: r, xs => by
    rw [List.foldl_cons, foldP_nil r, putV_nil_iff]
    simp only [freeB, List.any_cons, Bool.or_eq_false_iff, Bool.not_eq_false']
    constructor
    · rintro ⟨⟨h1, h2⟩, h3⟩; exact ⟨h1, h2, h3⟩
    · rintro ⟨h1, h2, h3⟩; exact ⟨⟨h1, h2⟩, h3⟩
theorem bare_fact (k : Kp) (q : Option Addr) (c : Nat) (h : k.check = true) : (k.bare q c).fact = !freeB k.head.args := by
  have h1 := bare_check k q c h
  have hw : k.head.who.v.toList.isEmpty = true := by
    unfold Kp.check at h
    simp only [Bool.and_eq_true] at h
    have := h.2.1
    unfold Tm.none at this
    simp only [Bool.and_eq_true] at this
    exact this.1
  have hv : (k.bare q c).vars = [] ↔ freeB k.head.args = false := by
    unfold Kp.vars
    rw [if_pos h1]
    show litV [] (k.bare q c).head = [] ↔ _
    unfold litV
    show (k.head.args.foldl (fun ys t => putV ys t.v) (putV [] k.head.who.v)) = [] ↔ _
    rw [foldP_nil, putV_nil_iff]
    simp [hw]
  unfold Kp.fact
  rw [h1]
  have e : (k.bare q c).body.length = 0 := rfl
  rw [e]
  cases hf : freeB k.head.args with
  | false => simp [hv.2 hf]
  | true =>
    have : (k.bare q c).vars ≠ [] := fun hh => by rw [hv.1 hh] at hf; cases hf
    simp [this]
theorem free_step (l : List Tm) (j : Nat) (hj : j < l.length) : freeB (l.take (j + 1)) = (freeB (l.take j) || !l[j].v.toList.isEmpty) := by
  unfold freeB
  rw [List.take_succ_eq_append_getElem hj, List.any_append]
  simp
end Go.Proofs.YtnjdganikeganaaGreatDoor

/-
  The reference's Copy: what its loop keeps.
-/
namespace Go.Proofs.YtnjdganikeganaaGreatDoor
open Go.RowKit

/-- The literals that were copied lie in a row of the call's own, which the new clause's block holds. -/
structure CJ (w1 : World) (B cb : Nat) (a0 a1 a2 a3 a4 a5 : Value) (acc : List Lp) (w : World) : Prop where
  io : w.os = w1.os ∧ w.tape = w1.tape ∧ w.output = w1.output
  old : ∀ g, g < B → g ≠ cb → w.heap[g]? = w1.heap[g]?
  own : ∃ v, Bk w cb 31 #[a0, a1, a2, a3, a4, a5, v] ∧ w.ownsRow B 28 6 v acc.length (flatE encL acc) ∧ ∀ l ∈ acc, Far w B v.ownBlock l
  hcb : cb < B
  hi : B ≤ w.heap.size
section
variable {w1 : World} {B cb : Nat} {a0 a1 a2 a3 a4 a5 : Value} {acc : List Lp} {w : World}
theorem CJ.on {w' : World} (h : CJ w1 B cb a0 a1 a2 a3 a4 a5 acc w) (hb : Below w.heap.size w w') : CJ w1 B cb a0 a1 a2 a3 a4 a5 acc w' := by
  obtain ⟨v, h1, h2, h3⟩ := h.own
  have hi := h.hi
  exact ⟨⟨hb.os.trans h.io.1, hb.tape.trans h.io.2.1, hb.output.trans h.io.2.2⟩, fun g hg x => (hb.block g (by omega)).trans (h.old g hg x), ⟨v, h1.on hb, own_below h2 hb, fun l hl => (h3 l hl).keep hb.size fun b _ hlt hne => ⟨hb.block b hlt, hne⟩⟩, h.hcb, Nat.le_trans h.hi hb.size⟩
theorem CJ.value (h : CJ w1 B cb a0 a1 a2 a3 a4 a5 acc w) {v : Value} (hb : Bk w cb 31 #[a0, a1, a2, a3, a4, a5, v]) :
    w.ownsRow B 28 6 v acc.length (flatE encL acc) ∧ ∀ l ∈ acc, Far w B v.ownBlock l := by
  obtain ⟨v2, h1, h2, h3⟩ := h.own
  have e2 : v2 = v := by
    have e := h1.cell 6 _ rfl
    rw [hb.cell 6 _ rfl] at e
    injection e with e; exact e.symm
  subst e2
  exact ⟨h2, h3⟩
/-- a block of before that is not the clause's -/
theorem CJ.keeps {b : Nat} {T : TypeId} {cs : Array Value} (h : CJ w1 B cb a0 a1 a2 a3 a4 a5 acc w) (hb : Bk w1 b T cs) (h1 : b < B) (h2 : b ≠ cb) : Bk w b T cs := (h.old b h1 h2).trans hb
end
theorem CJ.push {w1 : World} {B cb : Nat} {a0 a1 a2 a3 a4 a5 : Value} {acc : List Lp} {w6 w7 : World} {l : Lp} {g cap : Nat} {v : Value}
    (h : CJ w1 B cb a0 a1 a2 a3 a4 a5 acc w6) (hv : Bk w6 cb 31 #[a0, a1, a2, a3, a4, a5, v]) (hf : ∀ x ∈ acc, Far w6 B v.ownBlock x) (hr : w6.ownsRow B 28 6 v acc.length (flatE encL acc)) (hl : Far w6 B v.ownBlock l)
    (ho : w7.ownsRow B 28 6 (.slice (some ⟨g, 0, none⟩) (acc.length + 1) cap) (acc.length + 1) (flatE encL acc ++ encL l)) (hg : w6.grownBy w7 v.ownBlock) (hat : v.ownBlock = some g ∨ g = w6.heap.size) :
    CJ w1 B cb a0 a1 a2 a3 a4 a5 (acc ++ [l]) (w7.setCell ⟨cb, 6, none⟩ (.slice (some ⟨g, 0, none⟩) (acc.length + 1) cap)) ∧ w7.cell? ⟨cb, 6, none⟩ = some v ∧ w7.frozen? ⟨cb, 6, none⟩ = false := by
  have h1 := h.hcb
  have h6 := h.hi
  have hb : Below B w6 w7 := (Below.refl B w6).grown hg h6 (fun k hk => (hr.lt k hk).1)
  have hb7 : Bk w7 cb 31 #[a0, a1, a2, a3, a4, a5, v] := hv.below hb h1
  have hs : Below 0 w7 (w7.setCell ⟨cb, 6, none⟩ (.slice (some ⟨g, 0, none⟩) (acc.length + 1) cap)) := setB (Nat.zero_le _) 6 _
  have hkeep : ∀ b, B ≤ b → b < w6.heap.size → v.ownBlock ≠ some b → (w7.setCell ⟨cb, 6, none⟩ (.slice (some ⟨g, 0, none⟩) (acc.length + 1) cap)).heap[b]? = w6.heap[b]? ∧ (Value.slice (some ⟨g, 0, none⟩) (acc.length + 1) cap).ownBlock ≠ some b := by
    intro b hB hlt hne
    refine ⟨(Below.heap_setCell w7 ⟨cb, 6, none⟩ _ b (by show b ≠ cb; omega)).trans (hg.block b hlt (fun e => hne e.symm)), ?_⟩
    show some g ≠ some b
    rcases hat with e | e
    · rw [← e]; exact hne
    · intro e'; injection e' with e'; omega
  refine ⟨⟨⟨(hs.os.trans hb.os).trans h.io.1, (hs.tape.trans hb.tape).trans h.io.2.1, (hs.output.trans hb.output).trans h.io.2.2⟩, fun i hi y => (Below.heap_setCell w7 ⟨cb, 6, none⟩ _ i (by show i ≠ cb; exact y)).trans ((hb.block i hi).trans (h.old i hi y)), ⟨_, hb7.set 6 _, ?_, ?_⟩, h.hcb, Nat.le_trans h.hi (Nat.le_trans hb.size hs.size)⟩, hb7.cell 6 _ rfl, hb7.soft 6⟩
  · rw [List.length_append, flatE_snoc]
    exact ownsRow_setCell_below ho (a := ⟨cb, 6, none⟩) h1 _
  · intro x hx
    have hsz : w6.heap.size ≤ (w7.setCell ⟨cb, 6, none⟩ (.slice (some ⟨g, 0, none⟩) (acc.length + 1) cap)).heap.size := Nat.le_trans hb.size hs.size
    rcases List.mem_append.1 hx with hx | hx
    · exact (hf x hx).keep hsz hkeep
    · rw [List.mem_singleton.1 hx]; exact hl.keep hsz hkeep
/-- the copy once it is whole -/
theorem CJ.mem {w1 : World} {cb : Nat} {a0 a1 a2 a3 a4 a5 : Value} {acc : List Lp} {w : World} {hq : Option Addr} {l : List Tm}
    (h : CJ w1 w1.heap.size cb a0 a1 a2 a3 a4 a5 acc w) (ht : Tms w1 cb hq l) :
    Tms w w.heap.size hq l ∧ ∃ q' c', Bk w cb 31 #[a0, a1, a2, a3, a4, a5, .slice q' acc.length c'] ∧ Rd encL 6 w w.heap.size q' acc ∧ (∀ x ∈ acc, Tms w w.heap.size x.ptr x.args) ∧ (∀ b, q' = some b → w1.heap.size ≤ b.block) ∧ (∀ x ∈ acc, x.args = [] ∨ ∀ b, x.ptr = some b → w1.heap.size ≤ b.block) := by
  obtain ⟨v, hv, hown, hfar⟩ := h.own
  obtain ⟨q', c', rfl, hrd, _⟩ := grw_form EL (.inr hown) h.hi
  refine ⟨?_, q', c', hv, hrd, fun x hx => (hfar x hx).rd, own_fresh hown, fun x hx => ?_⟩
  · rcases ht with h1 | ⟨b, off, h1, h2, h3⟩
    · exact .inl h1
    · exact .inr ⟨b, off, h1, Nat.lt_of_lt_of_le h2 (Nat.le_trans (Nat.le_of_lt h.hcb) h.hi), fun i hi r u hu => (show w.cell? ⟨b, off + i * 3 + r, none⟩ = w1.cell? ⟨b, off + i * 3 + r, none⟩ from World.cell?_of_block (w := w1) (h.old b (Nat.lt_trans h2 h.hcb) (Nat.ne_of_lt h2))).trans (h3 i hi r u hu)⟩
  · rcases hfar x hx with h1 | ⟨b, off, h1, h2, _⟩
    · exact .inl h1
    · exact .inr fun b' hb' => by rw [h1] at hb'; cases hb'; exact h2
theorem CJ.belowAt {w0 w1 : World} {cb : Nat} {a0 a1 a2 a3 a4 a5 : Value} {acc : List Lp} {w : World} (h : CJ w1 w1.heap.size cb a0 a1 a2 a3 a4 a5 acc w) (hw : Below w0.heap.size w0 w1) (h2 : w0.heap.size ≤ cb) : Below w0.heap.size w0 w :=
  ⟨h.io.1.trans hw.os, h.io.2.1.trans hw.tape, h.io.2.2.trans hw.output, Nat.le_trans hw.size h.hi, fun k hk => (h.old k (Nat.lt_of_lt_of_le hk hw.size) (by omega)).trans (hw.block k hk)⟩
end Go.Proofs.YtnjdganikeganaaGreatDoor
