/-
  Joined of: Opn, OpnU, VrB, VrC, RefT.
-/
import Derived.Test.YtfmkfabbiifolaaGreatDoorJa32
import Derived.SizedLaws
import Derived.DataShut
import Derived.Lib.SmallJoins
import Derived.Deep.SlicePairs
import Derived.Test.YtfmkfabbiifolaaGreatDoorJa08
import Derived.Test.YtfmkfabbiifolaaGreatDoorJa14
import Derived.Test.YtfmkfabbiifolaaGreatDoorJa01
import Derived.Test.YtfmkfabbiifolaaGreatDoorJa04
import Derived.Test.YtfmkfabbiifolaaGreatDoorJa02
set_option linter.unusedVariables false
set_option linter.unusedSimpArgs false
/-
  Reading the arguments of this seat's statements: literals and clauses, with what their sizes are held to.
-/
namespace Go.Proofs.YtfmkfabbiifolaaGreatDoor
open Go.ChangeShapes Go.WideShapes Go.ChangeAt Go.WideMaps Go.WideElems Go.RowKit Go.Joins Go.Deep

section
variable {H : Type} {P : Program}
/-- all that a datum weighs is within reach -/
def Wt (P : Program) (t : TypeId) (d : DataW H) : Prop := ∀ n ∈ d.weights P t, n ≤ reachBytes
theorem weights_mem_all {e : TypeId} : ∀ {l : List (DataW H)} {d : DataW H}, d ∈ l → ∀ n ∈ d.weights P e, n ∈ DataW.weightsAll P e l
  | x :: r, d, hd, n, hn => by
    simp only [DataW.weightsAll, List.mem_append]
    rcases List.mem_cons.1 hd with rfl | hd
    · exact .inl hn
    · exact .inr (weights_mem_all hd n hn)
theorem Wt.agg {t : TypeId} {fs : Array Field} {ps : List (DataW H)} (hu : P.underlying t = some (.struct fs)) (h : Wt P t (.agg ps)) {j : Nat} {f : Field} {d : DataW H} (hf : fs.toList[j]? = some f) (hd : ps[j]? = some d) : Wt P f.type d := by
  intro n hn
  refine h n ?_
  simp only [DataW.weights, hu]
  exact DataW.weights_mem_each (j := j) (t := f.type) (by simp [hf]) hd n hn
theorem Wt.slice {t e : TypeId} {elems spare : List (DataW H)} (hu : P.underlying t = some (.slice e)) (h : Wt P t (.slice elems spare)) :
    (elems.length + spare.length) * P.bytesOf e ≤ reachBytes ∧ ∀ d ∈ elems, Wt P e d := by
  refine ⟨h _ (by simp only [DataW.weights, hu]; exact List.mem_cons_self), fun d hd n hn => h n ?_⟩
  simp only [DataW.weights, hu]
  exact List.mem_cons_of_mem _ (List.mem_append_left _ (weights_mem_all hd n hn))
theorem Wt.str {t : TypeId} {bs : List UInt8} (h : Wt P t (.lit (.string bs) : DataW H)) : bs.length ≤ reachBytes := h _ (by simp [DataW.weights])
theorem wt_of_sized {ts : List TypeId} {ds : List (DataW H)} (h : (DataW.weightsEach P ts ds).all (· ≤ reachBytes) = true) {j : Nat} {t : TypeId} {d : DataW H} (ht : ts[j]? = some t) (hd : ds[j]? = some d) : Wt P t d := fun n hn => by
  have := List.all_eq_true.1 h n (DataW.weights_mem_each ht hd n hn)
  simpa using this
end
theorem reach_val : reachBytes = 140737488351232 := rfl

theorem cellsTerm : Tryz.prog.cellsOf 25 = 3 := by kernel_rfl
theorem cellsLit : Tryz.prog.cellsOf 28 = 6 := by kernel_rfl
theorem cellsClause : Tryz.prog.cellsOf 31 = 7 := by kernel_rfl
theorem cellsValue : Tryz.prog.cellsOf 23 = 2 := by kernel_rfl
theorem cellsS : Tryz.prog.cellsOf 9 = 1 := by kernel_rfl
theorem cellsI : Tryz.prog.cellsOf 2 = 1 := by kernel_rfl
theorem cellsU8 : Tryz.prog.cellsOf 5 = 1 := by kernel_rfl
theorem cellssT : Tryz.prog.cellsOf 26 = 1 := by kernel_rfl
theorem cellssL : Tryz.prog.cellsOf 29 = 1 := by kernel_rfl
theorem bytesTerm : Tryz.prog.bytesOf 25 = 40 := by kernel_rfl
theorem bytesLit : Tryz.prog.bytesOf 28 = 88 := by kernel_rfl

section
variable {H : Type} {enc : TypeId × Value → H} {W : World}
theorem one_str {fuel : Nat} {a : Value} {x : DataW H × List MemPlace} (h : DataW.trod enc Tryz.prog W 0 (fun _ => true) true fuel 9 [a] = some x) (hw : Wt Tryz.prog 9 x.1) :
    ∃ s : ByteArray, a = .string s ∧ s.size ≤ 140737488351232 := by
  obtain ⟨s, e0, rfl, _⟩ := DataW.trod_string Tryz.underlying9 h
  have := Wt.str hw
  rw [reach_val] at this
  simp at e0
  exact ⟨s, e0, this⟩
theorem one_int {fuel : Nat} {a : Value} {x : DataW H × List MemPlace} (h : DataW.trod enc Tryz.prog W 0 (fun _ => true) true fuel 2 [a] = some x) :
    ∃ n : Int, a = .int .i64 n ∧ -9223372036854775808 ≤ n ∧ n ≤ 9223372036854775807 := by
  obtain ⟨n, e0, _, hn⟩ := DataW.trod_int Tryz.underlying2 h
  simp at e0
  have h2 := (Lit.wf_int_iff _ _).1 hn
  have h3 : IntKind.min .i64 = -9223372036854775808 := by decide
  have h4 : IntKind.max .i64 = 9223372036854775807 := by decide
  rw [h3, h4] at h2
  exact ⟨n, e0, h2⟩
theorem one_value {fuel : Nat} {a b : Value} {x : DataW H × List MemPlace} (h : DataW.trod enc Tryz.prog W 0 (fun _ => true) true fuel 23 [a, b] = some x) (hw : Wt Tryz.prog 23 x.1) :
    ∃ (s : ByteArray) (n : Int), a = .string s ∧ b = .int .i64 n ∧ s.size ≤ 140737488351232 ∧ -9223372036854775808 ≤ n ∧ n ≤ 9223372036854775807 := by
  obtain ⟨y0, y1, m, rfl, _, h0, h1⟩ := trod_struct2 Tryz.underlying23 h
  have w0 := hw.agg Tryz.underlying23 (j := 0) rfl rfl
  simp only [cellsS, cellsI] at h0 h1
  obtain ⟨s, e0, hs⟩ := one_str h0 w0
  obtain ⟨n, e1, hn⟩ := one_int h1
  exact ⟨s, n, e0, e1, hs, hn⟩
theorem one_term {fuel : Nat} {a b c : Value} {x : DataW H × List MemPlace} (h : DataW.trod enc Tryz.prog W 0 (fun _ => true) true fuel 25 [a, b, c] = some x) (hw : Wt Tryz.prog 25 x.1) :
    ∃ t : Tm, a = .string t.v ∧ b = .string t.s ∧ c = .int .i64 t.n ∧ t.Sz ∧ t.Nb := by
  obtain ⟨y0, y1, m, rfl, _, h0, h1⟩ := trod_struct2 Tryz.underlying25 h
  have w0 := hw.agg Tryz.underlying25 (j := 0) rfl rfl
  have w1 := hw.agg Tryz.underlying25 (j := 1) rfl rfl
  simp only [cellsS, cellsValue] at h0 h1
  obtain ⟨v, e0, hv⟩ := one_str h0 w0
  have h1' : DataW.trod enc Tryz.prog W 0 (fun _ => true) true m 23 [b, c] = some y1 := h1
  obtain ⟨s, n, rfl, rfl, hs, hn⟩ := one_value h1' w1
  exact ⟨⟨v, s, n⟩, e0, rfl, rfl, ⟨hv, hs⟩, hn⟩
/-- a slice whose elements are read one by one, with its weight -/
theorem open_rdw {α : Type} [Inhabited α] {e : α → List Value} {k : Nat} (E : Enc e k) {sT eT : TypeId} {G : α → Prop} (hu : Tryz.prog.underlying sT = some (.slice eT)) (hk : Tryz.prog.cellsOf eT = k)
    (one : ∀ {fuel : Nat} {cs : List Value} {x : DataW H × List MemPlace}, DataW.trod enc Tryz.prog W 0 (fun _ => true) true fuel eT cs = some x → cs.length = k → Wt Tryz.prog eT x.1 → ∃ a, cs = e a ∧ G a)
    {fuel : Nat} {v : Value} {x : DataW H × List MemPlace} (h : DataW.trod enc Tryz.prog W 0 (fun _ => true) true fuel sT [v] = some x) (hw : Wt Tryz.prog sT x.1) :
    ∃ (q : Option Addr) (l : List α) (c : Nat), v = .slice q l.length c ∧ Rd e k W W.heap.size q l ∧ (∀ a ∈ l, G a) ∧ l.length * Tryz.prog.bytesOf eT ≤ reachBytes := by
  rcases open_slice hu h with ⟨hc, hx⟩ | ⟨a, len, cap, m, n, D, Pl, hc, _, hl, hm, hmm, hxx, hx⟩
  · simp at hc; subst hc
    exact ⟨none, [], 0, rfl, .nil, fun a ha => by simp at ha, by simp⟩
  · simp at hc; subst hc
    simp at hmm; subst hmm
    rw [hxx] at hw
    obtain ⟨hw1, hw2⟩ := Wt.slice hu hw
    have each : ∀ i, i < len → ∃ o : α, (∀ r u, (e o)[r]? = some u → W.cell? (a.add (i * k + r)) = some u) ∧ G o := by
      intro i hi
      obtain ⟨cs', h1, h2⟩ := hx i (by omega)
      rw [hk] at h1
      obtain ⟨_, hlen, hcell⟩ := World.cells?_some h1
      obtain ⟨o, ho, hG⟩ := one h2 hlen (hw2 _ (List.mem_map.2 ⟨i, by simpa using hi, rfl⟩))
      refine ⟨o, fun r u hr => ?_, hG⟩
      have hr' : r < cs'.length := by rw [ho]; exact (List.getElem?_eq_some_iff.1 hr).1
      have := hcell r (by omega)
      rw [add_add] at this
      rw [this]
      subst ho
      exact hr
    obtain ⟨O, hO⟩ := choose_lt each
    refine ⟨some a, (List.range len).map O, m, by simp, ?_, fun o ho => ?_, ?_⟩
    · rcases Nat.eq_zero_or_pos len with h0 | h0
      · subst h0; exact .inl rfl
      · obtain ⟨b, o, sp⟩ := a
        have hk0 := E.pos
        have hlen0 := E.len (O 0)
        have c0 := (hO 0 h0).1 0 _ (List.getElem?_eq_getElem (by omega))
        have hsp : sp = none := by simpa [Addr.add] using World.cell?_spot c0
        subst hsp
        rw [Addr.add_lit] at c0
        refine .inr ⟨b, o, rfl, lt_of_cell c0, fun i hi r u hu => ?_⟩
        have hi' : i < len := by simpa using hi
        simp only [List.getElem_map, List.getElem_range] at hu
        have := (hO i hi').1 r u hu
        rw [Addr.add_lit] at this
        rw [Nat.add_assoc]; exact this
    · obtain ⟨i, hi, rfl⟩ := List.mem_map.1 ho
      exact (hO i (by simpa using hi)).2
    · have : len * Tryz.prog.bytesOf eT ≤ (len + ((List.range (m - len)).map fun j => D (len + j)).length) * Tryz.prog.bytesOf eT := Nat.mul_le_mul_right _ (Nat.le_add_right _ _)
      refine Nat.le_trans ?_ (Nat.le_trans this (by simpa using hw1))
      simp
instance : Inhabited ByteArray := ⟨⟨#[]⟩⟩
instance : Inhabited Tm := ⟨tmZ⟩
instance : Inhabited Lp := ⟨lpZ⟩
theorem open_terms {fuel : Nat} {v : Value} {x : DataW H × List MemPlace} (h : DataW.trod enc Tryz.prog W 0 (fun _ => true) true fuel 26 [v] = some x) (hw : Wt Tryz.prog 26 x.1) :
    ∃ (q : Option Addr) (l : List Tm) (c : Nat), v = .slice q l.length c ∧ Tms W W.heap.size q l ∧ (∀ t ∈ l, t.Sz ∧ t.Nb) ∧ l.length * 40 ≤ 140737488351232 := by
  have := open_rdw EM (G := fun t : Tm => t.Sz ∧ t.Nb) Tryz.underlying26 cellsTerm (fun h hl hw => by
    rename_i cs _
    match cs, hl with
    | [a, b, c], _ => obtain ⟨t, rfl, rfl, rfl, h1, h2⟩ := one_term h hw; exact ⟨t, rfl, h1, h2⟩) h hw
  rw [bytesTerm, reach_val] at this
  exact this
/-- a literal that came in: where it lies and how large it is -/
structure Lp.Arg (l : Lp) (W : World) : Prop where
  isin : l.In W W.heap.size
  nb : l.Nb
  sz : l.args.length * 40 ≤ 140737488351232
theorem one_lit {fuel : Nat} {a b c d e f : Value} {x : DataW H × List MemPlace} (h : DataW.trod enc Tryz.prog W 0 (fun _ => true) true fuel 28 [a, b, c, d, e, f] = some x) (hw : Wt Tryz.prog 28 x.1) :
    ∃ l : Lp, [a, b, c, d, e, f] = encL l ∧ l.Arg W := by
  obtain ⟨y0, y1, y2, y3, m, rfl, _, h0, h1, h2, h3⟩ := trod_struct4 Tryz.underlying28 h
  have w1 := hw.agg Tryz.underlying28 (j := 1) rfl rfl
  have w2 := hw.agg Tryz.underlying28 (j := 2) rfl rfl
  have w3 := hw.agg Tryz.underlying28 (j := 3) rfl rfl
  simp only [cellsU8, cellsTerm, cellsS, cellssT] at h0 h1 h2 h3
  obtain ⟨k, e0, _, _⟩ := DataW.trod_int Tryz.underlying5 (show DataW.trod enc Tryz.prog W 0 (fun _ => true) true m 5 [a] = some y0 from h0)
  obtain ⟨t, rfl, rfl, rfl, h4, h5⟩ := one_term (show DataW.trod enc Tryz.prog W 0 (fun _ => true) true m 25 [b, c, d] = some y1 from h1) w1
  obtain ⟨s, rfl, hs⟩ := one_str (show DataW.trod enc Tryz.prog W 0 (fun _ => true) true m 9 [e] = some y2 from h2) w2
  obtain ⟨q, l, cc, rfl, hr, hz, hl⟩ := open_terms (show DataW.trod enc Tryz.prog W 0 (fun _ => true) true m 26 [f] = some y3 from h3) w3
  simp at e0; subst e0
  exact ⟨⟨k, t, s, q, cc, l⟩, rfl, ⟨hr, by show l.length ≤ _; omega, h4, hs, fun t ht => (hz t ht).1⟩, ⟨h5, fun t ht => (hz t ht).2⟩, hl⟩
theorem open_lits {fuel : Nat} {v : Value} {x : DataW H × List MemPlace} (h : DataW.trod enc Tryz.prog W 0 (fun _ => true) true fuel 29 [v] = some x) (hw : Wt Tryz.prog 29 x.1) :
    ∃ (q : Option Addr) (l : List Lp) (c : Nat), v = .slice q l.length c ∧ Rd encL 6 W W.heap.size q l ∧ (∀ t ∈ l, t.Arg W) ∧ l.length * 88 ≤ 140737488351232 := by
  have := open_rdw EL (G := fun l : Lp => l.Arg W) Tryz.underlying29 cellsLit (fun h hl hw => by
    rename_i cs _
    match cs, hl with
    | [a, b, c, d, e, f], _ => exact one_lit h hw) h hw
  rw [bytesLit, reach_val] at this
  exact this
/-- a clause that came in -/
structure Kp.Arg (c : Kp) (W : World) : Prop where
  head : c.head.Arg W
  body : Rd encL 6 W W.heap.size c.ptr c.body
  each : ∀ l ∈ c.body, l.Arg W
  sz : c.body.length * 88 ≤ 140737488351232
theorem array6 {α : Type} {cs : Array α} (h : cs.size = 6) : ∃ c0 c1 c2 c3 c4 c5, cs = #[c0, c1, c2, c3, c4, c5] := by
  obtain ⟨l⟩ := cs
  match l, h with
  | [c0, c1, c2, c3, c4, c5], _ => exact ⟨c0, c1, c2, c3, c4, c5, rfl⟩
theorem array7 {α : Type} {cs : Array α} (h : cs.size = 7) : ∃ c0 c1 c2 c3 c4 c5 c6, cs = #[c0, c1, c2, c3, c4, c5, c6] := by
  obtain ⟨l⟩ := cs
  match l, h with
  | [c0, c1, c2, c3, c4, c5, c6], _ => exact ⟨c0, c1, c2, c3, c4, c5, c6, rfl⟩
set_option maxRecDepth 100000 in
theorem open_lit {base : Nat} {v : Value} {d : DataW H} {p : List MemPlace} (hv : Value.okWide Tryz.prog W .any base 28 v) (h : DataW.Trod enc Tryz.prog W 0 (fun _ => true) true 28 v d p) (hw : Wt Tryz.prog 28 d) :
    ∃ l : Lp, v = l.agg ∧ l.Arg W := by
  obtain ⟨cs, rfl, hsz⟩ := okWide_struct Tryz.underlying28 hv
  obtain ⟨c0, c1, c2, c3, c4, c5, rfl⟩ := array6 (hsz.trans cellsLit)
  obtain ⟨fuel, hf⟩ := h
  obtain ⟨l, he, hl⟩ := one_lit (show DataW.trod enc Tryz.prog W 0 (fun _ => true) true fuel 28 [c0, c1, c2, c3, c4, c5] = some (d, p) from hf) hw
  refine ⟨l, ?_, hl⟩
  simp only [encL, List.cons.injEq, and_true] at he
  obtain ⟨rfl, rfl, rfl, rfl, rfl, rfl⟩ := he
  rfl
set_option maxRecDepth 100000 in
theorem open_clause {base : Nat} {v : Value} {d : DataW H} {p : List MemPlace} (hv : Value.okWide Tryz.prog W .any base 31 v) (h : DataW.Trod enc Tryz.prog W 0 (fun _ => true) true 31 v d p) (hw : Wt Tryz.prog 31 d) :
    ∃ c : Kp, v = c.agg ∧ c.Arg W := by
  obtain ⟨cs, rfl, hsz⟩ := okWide_struct Tryz.underlying31 hv
  obtain ⟨c0, c1, c2, c3, c4, c5, c6, rfl⟩ := array7 (hsz.trans cellsClause)
  obtain ⟨fuel, hf⟩ := h
  obtain ⟨y0, y1, m, hx, _, h0, h1⟩ := trod_struct2 Tryz.underlying31 (show DataW.trod enc Tryz.prog W 0 (fun _ => true) true fuel 31 [c0, c1, c2, c3, c4, c5, c6] = some (d, p) from hf)
  simp only [Prod.mk.injEq] at hx
  obtain ⟨rfl, rfl⟩ := hx
  have w0 := hw.agg Tryz.underlying31 (j := 0) rfl rfl
  have w1 := hw.agg Tryz.underlying31 (j := 1) rfl rfl
  simp only [cellsLit, cellssL] at h0 h1
  obtain ⟨l, he, hl⟩ := one_lit (show DataW.trod enc Tryz.prog W 0 (fun _ => true) true m 28 [c0, c1, c2, c3, c4, c5] = some y0 from h0) w0
  obtain ⟨q, b, cc, rfl, hr, hz, hb⟩ := open_lits (show DataW.trod enc Tryz.prog W 0 (fun _ => true) true m 29 [c6] = some y1 from h1) w1
  simp only [encL, List.cons.injEq, and_true] at he
  obtain ⟨rfl, rfl, rfl, rfl, rfl, rfl⟩ := he
  exact ⟨⟨l, q, cc, b⟩, rfl, hl, hr, hz, hb⟩
end
theorem Lp.Arg.on {l : Lp} {w w' : World} (h : l.Arg w) (hb : Below w.heap.size w w') : l.Arg w' := ⟨h.isin.grow hb, h.nb, h.sz⟩
theorem Kp.Arg.on {c : Kp} {w w' : World} (h : c.Arg w) (hb : Below w.heap.size w w') : c.Arg w' := ⟨h.head.on hb, h.body.grow hb, fun l hl => (h.each l hl).on hb, h.sz⟩
theorem Kp.Arg.kin {c : Kp} {w : World} (h : c.Arg w) : c.In w w.heap.size := ⟨h.head.isin, h.body, fun l hl => (h.each l hl).isin, by have := h.sz; omega⟩
theorem Kp.Arg.nb {c : Kp} {w : World} (h : c.Arg w) : c.Nb := ⟨h.head.nb, fun l hl => (h.each l hl).nb⟩
theorem Kp.Arg.mem {c : Kp} {w : World} (h : c.Arg w) : ClMem w c := ⟨h.head.isin.args, h.body, fun l hl => (h.each l hl).isin.args⟩
end Go.Proofs.YtfmkfabbiifolaaGreatDoor

/-
  An unsigned byte that came in: its range.
-/
namespace Go.Proofs.YtfmkfabbiifolaaGreatDoor
open Go.RowKit
theorem u8_range {n : Int} (h : (Lit.int .u8 n).wf = true) : 0 ≤ n ∧ n ≤ 255 := by
  have h2 := (Lit.wf_int_iff _ _).1 h
  have h3 : IntKind.min .u8 = 0 := by decide
  have h4 : IntKind.max .u8 = 255 := by decide
  rw [h3, h4] at h2
  exact h2
end Go.Proofs.YtfmkfabbiifolaaGreatDoor

/-
  Plain: what the reference asks of a variable's text is what the lexer tells.
-/
namespace Go.Proofs.YtfmkfabbiifolaaGreatDoor
open Go.RowKit

/-- is a text a variable, byte by byte -/
def rvarB (s : ByteArray) : Bool := decide (1 ≤ s.size) && (decide (s.size ≤ 16) && (upB (hdB s) && s.data.toList.all fun c => winB (c.toNat : Int)))
def rvarL (l : List UInt8) : Bool := decide (1 ≤ l.length) && (decide (l.length ≤ 16) && (upB ((l.headD 0).toNat : Int) && l.all fun c => winB (c.toNat : Int)))
theorem runL_all : ∀ r : List UInt8, runL r = r.length ↔ (r.all fun c => winB (c.toNat : Int)) = true
  | [] => by simp [runL]
  | c :: r => by
    have ih := runL_all r
    have hle := runL_le r
    rw [runL, List.all_cons, List.length_cons]
    cases h : winB (c.toNat : Int) with
    | true => simp only [if_true, Bool.true_and]; rw [← ih]; omega
    | false => simp
theorem upB_iff (c : Int) : upB c = true ↔ 65 ≤ c ∧ c ≤ 90 := by simp [upB]
theorem oneL_up (c : UInt8) (r : List UInt8) (h : upB (c.toNat : Int) = true) : oneL (c :: r) = pieceL (c :: r) (1 + runL r) := by
  obtain ⟨h1, h2⟩ := (upB_iff _).1 h
  have hne : ∀ n : Nat, (n < 65 ∨ 90 < n) → (c.toNat == n) = false := fun n hn => beq_eq_false_iff_ne.2 (by omega)
  have hw : winB (c.toNat : Int) = true := by unfold winB; rw [h]; simp
  rw [oneL, hne 32 (by omega), hne 9 (by omega), hne 40 (by omega), hne 41 (by omega), hne 44 (by omega), hne 46 (by omega), hne 60 (by omega), hne 58 (by omega), hne 33 (by omega), hne 45 (by omega), hw]
  rfl
theorem kindL_var {l : List UInt8} (h : kindL l = 2) : upB ((l.headD 0).toNat : Int) = true ∧ l.length ≤ 16 := by
  unfold kindL at h
  split at h
  · exact absurd h (by decide)
  · split at h
    · rename_i h2
      simpa using h2
    · split at h
      · exact absurd h (by decide)
      · split at h
        · exact absurd h (by decide)
        · exact absurd h (by decide)
theorem kindL_up {l : List UInt8} (h : upB ((l.headD 0).toNat : Int) = true) (hl : l.length ≤ 16) : kindL l = 2 := by
  obtain ⟨h1, h2⟩ := (upB_iff _).1 h
  have hw : wordL l = false := by
    unfold wordL
    rw [Bool.or_eq_false_iff]
    refine ⟨beq_eq_false_iff_ne.2 fun e => ?_, beq_eq_false_iff_ne.2 fun e => ?_⟩
    · rw [e] at h2; exact absurd h2 (by decide)
    · rw [e] at h2; exact absurd h2 (by decide)
  unfold kindL
  rw [hw, h]
  simp [hl]
theorem piece_kind (c : UInt8) (r : List UInt8) (n : Nat) (h : (pieceL (c :: r) (1 + n)).kind = 2) : upB (c.toNat : Int) = true := by
  unfold pieceL at h
  split at h
  · exact absurd h (by decide)
  · have h2 := (kindL_var h).1
    rw [Nat.add_comm, List.take_succ_cons] at h2
    exact h2
theorem one_kind (c : UInt8) (r : List UInt8) (h : (oneL (c :: r)).kind = 2) : upB (c.toNat : Int) = true := by
  rw [oneL] at h
  split at h
  · exact absurd h (by decide)
  · split at h
    · exact absurd h (by decide)
    · split at h
      · split at h <;> exact absurd h (by decide)
      · split at h
        · split at h <;> exact absurd h (by decide)
        · split at h
          · split at h
            · exact piece_kind c r _ h
            · exact absurd h (by decide)
          · split at h
            · exact piece_kind c r _ h
            · exact absurd h (by decide)
theorem varL_eq (l : List UInt8) : (((oneA l 0).err == 0) && ((oneA l 0).kind == 2) && ((if (oneA l 0).err = 0 then (0 : Int) + (oneA l 0).len else 0) == (l.length : Int))) = rvarL l := by
  cases l with
  | nil => rfl
  | cons c r =>
    have ho : oneA (c :: r) 0 = oneL (c :: r) := by
      unfold oneA
      rw [if_pos ⟨Int.le_refl _, by simp⟩]
      rfl
    rw [ho]
    cases hu : upB (c.toNat : Int) with
    | false =>
      have hk : ((oneL (c :: r)).kind == 2) = false := beq_eq_false_iff_ne.2 fun e => by rw [one_kind c r e] at hu; cases hu
      rw [hk]
      unfold rvarL
      show _ = (_ && (_ && (upB (c.toNat : Int) && _)))
      rw [hu]
      simp
    | true =>
      rw [oneL_up c r hu]
      have hle := runL_le r
      have hwc : winB (c.toNat : Int) = true := by unfold winB; rw [hu]; simp
      have hall : ((c :: r).all fun c => winB (c.toNat : Int)) = r.all fun c => winB (c.toNat : Int) := by rw [List.all_cons, hwc]; rfl
      have hr : rvarL (c :: r) = (decide (r.length + 1 ≤ 16) && r.all fun c => winB (c.toNat : Int)) := by
        unfold rvarL
        rw [hall]
        show (_ && (_ && (upB (c.toNat : Int) && _))) = _
        rw [hu]
        simp
      rw [hr]
      have hlen : ((c :: r).take (1 + runL r)).length = 1 + runL r := by rw [List.length_take]; simp; omega
      have hhd : ((c :: r).take (1 + runL r)).headD 0 = c := by rw [Nat.add_comm, List.take_succ_cons]; rfl
      by_cases hs : 1 + runL r ≤ 16
      · have hk := kindL_up (l := (c :: r).take (1 + runL r)) (by rw [hhd]; exact hu) (by rw [hlen]; exact hs)
        have hp : pieceL (c :: r) (1 + runL r) = ⟨0, 2, 1 + runL r⟩ := by unfold pieceL; rw [hk]; rfl
        rw [hp]
        simp only [if_pos, List.length_cons]
        have hd : decide ((1 : Int) + (runL r : Nat) = (r.length + 1 : Nat)) = (r.all fun c => winB (c.toNat : Int)) := by
          cases ha : r.all fun c => winB (c.toNat : Int) with
          | true => have := (runL_all r).2 ha; simp; omega
          | false =>
            have : runL r ≠ r.length := fun e => by rw [(runL_all r).1 e] at ha; cases ha
            simp; omega
        cases ha : r.all fun c => winB (c.toNat : Int) with
        | true =>
          have e := (runL_all r).2 ha
          simp only [e, Bool.and_true]
          have : r.length + 1 ≤ 16 := by omega
          simp [this]; omega
        | false =>
          have : runL r ≠ r.length := fun e => by rw [(runL_all r).1 e] at ha; cases ha
          simp; omega
      · have hk : ((pieceL (c :: r) (1 + runL r)).kind == 2) = false := beq_eq_false_iff_ne.2 fun e => by
          unfold pieceL at e
          split at e
          · exact absurd e (by decide)
          · have := (kindL_var e).2
            rw [hlen] at this
            exact hs this
        rw [hk]
        have : ¬ (r.length + 1 ≤ 16) := by omega
        simp [this]
theorem var_eq (s : ByteArray) : varB s = rvarB s := by
  have h := varL_eq s.data.toList
  have hz : s.size = s.data.toList.length := rfl
  unfold varB rvarB
  rw [hz, h]
  rfl
end Go.Proofs.YtfmkfabbiifolaaGreatDoor

/-
  Contract: the reference's Var.
-/
namespace Go.Proofs.YtfmkfabbiifolaaGreatDoor
open Go.RowKit

theorem rvar_no (s : ByteArray) (h : ¬ (1 ≤ s.size ∧ s.size ≤ 16 ∧ upB (hdB s) = true)) : rvarB s = false := by
  unfold rvarB
  by_cases h1 : 1 ≤ s.size
  · by_cases h2 : s.size ≤ 16
    · cases h3 : upB (hdB s) with
      | true => exact absurd ⟨h1, h2, h3⟩ h
      | false => simp
    · simp [h2]
  · simp [h1]
theorem rvar_yes (s : ByteArray) (h1 : 1 ≤ s.size) (h2 : s.size ≤ 16) (h3 : upB (hdB s) = true) : rvarB s = s.data.toList.all fun c => winB (c.toNat : Int) := by
  unfold rvarB
  simp [h1, h2, h3]

set_option maxHeartbeats 2000000 in
theorem refvar_any (s : ByteArray) (w : World) (hs : s.size ≤ 140737488351232) :
    Calls Tryz.prog 142 #[.string s] w fun e w' => e = .returned (.bool (varB s)) ∧ w = w' := by
  rw [var_eq]
  by_cases h0 : s.size = 0
  · have HR := Lib.hid (rvar_no s (by omega))
    have h1 : (s.size : Int) < 1 := by omega
    clear h0
    go_enter Tryz.func142, Tryz.ntmps142
    go_wp2_with fail
    go_ret
    exact ⟨by rw [HR.out]; rfl, rfl⟩
  have hp : 0 < s.size := by omega
  have hp1 : ¬ (s.size : Int) < 1 := by omega
  by_cases h16 : 16 < s.size
  · have HR := Lib.hid (rvar_no s (by omega))
    have h1 : (16 : Int) < (s.size : Int) := by omega
    clear h0
    go_enter Tryz.func142, Tryz.ntmps142
    go_wp2_with fail
    go_ret
    exact ⟨by rw [HR.out]; rfl, rfl⟩
  have hp2 : ¬ (16 : Int) < (s.size : Int) := by omega
  have HE := Lib.hid (hd_eq s hp)
  by_cases ha : (s[0].toNat : Int) < 65
  · have HR := Lib.hid (rvar_no s fun h => by have := (upB_iff _).1 h.2.2; rw [← HE.out] at this; omega)
    clear h0
    go_enter Tryz.func142, Tryz.ntmps142
    go_wp2_with fail
    go_ret
    exact ⟨by rw [HR.out]; rfl, rfl⟩
  by_cases hb : (90 : Int) < (s[0].toNat : Int)
  · have HR := Lib.hid (rvar_no s fun h => by have := (upB_iff _).1 h.2.2; rw [← HE.out] at this; omega)
    clear h0
    go_enter Tryz.func142, Tryz.ntmps142
    go_wp2_with fail
    go_ret
    exact ⟨by rw [HR.out]; rfl, rfl⟩
  have HR := Lib.hid (rvar_yes s hp (by omega) ((upB_iff _).2 (by rw [← HE.out]; omega)))
  clear h0 HE
  go_enter Tryz.func142, Tryz.ntmps142
  go_wp2_with fail
  go_loop [3] (fun i => ∃ k : Nat, k ≤ s.size ∧ i = .int .i64 k ∧ Hid ((s.data.toList.all fun c => winB (c.toNat : Int)) = (s.data.toList.drop k).all fun c => winB (c.toNat : Int))) (fun i => s.size - (intOf i).toNat)
  case atStart => exact ⟨0, Nat.zero_le _, rfl, Lib.hid rfl⟩
  case round =>
    obtain ⟨k, hk, rfl, HA⟩ := hrel
    by_cases hlt : k < s.size
    · have HS := Lib.hid (all_step (fun c : UInt8 => winB (c.toNat : Int)) s.data.toList k hlt)
      have HI := Lib.hid (refin_any (s[k].toNat : Int) w)
      have HSE := Lib.hid (show winB ((s.data.toList[k]'hlt).toNat : Int) = winB (s[k].toNat : Int) from rfl)
      have hk0 : (0 : Int) ≤ (k : Int) := by omega
      have hk1 : (k : Int) < (s.size : Int) := by omega
      cases hq : winB (s[k].toNat : Int) with
      | true =>
        rw [hq] at HI HSE
        go_wp2_with (go_at_call 90; refine (HI.out).mono ?_; rintro e w' ⟨rfl, rfl⟩)
        go_round
        case rel => exact ⟨k + 1, by omega, by go_num, Lib.hid (by rw [HA.out, HS.out, HSE.out]; rfl)⟩
        case measure => simp [intOf]; omega
      | false =>
        rw [hq] at HI HSE
        go_wp2_with (go_at_call 90; refine (HI.out).mono ?_; rintro e w' ⟨rfl, rfl⟩)
        go_ret
        exact ⟨by rw [HR.out, HA.out, HS.out, HSE.out]; rfl, rfl⟩
    · have HS := Lib.hid (all_end (fun c : UInt8 => winB (c.toNat : Int)) s.data.toList k (show s.size ≤ k by omega))
      go_wp2_with fail
      go_ret
      exact ⟨by rw [HR.out, HA.out, HS.out]; rfl, rfl⟩
end Go.Proofs.YtfmkfabbiifolaaGreatDoor

/-
  Contracts: the reference's Good and Text of a value.
-/
namespace Go.Proofs.YtfmkfabbiifolaaGreatDoor
open Go.RowKit

set_option maxHeartbeats 400000 in
theorem refgood_any (s : ByteArray) (n : Int) (w : World) (hs : s.size ≤ maxLen) :
    Calls Tryz.prog 141 #[.agg #[.string s, .int .i64 n]] w fun e w' => e = .returned (.bool (goodB s n)) ∧ Below w.heap.size w w' := by
  by_cases h0 : s.toList.isEmpty = true
  · have h1 : ((s.size : Int) == 0) = true := by rw [sz_eq, h0]
    go_enter Tryz.func141, Tryz.ntmps141
    go_wp2_with fail
    go_ret
    exact ⟨by simp [goodB, h0], (Below.refl _ _).alloc (Nat.le_refl _) _⟩
  · have h0 : s.toList.isEmpty = false := by simpa using h0
    have h1 : ((s.size : Int) == 0) = false := by rw [sz_eq, h0]
    by_cases hn : nameB s = true
    · go_enter Tryz.func141, Tryz.ntmps141
      go_wp2_with (go_at_call 33; refine (refname_any _ _ hs).mono ?_; rintro e w' ⟨rfl, rfl⟩)
      go_ret
      exact ⟨by simp [goodB, h0, hn], (Below.refl _ _).alloc (Nat.le_refl _) _⟩
    · have hn : nameB s = false := by simpa using hn
      go_enter Tryz.func141, Tryz.ntmps141
      go_wp2_with (go_at_call 33; refine (refname_any _ _ hs).mono ?_; rintro e w' ⟨rfl, rfl⟩)
      go_ret
      exact ⟨by simp [goodB, h0, hn], (Below.refl _ _).alloc (Nat.le_refl _) _⟩
set_option maxHeartbeats 400000 in
theorem reftext_any (s : ByteArray) (n : Int) (w : World) (hs : s.size ≤ maxLen) (h0 : -9223372036854775808 ≤ n) (h1 : n ≤ 9223372036854775807) :
    Calls Tryz.prog 127 #[.agg #[.string s, .int .i64 n]] w fun e w' => e = .returned (.tuple #[.string (textS s n), .bool (goodB s n)]) ∧ Below w.heap.size w w' := by
  by_cases hg : goodB s n = true
  · by_cases h2 : s.toList.isEmpty = true
    · have H := Lib.hid (show textS s n = itoaS n by simp [textS, hg, h2])
      have q1 : ((s.size : Int) == 0) = true := by rw [sz_eq, h2]
      have q : ¬ 0 < s.size := by have := beq_iff_eq.1 q1; omega
      go_enter Tryz.func127, Tryz.ntmps127
      go_wp2_with fail
      refine (refgood_any _ _ _ hs).mono ?_
      rintro e w1 ⟨rfl, hb⟩
      obtain ⟨hc, hf⟩ := bcell hb
      go_wp2_with fail
      refine (number_any n _ h0 h1).mono ?_
      rintro e w2 ⟨rfl, hb2⟩
      go_wp2_with fail
      go_ret2
      exact ⟨by rw [H.out, hg]; rfl, (app1 hb).trans (hb2.mono (app1 hb).size)⟩
    · have h2 : s.toList.isEmpty = false := by simpa using h2
      have H := Lib.hid (show textS s n = s by simp [textS, hg, h2])
      have q : 0 < s.size := pos_of_ne s h2
      go_enter Tryz.func127, Tryz.ntmps127
      go_wp2_with fail
      refine (refgood_any _ _ _ hs).mono ?_
      rintro e w1 ⟨rfl, hb⟩
      obtain ⟨hc, hf⟩ := bcell hb
      go_wp2_with fail
      go_ret2
      exact ⟨by rw [H.out, hg]; rfl, app1 hb⟩
  · have hg : goodB s n = false := by simpa using hg
    have H := Lib.hid (show textS s n = ⟨#[]⟩ by simp [textS, hg])
    go_enter Tryz.func127, Tryz.ntmps127
    go_wp2_with fail
    refine (refgood_any _ _ _ hs).mono ?_
    rintro e w1 ⟨rfl, hb⟩
    obtain ⟨hc, hf⟩ := bcell hb
    go_wp2_with fail
    go_ret2
    exact ⟨by rw [H.out, hg]; rfl, app1 hb⟩
end Go.Proofs.YtfmkfabbiifolaaGreatDoor
