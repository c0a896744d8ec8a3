/-
  Reading the arguments: values, literals, tuples, lists of bindings and of tuples.
-/
import Derived.Test.YtmfaallipfhajaaBfx
import Derived.Test.YtmfaallipfhajaaChecked
import Derived.ProofKit
import Derived.OpenShut
import Derived.ShutString
import Derived.Lib.SmallJoins
import Derived.Deep.SlicePairs
namespace Go.Proofs.Ytmfaallipfhajaa
open Go.ChangeShapes Go.WideShapes Go.ChangeAt Go.WideMaps Go.WideElems Go.RowKit Go.Joins Go.Deep

theorem own : ownKnob Try.prog.godebug = none := by kernel_rfl
theorem laidOut : laidOutB Try.prog = true := by kernel_rfl
theorem cellsValue : Try.prog.cellsOf 46 = 2 := by kernel_rfl
theorem cellsTerm : Try.prog.cellsOf 48 = 3 := by kernel_rfl
theorem cellsBind : Try.prog.cellsOf 50 = 3 := by kernel_rfl
theorem cellsFlat : Try.prog.cellsOf 24 = 3 := by kernel_rfl
theorem cellsTuple : Try.prog.cellsOf 27 = 2 := by kernel_rfl
theorem cellsS : Try.prog.cellsOf 9 = 1 := by kernel_rfl
theorem cellsI : Try.prog.cellsOf 2 = 1 := by kernel_rfl
theorem cellsU8 : Try.prog.cellsOf 5 = 1 := by kernel_rfl
theorem cellssT : Try.prog.cellsOf 22 = 1 := by kernel_rfl
theorem cellssV : Try.prog.cellsOf 25 = 1 := by kernel_rfl

section
variable {H : Type} {enc : TypeId × Value → H} {W : World}
theorem pairV {fuel : Nat} {a b : Value} {x : DataW H × List MemPlace} (h : DataW.trod enc Try.prog W 0 (fun _ => true) true fuel 46 [a, b] = some x) :
    ∃ (s : ByteArray) (n : Int), a = .string s ∧ b = .int .i64 n ∧ s.size ≤ maxLen := by
  obtain ⟨y0, y1, m, _, _, h0, h1⟩ := trod_struct2 Try.underlying46 h
  simp only [cellsS, cellsI] at h0 h1
  obtain ⟨s, e0, _, hs⟩ := DataW.trod_string Try.underlying9 h0
  obtain ⟨n, e1, _, _⟩ := DataW.trod_int Try.underlying2 h1
  simp at e0 e1
  exact ⟨s, n, e0, e1, hs⟩
theorem tripleT {fuel : Nat} {a b c : Value} {x : DataW H × List MemPlace} (h : DataW.trod enc Try.prog W 0 (fun _ => true) true fuel 48 [a, b, c] = some x) :
    ∃ (t : Tm), a = .string t.v ∧ b = .string t.s ∧ c = .int .i64 t.n ∧ t.v.size ≤ maxLen ∧ t.s.size ≤ maxLen := by
  obtain ⟨y0, y1, m, _, _, h0, h1⟩ := trod_struct2 Try.underlying48 h
  simp only [cellsS, cellsValue] at h0 h1
  obtain ⟨v, e0, _, hv⟩ := DataW.trod_string Try.underlying9 h0
  have h1' : DataW.trod enc Try.prog W 0 (fun _ => true) true m 46 [b, c] = some y1 := h1
  obtain ⟨s, n, rfl, rfl, hs⟩ := pairV h1'
  simp at e0
  exact ⟨⟨v, s, n⟩, e0, rfl, rfl, hv, hs⟩
theorem tripleB {fuel : Nat} {a b c : Value} {x : DataW H × List MemPlace} (h : DataW.trod enc Try.prog W 0 (fun _ => true) true fuel 50 [a, b, c] = some x) :
    ∃ (t : Tm), a = .string t.v ∧ b = .string t.s ∧ c = .int .i64 t.n ∧ t.v.size ≤ maxLen ∧ t.s.size ≤ maxLen := by
  obtain ⟨y0, y1, m, _, _, h0, h1⟩ := trod_struct2 Try.underlying50 h
  simp only [cellsS, cellsValue] at h0 h1
  obtain ⟨v, e0, _, hv⟩ := DataW.trod_string Try.underlying9 h0
  have h1' : DataW.trod enc Try.prog W 0 (fun _ => true) true m 46 [b, c] = some y1 := h1
  obtain ⟨s, n, rfl, rfl, hs⟩ := pairV h1'
  simp at e0
  exact ⟨⟨v, s, n⟩, e0, rfl, rfl, hv, hs⟩

/-- a slice whose elements are read one by one -/
theorem open_rd {α : Type} [Inhabited α] {e : α → List Value} {k : Nat} (E : Enc e k) {sT eT : TypeId} {G : α → Prop} (hu : Try.prog.underlying sT = some (.slice eT)) (hk : Try.prog.cellsOf eT = k)
    (one : ∀ {fuel : Nat} {cs : List Value} {x : DataW H × List MemPlace}, DataW.trod enc Try.prog W 0 (fun _ => true) true fuel eT cs = some x → cs.length = k → ∃ a, cs = e a ∧ G a)
    {fuel : Nat} {v : Value} {x : DataW H × List MemPlace} (h : DataW.trod enc Try.prog W 0 (fun _ => true) true fuel sT [v] = some x) :
    ∃ (q : Option Addr) (l : List α) (c : Nat), v = .slice q l.length c ∧ Rd e k W W.heap.size q l ∧ (∀ i (hi : i < l.length), G l[i]) ∧ l.length ≤ c ∧ c ≤ maxLen ∧ (q = none → c = 0) := by
  rcases open_slice hu h with ⟨hc, hx⟩ | ⟨a, len, cap, m, n, D, Pl, hc, _, hl, hm, hmm, hxx, hx⟩
  · simp at hc; subst hc
    exact ⟨none, [], 0, rfl, .nil, fun i hi => by simp at hi, Nat.le_refl _, Nat.zero_le _, fun _ => rfl⟩
  · simp at hc; subst hc
    simp at hmm; subst hmm
    have each : ∀ i, i < len → ∃ o : α, (∀ r u, (e o)[r]? = some u → W.cell? (a.add (i * k + r)) = some u) ∧ G o := by
      intro i hi
      obtain ⟨cs', h1, h2⟩ := hx i (by omega)
      rw [hk] at h1
      obtain ⟨_, hlen, hcell⟩ := World.cells?_some h1
      obtain ⟨o, ho, hG⟩ := one h2 hlen
      refine ⟨o, fun r u hr => ?_, hG⟩
      have hr' : r < cs'.length := by rw [ho]; exact (List.getElem?_eq_some_iff.1 hr).1
      have := hcell r (by omega)
      rw [add_add] at this
      rw [this]
      subst ho
      exact hr
    obtain ⟨O, hO⟩ := choose_lt each
    refine ⟨some a, (List.range len).map O, m, by simp, ?_, fun i hi => ?_, by simp; omega, by omega, fun h => by cases h⟩
    · rcases Nat.eq_zero_or_pos len with h0 | h0
      · subst h0; exact .inl rfl
      · obtain ⟨b, o, sp⟩ := a
        have hk0 := E.pos
        have hlen0 := E.len (O 0)
        have c0 := (hO 0 h0).1 0 _ (List.getElem?_eq_getElem (by omega))
        have hsp : sp = none := by simpa [Addr.add] using World.cell?_spot c0
        subst hsp
        rw [Addr.add_lit] at c0
        refine .inr ⟨b, o, rfl, lt_of_cell c0, fun i hi r u hu => ?_⟩
        have hi' : i < len := by simpa using hi
        simp only [List.getElem_map, List.getElem_range] at hu
        have := (hO i hi').1 r u hu
        rw [Addr.add_lit] at this
        rw [Nat.add_assoc]; exact this
    · have hi' : i < len := by simpa using hi
      simp only [List.getElem_map, List.getElem_range]
      exact (hO i hi').2

set_option maxRecDepth 100000 in
theorem openValue {base : Nat} {v : Value} {d : DataW H} {p : List MemPlace} (hv : Value.okWide Try.prog W .any base 46 v) (h : DataW.Trod enc Try.prog W 0 (fun _ => true) true 46 v d p) :
    ∃ (s : ByteArray) (n : Int), v = .agg #[.string s, .int .i64 n] ∧ s.size ≤ maxLen := by
  obtain ⟨c0, c1, y0, y1, m, rfl, rfl, rfl, hy0, hy1⟩ := open_agg2 Try.underlying46 (by kernel_rfl) cellsValue hv h
  obtain ⟨s, e0, _, hs⟩ := DataW.trod_string Try.underlying9 hy0
  obtain ⟨n, e1, _, hn⟩ := DataW.trod_int Try.underlying2 hy1
  cases e0
  cases e1
  exact ⟨s, n, rfl, hs⟩
instance : Inhabited ByteArray := ⟨⟨#[]⟩⟩
instance : Inhabited Tm := ⟨⟨⟨#[]⟩, ⟨#[]⟩, 0⟩⟩
def TmOk (t : Tm) : Prop := t.v.size ≤ maxLen ∧ t.s.size ≤ maxLen
theorem openTerms {fuel : Nat} {v : Value} {x : DataW H × List MemPlace} (h : DataW.trod enc Try.prog W 0 (fun _ => true) true fuel 22 [v] = some x) :
    ∃ (q : Option Addr) (l : List Tm) (c : Nat), v = .slice q l.length c ∧ Tms W W.heap.size q l ∧ SzM l ∧ l.length ≤ c ∧ c ≤ maxLen ∧ (q = none → c = 0) :=
  open_rd EM (G := TmOk) Try.underlying22 cellsTerm (fun h hl => by
    rename_i cs _
    match cs, hl with
    | [a, b, c], _ => obtain ⟨t, rfl, rfl, rfl, h1, h2⟩ := tripleT h; exact ⟨t, rfl, h1, h2⟩) h
theorem openBinds0 {fuel : Nat} {v : Value} {x : DataW H × List MemPlace} (h : DataW.trod enc Try.prog W 0 (fun _ => true) true fuel 28 [v] = some x) :
    ∃ (q : Option Addr) (l : List Tm) (c : Nat), v = .slice q l.length c ∧ Tms W W.heap.size q l ∧ SzM l ∧ l.length ≤ c ∧ c ≤ maxLen ∧ (q = none → c = 0) :=
  open_rd EM (G := TmOk) Try.underlying28 cellsBind (fun h hl => by
    rename_i cs _
    match cs, hl with
    | [a, b, c], _ => obtain ⟨t, rfl, rfl, rfl, h1, h2⟩ := tripleB h; exact ⟨t, rfl, h1, h2⟩) h
theorem openVals {fuel : Nat} {v : Value} {x : DataW H × List MemPlace} (h : DataW.trod enc Try.prog W 0 (fun _ => true) true fuel 25 [v] = some x) :
    ∃ (q : Option Addr) (l : List Vl) (c : Nat), v = .slice q l.length c ∧ Rd encV 2 W W.heap.size q l ∧ SzOk l ∧ l.length ≤ c ∧ c ≤ maxLen ∧ (q = none → c = 0) :=
  open_rd EV (G := fun v : Vl => v.1.size ≤ maxLen) Try.underlying25 cellsValue (fun h hl => by
    rename_i cs _
    match cs, hl with
    | [a, b], _ => obtain ⟨s, n, rfl, rfl, h1⟩ := pairV h; exact ⟨(s, n), rfl, h1⟩) h
theorem openBinds {base : Nat} {v : Value} {d : DataW H} {p : List MemPlace} (hv : Value.okWide Try.prog W .any base 28 v) (h : DataW.Trod enc Try.prog W 0 (fun _ => true) true 28 v d p) :
    ∃ (q : Option Addr) (l : List Tm) (c : Nat), v = .slice q l.length c ∧ Tms W W.heap.size q l ∧ SzM l ∧ l.length ≤ c ∧ c ≤ maxLen ∧ (q = none → c = 0) := by
  obtain ⟨fuel, hf⟩ := h
  have hc : v.cells.toList = [v] := by
    simp only [Value.okWide, Try.underlying28, Cell.okWide] at hv
    cases v <;> simp_all [Cell.ok, Value.cells]
  rw [hc] at hf
  exact openBinds0 hf
instance : Inhabited Tp := ⟨⟨⟨#[]⟩, none, 0, []⟩⟩
theorem openTuples {base : Nat} {v : Value} {d : DataW H} {p : List MemPlace} (hv : Value.okWide Try.prog W .any base 41 v) (h : DataW.Trod enc Try.prog W 0 (fun _ => true) true 41 v d p) :
    ∃ (q : Option Addr) (l : List Tp) (c : Nat), v = .slice q l.length c ∧ Rd encT 2 W W.heap.size q l ∧ Tin W l ∧ (∀ t ∈ l, t.pred.size ≤ maxLen ∧ SzOk t.args ∧ t.args.length ≤ maxLen) ∧ l.length ≤ maxLen := by
  obtain ⟨fuel, hf⟩ := h
  have hc : v.cells.toList = [v] := by
    simp only [Value.okWide, Try.underlying41, Cell.okWide] at hv
    cases v <;> simp_all [Cell.ok, Value.cells]
  rw [hc] at hf
  obtain ⟨q, l, c, h1, h2, h3, h4, h5, _⟩ := open_rd ET (G := fun t : Tp => Rd encV 2 W W.heap.size t.ptr t.args ∧ t.pred.size ≤ maxLen ∧ SzOk t.args ∧ t.args.length ≤ maxLen) Try.underlying41 cellsTuple (fun h hl => by
    rename_i cs _
    match cs, hl with
    | [a, b], _ =>
      obtain ⟨y0, y1, m, _, _, g0, g1⟩ := trod_struct2 Try.underlying27 h
      simp only [cellsS, cellssV] at g0 g1
      obtain ⟨s, e0, _, hs⟩ := DataW.trod_string Try.underlying9 g0
      have g1' : DataW.trod enc Try.prog W 0 (fun _ => true) true m 25 [b] = some y1 := g1
      obtain ⟨q, l, c, e1, hr, hz, hl, hc, _⟩ := openVals g1'
      simp at e0
      subst e0 e1
      exact ⟨⟨s, q, c, l⟩, rfl, hr, hs, hz, Nat.le_trans hl hc⟩) hf
  have hall : ∀ t ∈ l, Rd encV 2 W W.heap.size t.ptr t.args ∧ t.pred.size ≤ maxLen ∧ SzOk t.args ∧ t.args.length ≤ maxLen := by
    intro t ht
    obtain ⟨i, hi, rfl⟩ := List.mem_iff_getElem.1 ht
    exact h3 i hi
  exact ⟨q, l, c, h1, h2, fun t ht => (hall t ht).1, fun t ht => (hall t ht).2, Nat.le_trans h4 h5⟩
set_option maxRecDepth 100000 in
theorem openFlat {base : Nat} {v : Value} {d : DataW H} {p : List MemPlace} (hv : Value.okWide Try.prog W .any base 24 v) (h : DataW.Trod enc Try.prog W 0 (fun _ => true) true 24 v d p) :
    ∃ (k : Int) (s : ByteArray) (q : Option Addr) (l : List Tm) (c : Nat), v = .agg #[.int .u8 k, .string s, .slice q l.length c] ∧ Tms W W.heap.size q l ∧ SzM l ∧ l.length ≤ maxLen ∧ s.size ≤ maxLen := by
  obtain ⟨c0, c1, c2, y0, y1, y2, m, rfl, rfl, rfl, hy0, hy1, hy2⟩ := open_agg3 Try.underlying24 (by kernel_rfl) cellsFlat hv h
  obtain ⟨k, e0, _, _⟩ := DataW.trod_int Try.underlying5 hy0
  obtain ⟨s, e1, _, hs⟩ := DataW.trod_string Try.underlying9 hy1
  obtain ⟨q, l, c, e2, hr, hz, hl, hc, _⟩ := openTerms hy2
  cases e0
  cases e1
  subst e2
  exact ⟨k, s, q, l, c, rfl, hr, hz, by omega, hs⟩
set_option maxRecDepth 100000 in
theorem openTuple {base : Nat} {v : Value} {d : DataW H} {p : List MemPlace} (hv : Value.okWide Try.prog W .any base 27 v) (h : DataW.Trod enc Try.prog W 0 (fun _ => true) true 27 v d p) :
    ∃ (s : ByteArray) (q : Option Addr) (l : List Vl) (c : Nat), v = .agg #[.string s, .slice q l.length c] ∧ Rd encV 2 W W.heap.size q l ∧ SzOk l ∧ l.length ≤ maxLen ∧ s.size ≤ maxLen := by
  obtain ⟨c0, c1, y0, y1, m, rfl, rfl, rfl, hy0, hy1⟩ := open_agg2 Try.underlying27 (by kernel_rfl) cellsTuple hv h
  obtain ⟨s, e0, _, hs⟩ := DataW.trod_string Try.underlying9 hy0
  obtain ⟨q, l, c, e1, hr, hz, hl, hc, _⟩ := openVals hy1
  cases e0
  subst e1
  exact ⟨s, q, l, c, rfl, hr, hz, by omega, hs⟩
end
end Go.Proofs.Ytmfaallipfhajaa
