/-
  Reading the arguments: a rule, numbers, of a bulk.
-/
import Derived.Test.YtbkdpdklpmcdgaaPbr
import Derived.Test.YtbkdpdklpmcdgaaRows
import Derived.Test.YtbkdpdklpmcdgaaChecked
import Derived.OpenShut
import Derived.ShutString
import Derived.Lib.SmallJoins
import Derived.Deep.SlicePairs
import Derived.Deep.Strs
set_option linter.unusedVariables false
set_option linter.unusedSimpArgs false
namespace Go.Proofs.Ytbkdpdklpmcdgaa
open Go.ChangeShapes Go.WideShapes Go.ChangeAt Go.WideMaps Go.WideElems Go.RowKit Go.Joins Go.Deep

theorem own : ownKnob Try.prog.godebug = none := by kernel_rfl
theorem laidOut : laidOutB Try.prog = true := by kernel_rfl
theorem cellsValue : Try.prog.cellsOf 50 = 2 := by kernel_rfl
theorem cellsTerm : Try.prog.cellsOf 52 = 3 := by kernel_rfl
theorem cellsFlat : Try.prog.cellsOf 24 = 3 := by kernel_rfl
theorem cellsRule : Try.prog.cellsOf 27 = 4 := by kernel_rfl
theorem cellsS : Try.prog.cellsOf 9 = 1 := by kernel_rfl
theorem cellsI : Try.prog.cellsOf 2 = 1 := by kernel_rfl
theorem cellsN : Try.prog.cellsOf 3 = 1 := by kernel_rfl
theorem cellsU8 : Try.prog.cellsOf 5 = 1 := by kernel_rfl
theorem cellssT : Try.prog.cellsOf 22 = 1 := by kernel_rfl
theorem cellssF : Try.prog.cellsOf 25 = 1 := by kernel_rfl

section
variable {H : Type} {enc : TypeId × Value → H} {W : World} {N : Nat}
theorem bulk_pos (x : DataW H) : 1 ≤ Rows.uptoBulk x := by
  cases x with
  | lit l => cases l <;> simp [Rows.uptoBulk]
  | nil => simp [Rows.uptoBulk]
  | ptr d => simp [Rows.uptoBulk]
  | slice elems spare => simp [Rows.uptoBulk]
  | agg parts => simp [Rows.uptoBulk]
  | iface t d => simp [Rows.uptoBulk]
  | map entries => simp [Rows.uptoBulk]
  | held h => simp [Rows.uptoBulk]
theorem bulk_length (l : List (DataW H)) : l.length ≤ Rows.uptoBulkAll l := by
  induction l with
  | nil => simp [Rows.uptoBulkAll]
  | cons x r ih =>
    have := bulk_pos x
    simp only [Rows.uptoBulkAll, List.length_cons]; omega
theorem bulk_mem : ∀ {l : List (DataW H)} {d : DataW H}, d ∈ l → Rows.uptoBulk d ≤ Rows.uptoBulkAll l
  | x :: r, d, hd => by
    simp only [Rows.uptoBulkAll]
    rcases List.mem_cons.1 hd with rfl | hd
    · omega
    · have := bulk_mem hd; omega
theorem bulk_agg {ps : List (DataW H)} (h : Rows.uptoBulk (.agg ps) ≤ N) {d : DataW H} (hd : d ∈ ps) : Rows.uptoBulk d ≤ N := by
  have := bulk_mem hd
  simp only [Rows.uptoBulk] at h
  omega
theorem bulk_slice {elems spare : List (DataW H)} (h : Rows.uptoBulk (.slice elems spare) ≤ N) : elems.length ≤ N ∧ ∀ d ∈ elems, Rows.uptoBulk d ≤ N := by
  simp only [Rows.uptoBulk] at h
  refine ⟨?_, fun d hd => ?_⟩
  · have := bulk_length elems; omega
  · have := bulk_mem hd; omega

theorem one_value {fuel : Nat} {a b : Value} {x : DataW H × List MemPlace} (h : DataW.trod enc Try.prog W 0 (fun _ => true) true fuel 50 [a, b] = some x) :
    ∃ (s : ByteArray) (n : Int), a = .string s ∧ b = .int .i64 n := by
  obtain ⟨y0, y1, m, _, _, h0, h1⟩ := trod_struct2 Try.underlying50 h
  simp only [cellsS, cellsI] at h0 h1
  obtain ⟨s, e0, _, hs⟩ := DataW.trod_string Try.underlying9 h0
  obtain ⟨n, e1, _, _⟩ := DataW.trod_int Try.underlying2 h1
  simp at e0 e1
  exact ⟨s, n, e0, e1⟩
theorem one_term {fuel : Nat} {a b c : Value} {x : DataW H × List MemPlace} (h : DataW.trod enc Try.prog W 0 (fun _ => true) true fuel 52 [a, b, c] = some x) :
    ∃ (t : Tm), a = .string t.v ∧ b = .string t.s ∧ c = .int .i64 t.n ∧ t.v.size ≤ maxLen := by
  obtain ⟨y0, y1, m, _, _, h0, h1⟩ := trod_struct2 Try.underlying52 h
  simp only [cellsS, cellsValue] at h0 h1
  obtain ⟨v, e0, _, hv⟩ := DataW.trod_string Try.underlying9 h0
  have h1' : DataW.trod enc Try.prog W 0 (fun _ => true) true m 50 [b, c] = some y1 := h1
  obtain ⟨s, n, rfl, rfl⟩ := one_value h1'
  simp at e0
  exact ⟨⟨v, s, n⟩, e0, rfl, rfl, hv⟩
/-- a slice whose elements are read one by one, with its bulk -/
theorem open_rdb {α : Type} [Inhabited α] {e : α → List Value} {k : Nat} (E : Enc e k) {sT eT : TypeId} {G : α → Prop} (hu : Try.prog.underlying sT = some (.slice eT)) (hk : Try.prog.cellsOf eT = k)
    (one : ∀ {fuel : Nat} {cs : List Value} {x : DataW H × List MemPlace}, DataW.trod enc Try.prog W 0 (fun _ => true) true fuel eT cs = some x → cs.length = k → Rows.uptoBulk x.1 ≤ N → ∃ a, cs = e a ∧ G a)
    {fuel : Nat} {v : Value} {x : DataW H × List MemPlace} (h : DataW.trod enc Try.prog W 0 (fun _ => true) true fuel sT [v] = some x) (hw : Rows.uptoBulk x.1 ≤ N) :
    ∃ (q : Option Addr) (l : List α) (c : Nat), v = .slice q l.length c ∧ Rd e k W W.heap.size q l ∧ (∀ a ∈ l, G a) ∧ l.length ≤ N ∧ l.length ≤ c ∧ c ≤ maxLen := by
  rcases open_slice hu h with ⟨hc, hx⟩ | ⟨a, len, cap, m, n, D, Pl, hc, _, hl, hm, hmm, hxx, hx⟩
  · simp at hc; subst hc
    exact ⟨none, [], 0, rfl, .nil, fun a ha => by simp at ha, Nat.zero_le _, Nat.le_refl _, Nat.zero_le _⟩
  · simp at hc; subst hc
    simp at hmm; subst hmm
    rw [hxx] at hw
    obtain ⟨hw1, hw2⟩ := bulk_slice hw
    have each : ∀ i, i < len → ∃ o : α, (∀ r u, (e o)[r]? = some u → W.cell? (a.add (i * k + r)) = some u) ∧ G o := by
      intro i hi
      obtain ⟨cs', h1, h2⟩ := hx i (by omega)
      rw [hk] at h1
      obtain ⟨_, hlen, hcell⟩ := World.cells?_some h1
      obtain ⟨o, ho, hG⟩ := one h2 hlen (hw2 _ (List.mem_map.2 ⟨i, by simpa using hi, rfl⟩))
      refine ⟨o, fun r u hr => ?_, hG⟩
      have hr' : r < cs'.length := by rw [ho]; exact (List.getElem?_eq_some_iff.1 hr).1
      have := hcell r (by omega)
      rw [add_add] at this
      rw [this]
      subst ho
      exact hr
    obtain ⟨O, hO⟩ := choose_lt each
    refine ⟨some a, (List.range len).map O, m, by simp, ?_, fun o ho => ?_, by simpa using hw1, by simp; omega, by omega⟩
    · rcases Nat.eq_zero_or_pos len with h0 | h0
      · subst h0; exact .inl rfl
      · obtain ⟨b, o, sp⟩ := a
        have hk0 := E.pos
        have hlen0 := E.len (O 0)
        have c0 := (hO 0 h0).1 0 _ (List.getElem?_eq_getElem (by omega))
        have hsp : sp = none := by simpa [Addr.add] using World.cell?_spot c0
        subst hsp
        rw [Addr.add_lit] at c0
        refine .inr ⟨b, o, rfl, lt_of_cell c0, fun i hi r u hu => ?_⟩
        have hi' : i < len := by simpa using hi
        simp only [List.getElem_map, List.getElem_range] at hu
        have := (hO i hi').1 r u hu
        rw [Addr.add_lit] at this
        rw [Nat.add_assoc]; exact this
    · obtain ⟨i, hi, rfl⟩ := List.mem_map.1 ho
      exact (hO i (by simpa using hi)).2
instance : Inhabited ByteArray := ⟨⟨#[]⟩⟩
instance : Inhabited Tm := ⟨⟨⟨#[]⟩, ⟨#[]⟩, 0⟩⟩
instance : Inhabited Fl := ⟨⟨0, ⟨#[]⟩, none, 0, []⟩⟩
/-- a literal that came in -/
structure Fl.Arg (f : Fl) (W : World) (N : Nat) : Prop where
  tm : Tms W W.heap.size f.ptr f.args
  sz : ∀ t ∈ f.args, t.v.size ≤ maxLen
  len : f.args.length ≤ N
/-- a rule that came in -/
structure Rl.Arg (r : Rl) (W : World) (N : Nat) : Prop where
  hd : r.head.Arg W N
  rd : Rd encF 3 W W.heap.size r.ptr r.body
  fl : ∀ f ∈ r.body, f.Arg W N
  len : r.body.length ≤ N
theorem open_terms {fuel : Nat} {v : Value} {x : DataW H × List MemPlace} (h : DataW.trod enc Try.prog W 0 (fun _ => true) true fuel 22 [v] = some x) (hw : Rows.uptoBulk x.1 ≤ N) :
    ∃ (q : Option Addr) (l : List Tm) (c : Nat), v = .slice q l.length c ∧ Tms W W.heap.size q l ∧ (∀ t ∈ l, t.v.size ≤ maxLen) ∧ l.length ≤ N := by
  obtain ⟨q, l, c, h1, h2, h3, h4, _⟩ := open_rdb EM (G := fun t : Tm => t.v.size ≤ maxLen) Try.underlying22 cellsTerm (fun h hl hw0 => by
    rename_i cs _
    match cs, hl with
    | [a, b, c], _ => obtain ⟨t, rfl, rfl, rfl, h1⟩ := one_term h; exact ⟨t, rfl, h1⟩) h hw
  exact ⟨q, l, c, h1, h2, h3, h4⟩
theorem one_flat {fuel : Nat} {a b c : Value} {x : DataW H × List MemPlace} (h : DataW.trod enc Try.prog W 0 (fun _ => true) true fuel 24 [a, b, c] = some x) (hw : Rows.uptoBulk x.1 ≤ N) :
    ∃ f : Fl, [a, b, c] = encF f ∧ f.Arg W N := by
  obtain ⟨y0, y1, y2, m, hx, _, h0, h1, h2⟩ := trod_struct3 Try.underlying24 h
  rw [hx] at hw
  have w2 := bulk_agg hw (show y2.1 ∈ [y0.1, y1.1, y2.1] by simp)
  simp only [cellsU8, cellsS, cellssT] at h0 h1 h2
  obtain ⟨k, e0, _, _⟩ := DataW.trod_int Try.underlying5 (show DataW.trod enc Try.prog W 0 (fun _ => true) true m 5 [a] = some y0 from h0)
  obtain ⟨s, e1, _, _⟩ := DataW.trod_string Try.underlying9 (show DataW.trod enc Try.prog W 0 (fun _ => true) true m 9 [b] = some y1 from h1)
  obtain ⟨q, l, cc, rfl, hr, hz, hl⟩ := open_terms (show DataW.trod enc Try.prog W 0 (fun _ => true) true m 22 [c] = some y2 from h2) w2
  simp at e0 e1; subst e0 e1
  exact ⟨⟨k, s, q, cc, l⟩, rfl, ⟨hr, hz, hl⟩⟩
theorem open_flats {fuel : Nat} {v : Value} {x : DataW H × List MemPlace} (h : DataW.trod enc Try.prog W 0 (fun _ => true) true fuel 25 [v] = some x) (hw : Rows.uptoBulk x.1 ≤ N) :
    ∃ (q : Option Addr) (l : List Fl) (c : Nat), v = .slice q l.length c ∧ Rd encF 3 W W.heap.size q l ∧ (∀ f ∈ l, f.Arg W N) ∧ l.length ≤ N := by
  obtain ⟨q, l, c, h1, h2, h3, h4, _⟩ := open_rdb EF (G := fun f : Fl => f.Arg W N) Try.underlying25 cellsFlat (fun h hl hw => by
    rename_i cs _
    match cs, hl with
    | [a, b, c], _ => exact one_flat h hw) h hw
  exact ⟨q, l, c, h1, h2, h3, h4⟩
set_option maxRecDepth 100000 in
theorem open_rule {base : Nat} {v : Value} {d : DataW H} {p : List MemPlace} (hv : Value.okWide Try.prog W .any base 27 v) (h : DataW.Trod enc Try.prog W 0 (fun _ => true) true 27 v d p) (hw : Rows.uptoBulk d ≤ N) :
    ∃ r : Rl, v = r.agg ∧ r.Arg W N := by
  obtain ⟨cs, rfl, hsz⟩ := okWide_struct Try.underlying27 hv
  obtain ⟨l⟩ := cs
  match l, hsz.trans cellsRule with
  | [c0, c1, c2, c3], _ =>
    obtain ⟨fuel, hf⟩ := h
    obtain ⟨y0, y1, m, hx, _, h0, h1⟩ := trod_struct2 Try.underlying27 hf
    have hd : d = .agg [y0.1, y1.1] := by simpa using congrArg Prod.fst hx
    subst hd
    have w0 := bulk_agg hw (show y0.1 ∈ [y0.1, y1.1] by simp)
    have w1 := bulk_agg hw (show y1.1 ∈ [y0.1, y1.1] by simp)
    simp only [cellsFlat, cellssF] at h0 h1
    obtain ⟨f, e0, hf0⟩ := one_flat (show DataW.trod enc Try.prog W 0 (fun _ => true) true m 24 [c0, c1, c2] = some y0 from h0) w0
    obtain ⟨q, l, c, rfl, hr, hl, hn⟩ := open_flats (show DataW.trod enc Try.prog W 0 (fun _ => true) true m 25 [c3] = some y1 from h1) w1
    unfold encF at e0
    cases e0
    exact ⟨⟨f, q, c, l⟩, rfl, ⟨hf0, hr, hl, hn⟩⟩
theorem open_ints {base : Nat} {v : Value} {d : DataW H} {p : List MemPlace} (hv : Value.okWide Try.prog W .any base 29 v) (h : DataW.Trod enc Try.prog W 0 (fun _ => true) true 29 v d p) (hw : Rows.uptoBulk d ≤ N) :
    ∃ (q : Option Addr) (l : List Int) (c : Nat), v = .slice q l.length c ∧ Rd encI 1 W W.heap.size q l ∧ l.length ≤ N := by
  obtain ⟨fuel, hf⟩ := h
  have hc : v.cells.toList = [v] := by
    simp only [Value.okWide, Try.underlying29, Cell.okWide] at hv
    cases v <;> simp_all [Cell.ok, Value.cells]
  rw [hc] at hf
  obtain ⟨q, l, c, h1, h2, _, h4, _⟩ := open_rdb EI (G := fun _ : Int => True) Try.underlying29 cellsN (fun h hl _ => by
    obtain ⟨n, e1, _, _⟩ := DataW.trod_int Try.underlying3 h
    exact ⟨n, e1, trivial⟩) hf hw
  exact ⟨q, l, c, h1, h2, h4⟩
end
end Go.Proofs.Ytbkdpdklpmcdgaa
