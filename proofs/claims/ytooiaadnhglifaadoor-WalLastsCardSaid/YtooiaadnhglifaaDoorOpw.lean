/-
  Opening the arguments of this seat's statements.
-/
import Derived.Test.YtooiaadnhglifaaDoorFrw
import Derived.Test.YtooiaadnhglifaaDoorPrt
import Derived.SizedLaws
import Derived.DataShut
import Derived.Lib.SmallJoins
import Derived.Deep.SlicePairs
set_option linter.unusedVariables false
set_option linter.unusedSimpArgs false
set_option maxRecDepth 100000
namespace Go.Proofs.YtooiaadnhglifaaDoor
open Go.ChangeShapes Go.WideShapes Go.ChangeAt Go.WideMaps Go.WideElems Go.RowKit Go.Joins Go.Deep
theorem u8_of {n : Int} (h : (Lit.int .u8 n).wf = true) : ∃ u : UInt8, n = (u.toNat : Int) := by
  have h2 := (Lit.wf_int_iff _ _).1 h
  have h3 : IntKind.min .u8 = 0 := by decide
  have h4 : IntKind.max .u8 = 255 := by decide
  rw [h3, h4] at h2
  refine ⟨UInt8.ofNat n.toNat, ?_⟩
  rw [UInt8.toNat_ofNat']
  omega
theorem i64_range {n : Int} (h : (Lit.int .i64 n).wf = true) : -9223372036854775808 ≤ n ∧ n ≤ 9223372036854775807 := by
  have h2 := (Lit.wf_int_iff _ _).1 h
  have h3 : IntKind.min .i64 = -9223372036854775808 := by decide
  have h4 : IntKind.max .i64 = 9223372036854775807 := by decide
  rw [h3, h4] at h2
  exact h2
theorem cellsU8 : Tryd.prog.cellsOf 5 = 1 := by kernel_rfl
theorem cellssU8 : Tryd.prog.cellsOf 22 = 1 := by kernel_rfl
def enc8 (u : UInt8) : List Value := [B8 u]
def encS (x : SlA) : List Value := [.slice x.q x.m.length x.c]
theorem E8 : Enc enc8 1 := ⟨fun _ => rfl, by decide, fun a u hu => by simp only [enc8, List.mem_cons, List.not_mem_nil, or_false] at hu; subst hu; rfl⟩
theorem ES : Enc encS 1 := ⟨fun _ => rfl, by decide, fun a u hu => by simp only [encS, List.mem_cons, List.not_mem_nil, or_false] at hu; subst hu; rfl⟩
instance : Inhabited SlA := ⟨⟨none, 0, []⟩⟩
section
variable {H : Type} {enc : TypeId × Value → H} {W : World}
/-- a slice whose elements are read one by one -/
theorem open_rd {α : Type} [Inhabited α] {e : α → List Value} {k : Nat} (E : Enc e k) {sT eT : TypeId} {G : α → Prop} (hu : Tryd.prog.underlying sT = some (.slice eT)) (hk : Tryd.prog.cellsOf eT = k)
    (one : ∀ {fuel : Nat} {cs : List Value} {x : DataW H × List MemPlace}, DataW.trod enc Tryd.prog W 0 (fun _ => true) true fuel eT cs = some x → cs.length = k → ∃ a, cs = e a ∧ G a)
    {fuel : Nat} {v : Value} {x : DataW H × List MemPlace} (h : DataW.trod enc Tryd.prog W 0 (fun _ => true) true fuel sT [v] = some x) :
    ∃ (q : Option Addr) (l : List α) (c : Nat), v = .slice q l.length c ∧ Rd e k W W.heap.size q l ∧ (∀ a ∈ l, G a) ∧ l.length ≤ c := by
  rcases open_slice hu h with ⟨hc, hx⟩ | ⟨a, len, cap, m, n, D, Pl, hc, _, hl, hm, hmm, hxx, hx⟩
  · simp at hc; subst hc
    exact ⟨none, [], 0, rfl, .nil, fun a ha => by simp at ha, Nat.le_refl _⟩
  · simp at hc; subst hc
    simp at hmm; subst hmm
    have each : ∀ i, i < len → ∃ o : α, (∀ r u, (e o)[r]? = some u → W.cell? (a.add (i * k + r)) = some u) ∧ G o := by
      intro i hi
      obtain ⟨cs', h1, h2⟩ := hx i (by omega)
      rw [hk] at h1
      obtain ⟨_, hlen, hcell⟩ := World.cells?_some h1
      obtain ⟨o, ho, hG⟩ := one h2 hlen
      refine ⟨o, fun r u hr => ?_, hG⟩
      have hr' : r < cs'.length := by rw [ho]; exact (List.getElem?_eq_some_iff.1 hr).1
      have := hcell r (by omega)
      rw [add_add] at this
      rw [this]
      subst ho
      exact hr
    obtain ⟨O, hO⟩ := choose_lt each
    refine ⟨some a, (List.range len).map O, m, by simp, ?_, fun o ho => ?_, by simp; omega⟩
    · rcases Nat.eq_zero_or_pos len with h0 | h0
      · subst h0; exact .inl rfl
      · obtain ⟨b, o, sp⟩ := a
        have hk0 := E.pos
        have hlen0 := E.len (O 0)
        have c0 := (hO 0 h0).1 0 _ (List.getElem?_eq_getElem (by omega))
        have hsp : sp = none := by simpa [Addr.add] using World.cell?_spot c0
        subst hsp
        rw [Addr.add_lit] at c0
        refine .inr ⟨b, o, rfl, lt_of_cell c0, fun i hi r u hu => ?_⟩
        have hi' : i < len := by simpa using hi
        simp only [List.getElem_map, List.getElem_range] at hu
        have := (hO i hi').1 r u hu
        rw [Addr.add_lit] at this
        rw [Nat.add_assoc]; exact this
    · obtain ⟨i, hi, rfl⟩ := List.mem_map.1 ho
      exact (hO i (by simpa using hi)).2
theorem rd0_of {q : Option Addr} {m : List UInt8} (h : Rd enc8 1 W W.heap.size q m) : Rd0 W q m := by
  rcases h with h | ⟨b, off, h1, h2, h3⟩
  · exact .inl h
  · refine .inr ⟨b, off, h1, h2, fun i v hv => ?_⟩
    obtain ⟨hi, rfl⟩ := List.getElem?_eq_some_iff.1 hv
    have hi' : i < m.length := by simpa [cells8] using hi
    have := h3 i hi' 0 (B8 m[i]) rfl
    rw [Nat.mul_one, Nat.add_zero] at this
    rw [this]; simp [cells8]
theorem bytes_in {fuel : Nat} {v : Value} {x : DataW H × List MemPlace} (h : DataW.trod enc Tryd.prog W 0 (fun _ => true) true fuel 22 [v] = some x) :
    ∃ (q : Option Addr) (m : List UInt8) (c : Nat), v = .slice q m.length c ∧ Rd0 W q m ∧ m.length ≤ c := by
  obtain ⟨q, m, c, h1, h2, _, h4⟩ := open_rd E8 (G := fun _ => True) Tryd.underlying22 cellsU8 (fun h hl => by
    rename_i cs _
    match cs, hl with
    | [a], _ =>
      obtain ⟨n, e0, _, hn⟩ := DataW.trod_int Tryd.underlying5 h
      obtain ⟨u, rfl⟩ := u8_of hn
      simp at e0; subst e0
      exact ⟨u, rfl, trivial⟩) h
  exact ⟨q, m, c, h1, rd0_of h2, h4⟩
theorem cells_slice {sT eT : TypeId} {base : Nat} {v : Value} (hu : Tryd.prog.underlying sT = some (.slice eT)) (hv : Value.okWide Tryd.prog W .any base sT v) : v.cells.toList = [v] := by
  simp only [Value.okWide, hu, Cell.okWide] at hv
  cases v <;> simp_all [Cell.ok, Value.cells]
theorem open_bytes {base : Nat} {v : Value} {d : DataW H} {p : List MemPlace} (hv : Value.okWide Tryd.prog W .any base 22 v) (h : DataW.Trod enc Tryd.prog W 0 (fun _ => true) true 22 v d p) :
    ∃ (q : Option Addr) (m : List UInt8) (c : Nat), v = .slice q m.length c ∧ Rd0 W q m ∧ m.length ≤ c := by
  obtain ⟨fuel, hf⟩ := h
  rw [cells_slice Tryd.underlying22 hv] at hf
  exact bytes_in hf
theorem open_lists {base : Nat} {v : Value} {d : DataW H} {p : List MemPlace} (hv : Value.okWide Tryd.prog W .any base 30 v) (h : DataW.Trod enc Tryd.prog W 0 (fun _ => true) true 30 v d p) :
    ∃ (q : Option Addr) (l : List SlA) (c : Nat), v = .slice q l.length c ∧ Lsa W q l ∧ l.length ≤ c := by
  obtain ⟨fuel, hf⟩ := h
  rw [cells_slice Tryd.underlying30 hv] at hf
  obtain ⟨q, l, c, h1, h2, h3, h4⟩ := open_rd ES (G := fun x : SlA => Rd0 W x.q x.m ∧ x.m.length ≤ x.c) Tryd.underlying30 cellssU8 (fun h hl => by
    rename_i cs _
    match cs, hl with
    | [a], _ =>
      obtain ⟨q, m, c, rfl, h1, h2⟩ := bytes_in h
      exact ⟨⟨q, c, m⟩, rfl, h1, h2⟩) hf
  refine ⟨q, l, c, h1, ⟨?_, h3⟩, h4⟩
  rcases h2 with h2 | ⟨b, off, e1, e2, e3⟩
  · exact .inl h2
  · refine .inr ⟨b, off, e1, e2, fun i hi => ?_⟩
    have := e3 i hi 0 _ rfl
    rw [Nat.mul_one, Nat.add_zero] at this
    exact this
end
end Go.Proofs.YtooiaadnhglifaaDoor
