/-
  Reading the argument of mandatelaw01.ValueCompares: two values and two tuples in one struct.
-/
import Derived.Test.YtdoadclblloddaaDoorOpen
namespace Go.Proofs.YtdoadclblloddaaDoor
open Go.ChangeShapes Go.WideShapes Go.ChangeAt Go.WideMaps Go.WideElems Go.RowKit Go.Joins Go.Deep

theorem cells37 : Tryd.prog.cellsOf 37 = 8 := by kernel_rfl
theorem cells26 : Tryd.prog.cellsOf 26 = 1 := by kernel_rfl

theorem pairV {H : Type} {enc : TypeId × Value → H} {W : World} {fuel : Nat} {a b : Value} {x : DataW H × List MemPlace} (h : DataW.trod enc Tryd.prog W 0 (fun _ => true) true fuel 25 [a, b] = some x) :
    ∃ (s : ByteArray) (n : Int), a = .string s ∧ b = .int .i64 n ∧ s.size ≤ maxLen := by
  obtain ⟨y0, y1, m, _, _, h0, h1⟩ := trod_struct2 Tryd.underlying25 h
  simp only [cells9, cells2] at h0 h1
  obtain ⟨s, e0, _, hs⟩ := DataW.trod_string Tryd.underlying9 h0
  obtain ⟨n, e1, _, _⟩ := DataW.trod_int Tryd.underlying2 h1
  simp at e0 e1
  exact ⟨s, n, e0, e1, hs⟩
theorem pairT {H : Type} {enc : TypeId × Value → H} {W : World} {fuel : Nat} {a b : Value} {x : DataW H × List MemPlace} (h : DataW.trod enc Tryd.prog W 0 (fun _ => true) true fuel 28 [a, b] = some x) :
    ∃ (s : ByteArray) (q : Option Addr) (l : List Vl) (c : Nat), a = .string s ∧ b = .slice q l.length c ∧ s.size ≤ maxLen ∧ Vals W W.heap.size q l ∧ SzOk l ∧ l.length ≤ maxLen := by
  obtain ⟨y0, y1, m, _, _, h0, h1⟩ := trod_struct2 Tryd.underlying28 h
  simp only [cells9, cells26] at h0 h1
  obtain ⟨s, e0, _, hs⟩ := DataW.trod_string Tryd.underlying9 h0
  have h1' : DataW.trod enc Tryd.prog W 0 (fun _ => true) true m 26 [b] = some y1 := h1
  obtain ⟨q, l, c, e1, hq, hz, hl⟩ := open26 h1'
  simp at e0
  exact ⟨s, q, l, c, e0, e1, hs, hq, hz, hl⟩

theorem eight {l : List Value} (h : l.length = 8) : ∃ a b c d e f g k, l = [a, b, c, d, e, f, g, k] := by
  match l, h with
  | [a, b, c, d, e, f, g, k], _ => exact ⟨a, b, c, d, e, f, g, k, rfl⟩

set_option maxRecDepth 100000 in
theorem open37 {H : Type} {enc : TypeId × Value → H} {W : World} {base : Nat} {v : Value} {d : DataW H} {p : List MemPlace} (hv : Value.okWide Tryd.prog W .any base 37 v) (h : DataW.Trod enc Tryd.prog W 0 (fun _ => true) true 37 v d p) :
    ∃ (sa sb s t : ByteArray) (na nb : Int) (x y : Option Addr) (l k : List Vl) (c e : Nat), v = .agg #[.string sa, .int .i64 na, .string sb, .int .i64 nb, .string s, .slice x l.length c, .string t, .slice y k.length e] ∧
      sa.size ≤ maxLen ∧ sb.size ≤ maxLen ∧ s.size ≤ maxLen ∧ t.size ≤ maxLen ∧ Vals W W.heap.size x l ∧ Vals W W.heap.size y k ∧ SzOk l ∧ SzOk k ∧ l.length ≤ maxLen ∧ k.length ≤ maxLen := by
  obtain ⟨⟨cs⟩, rfl, hsz⟩ := okWide_struct Tryd.underlying37 hv
  rw [cells37] at hsz
  obtain ⟨c0, c1, c2, c3, c4, c5, c6, c7, rfl⟩ := eight (show cs.length = 8 from hsz)
  obtain ⟨fuel, hf⟩ := h
  obtain ⟨xs, n, _, _, _, hlen, hfs⟩ := DataW.trod_struct Tryd.underlying37 hf
  have hl4 : xs.length = 4 := hlen
  have get : ∀ i, i < 4 → ∃ y, xs[i]? = some y := fun i hi => ⟨xs[i], by simp [hl4, hi]⟩
  obtain ⟨y0, g0⟩ := get 0 (by decide)
  obtain ⟨y1, g1⟩ := get 1 (by decide)
  obtain ⟨y2, g2⟩ := get 2 (by decide)
  obtain ⟨y3, g3⟩ := get 3 (by decide)
  have f0 := hfs 0 _ rfl
  have f1 := hfs 1 _ rfl
  have f2 := hfs 2 _ rfl
  have f3 := hfs 3 _ rfl
  rw [g0] at f0; rw [g1] at f1; rw [g2] at f2; rw [g3] at f3
  have k0 : DataW.trod enc Tryd.prog W 0 (fun _ => true) true n 25 (([c0, c1, c2, c3, c4, c5, c6, c7].drop 0).take (Tryd.prog.cellsOf 25)) = some y0 := f0
  rw [cells25] at k0
  have k1 : DataW.trod enc Tryd.prog W 0 (fun _ => true) true n 25 (([c0, c1, c2, c3, c4, c5, c6, c7].drop 2).take (Tryd.prog.cellsOf 25)) = some y1 := f1
  rw [cells25] at k1
  have k2 : DataW.trod enc Tryd.prog W 0 (fun _ => true) true n 28 (([c0, c1, c2, c3, c4, c5, c6, c7].drop 4).take (Tryd.prog.cellsOf 28)) = some y2 := f2
  rw [cells28] at k2
  have k3 : DataW.trod enc Tryd.prog W 0 (fun _ => true) true n 28 (([c0, c1, c2, c3, c4, c5, c6, c7].drop 6).take (Tryd.prog.cellsOf 28)) = some y3 := f3
  rw [cells28] at k3
  obtain ⟨sa, na, rfl, rfl, ha⟩ := pairV (a := c0) (b := c1) k0
  obtain ⟨sb, nb, rfl, rfl, hb⟩ := pairV (a := c2) (b := c3) k1
  obtain ⟨s, x, l, c, rfl, rfl, hs, hx, zx, lx⟩ := pairT (a := c4) (b := c5) k2
  obtain ⟨t, y, k, e, rfl, rfl, ht, hy, zy, ly⟩ := pairT (a := c6) (b := c7) k3
  exact ⟨sa, sb, s, t, na, nb, x, y, l, k, c, e, rfl, ha, hb, hs, ht, hx, hy, zx, zy, lx, ly⟩
end Go.Proofs.YtdoadclblloddaaDoor
