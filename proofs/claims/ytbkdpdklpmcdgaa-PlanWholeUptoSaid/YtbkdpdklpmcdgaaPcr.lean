/-
  Contract: CopyRule (after c6's Copy).
-/
import Derived.Test.YtbkdpdklpmcdgaaPcf
import Derived.Deep.RegionLaw
import Derived.Deep.CutBlock
import Derived.Deep.DeepCutAuto
set_option linter.unusedVariables false
set_option linter.unusedSimpArgs false
namespace Go.Proofs.Ytbkdpdklpmcdgaa
open Go.RowKit

section
variable {w w' : World} {b : Nat} {T : TypeId} {cs : Array Value}
theorem Bk0.cell (h : Bk0 w b T cs) (i : Nat) (u : Value) (hu : cs.toList[i]? = some u) : w.cell? ⟨b, i, none⟩ = some u := by
  simp only [World.cell?, show w.heap[b]? = _ from h]
  simpa using hu
theorem Bk0.soft (h : Bk0 w b T cs) (i : Nat) : w.frozen? ⟨b, i, none⟩ = false := by simp [World.frozen?, show w.heap[b]? = _ from h]
theorem Bk0.below {B : Nat} (h : Bk0 w b T cs) (hb : Below B w w') (hB : b < B) : Bk0 w' b T cs := (hb.block b hB).trans h
theorem Bk0.on (h : Bk0 w b T cs) (hb : Below w.heap.size w w') : Bk0 w' b T cs := h.below hb h.lt'
theorem Bk0.set (h : Bk0 w b T cs) (i : Nat) (v : Value) : Bk0 (w.setCell ⟨b, i, none⟩ v) b T (cs.setIfInBounds i v) := by
  obtain ⟨hlt, hk⟩ := Array.getElem?_eq_some_iff.1 h
  show (w.heap.modify b _)[b]? = _
  rw [Array.getElem?_eq_getElem (by rw [Array.size_modify]; exact hlt), Array.getElem_modify_self, hk]
  rfl
theorem Bk0.new1 (w : World) (o : Obj) (T : TypeId) (cs : Array Value) : Bk0 ((w.alloc (.cells cs T)).alloc o) w.heap.size T cs := (Bk0.new w T cs).on (below1 _ _)
theorem Bk0.new2 (w : World) (o : Obj) (T : TypeId) (cs : Array Value) : Bk0 ((w.alloc o).alloc (.cells cs T)) (w.heap.size + 1) T cs := by
  have := Bk0.new (w.alloc o) T cs
  simpa using this
end
theorem setB {w : World} {B b : Nat} (h : B ≤ b) (i : Nat) (u : Value) : Below B w (w.setCell ⟨b, i, none⟩ u) := (Below.refl B w).setCell (p := ⟨b, i, none⟩) h u
theorem set4 {w : World} {B b : Nat} (h : B ≤ b) (u0 u1 u2 u3 : Value) : Below B w ((((w.setCell ⟨b, 0, none⟩ u0).setCell ⟨b, 1, none⟩ u1).setCell ⟨b, 2, none⟩ u2).setCell ⟨b, 3, none⟩ u3) :=
  (((setB h 0 u0).trans (setB h 1 u1)).trans (setB h 2 u2)).trans (setB h 3 u3)
theorem load4 {w : World} {b : Nat} {T : TypeId} {a0 a1 a2 a3 : Value} (h : Bk0 w b T #[a0, a1, a2, a3]) (u0 u1 u2 u3 : Value) :
    Bk0 ((((w.setCell ⟨b, 0, none⟩ u0).setCell ⟨b, 1, none⟩ u1).setCell ⟨b, 2, none⟩ u2).setCell ⟨b, 3, none⟩ u3) b T #[u0, u1, u2, u3] := by
  have h0 : Bk0 _ b T #[u0, a1, a2, a3] := h.set 0 u0
  have h1 : Bk0 _ b T #[u0, u1, a2, a3] := h0.set 1 u1
  have h2 : Bk0 _ b T #[u0, u1, u2, a3] := h1.set 2 u2
  exact h2.set 3 u3
theorem set4_block {w : World} {b : Nat} (u0 u1 u2 u3 : Value) (k : Nat) (hk : k ≠ b) : ((((w.setCell ⟨b, 0, none⟩ u0).setCell ⟨b, 1, none⟩ u1).setCell ⟨b, 2, none⟩ u2).setCell ⟨b, 3, none⟩ u3).heap[k]? = w.heap[k]? :=
  (((Below.heap_setCell _ ⟨b, 3, none⟩ _ k hk).trans (Below.heap_setCell _ ⟨b, 2, none⟩ _ k hk)).trans (Below.heap_setCell _ ⟨b, 1, none⟩ _ k hk)).trans (Below.heap_setCell _ ⟨b, 0, none⟩ _ k hk)
/-- what a literal says, wherever its terms lie -/
def Fl.bare (f : Fl) : Int × ByteArray × List Tm := (f.kind, f.pred, f.args)
/-- A literal's terms lie at B or behind, in no block that is g. -/
def Far (w : World) (B : Nat) (g : Option Nat) (l : Fl) : Prop :=
  l.args = [] ∨ ∃ b off, l.ptr = some ⟨b, off, none⟩ ∧ B ≤ b ∧ b < w.heap.size ∧ g ≠ some b ∧ ∀ i (h : i < l.args.length) r u, (encM l.args[i])[r]? = some u → w.cell? ⟨b, off + i * 3 + r, none⟩ = some u
theorem Far.rd {w : World} {B : Nat} {g : Option Nat} {l : Fl} (h : Far w B g l) : Tms w w.heap.size l.ptr l.args := by
  rcases h with h | ⟨b, off, h1, _, h3, _, h5⟩
  · exact .inl h
  · exact .inr ⟨b, off, h1, h3, h5⟩
theorem Far.keep {w w' : World} {B : Nat} {g g' : Option Nat} {l : Fl} (h : Far w B g l) (hs : w.heap.size ≤ w'.heap.size) (hk : ∀ b, B ≤ b → b < w.heap.size → g ≠ some b → w'.heap[b]? = w.heap[b]? ∧ g' ≠ some b) : Far w' B g' l := by
  rcases h with h | ⟨b, off, h1, h2, h3, h4, h5⟩
  · exact .inl h
  · obtain ⟨k1, k2⟩ := hk b h2 h3 h4
    refine .inr ⟨b, off, h1, h2, Nat.lt_of_lt_of_le h3 hs, k2, fun i hi r u hu => ?_⟩
    exact (show w'.cell? ⟨b, off + i * 3 + r, none⟩ = w.cell? ⟨b, off + i * 3 + r, none⟩ from World.cell?_of_block (w := w) k1).trans (h5 i hi r u hu)
theorem Far.of {w : World} {B : Nat} {g : Option Nat} {l : Fl} (h : Tms w w.heap.size l.ptr l.args) (hf : ∀ b, l.ptr = some b → B ≤ b.block ∧ g ≠ some b.block) : Far w B g l := by
  rcases h with h | ⟨b, off, h1, h2, h3⟩
  · exact .inl h
  · obtain ⟨k1, k2⟩ := hf _ h1
    exact .inr ⟨b, off, h1, k1, h2, k2, h3⟩

/-- The literals that were copied lie in a row of the call's own, which the new clause's block holds. -/
structure CJ (w1 : World) (B cb : Nat) (a0 a1 a2 : Value) (acc : List Fl) (w : World) : Prop where
  io : w.os = w1.os ∧ w.tape = w1.tape ∧ w.output = w1.output
  old : ∀ g, g < B → g ≠ cb → w.heap[g]? = w1.heap[g]?
  own : ∃ v, Bk0 w cb 27 #[a0, a1, a2, v] ∧ w.ownsRow B 24 3 v acc.length (flatE encF acc) ∧ ∀ l ∈ acc, Far w B v.ownBlock l
  hcb : cb < B
  hi : B ≤ w.heap.size
section
variable {w1 : World} {B cb : Nat} {a0 a1 a2 : Value} {acc : List Fl} {w : World}
theorem CJ.on {w' : World} (h : CJ w1 B cb a0 a1 a2 acc w) (hb : Below w.heap.size w w') : CJ w1 B cb a0 a1 a2 acc w' := by
  obtain ⟨v, h1, h2, h3⟩ := h.own
  have hi := h.hi
  exact ⟨⟨hb.os.trans h.io.1, hb.tape.trans h.io.2.1, hb.output.trans h.io.2.2⟩, fun g hg x => (hb.block g (by omega)).trans (h.old g hg x), ⟨v, h1.on hb, own_below h2 hb, fun l hl => (h3 l hl).keep hb.size fun b _ hlt hne => ⟨hb.block b hlt, hne⟩⟩, h.hcb, Nat.le_trans h.hi hb.size⟩
theorem CJ.value (h : CJ w1 B cb a0 a1 a2 acc w) {v : Value} (hb : Bk0 w cb 27 #[a0, a1, a2, v]) :
    w.ownsRow B 24 3 v acc.length (flatE encF acc) ∧ ∀ l ∈ acc, Far w B v.ownBlock l := by
  obtain ⟨v2, h1, h2, h3⟩ := h.own
  have e2 : v2 = v := by
    have e := h1.cell 3 _ rfl
    rw [hb.cell 3 _ rfl] at e
    injection e with e; exact e.symm
  subst e2
  exact ⟨h2, h3⟩
/-- a block of before that is not the clause's -/
theorem CJ.keeps {b : Nat} {T : TypeId} {cs : Array Value} (h : CJ w1 B cb a0 a1 a2 acc w) (hb : Bk0 w1 b T cs) (h1 : b < B) (h2 : b ≠ cb) : Bk0 w b T cs := (h.old b h1 h2).trans hb
end
theorem CJ.push {w1 : World} {B cb : Nat} {a0 a1 a2 : Value} {acc : List Fl} {w6 w7 : World} {l : Fl} {g cap : Nat} {v : Value}
    (h : CJ w1 B cb a0 a1 a2 acc w6) (hv : Bk0 w6 cb 27 #[a0, a1, a2, v]) (hf : ∀ x ∈ acc, Far w6 B v.ownBlock x) (hr : w6.ownsRow B 24 3 v acc.length (flatE encF acc)) (hl : Far w6 B v.ownBlock l)
    (ho : w7.ownsRow B 24 3 (.slice (some ⟨g, 0, none⟩) (acc.length + 1) cap) (acc.length + 1) (flatE encF acc ++ encF l)) (hg : w6.grownBy w7 v.ownBlock) (hat : v.ownBlock = some g ∨ g = w6.heap.size) :
    CJ w1 B cb a0 a1 a2 (acc ++ [l]) (w7.setCell ⟨cb, 3, none⟩ (.slice (some ⟨g, 0, none⟩) (acc.length + 1) cap)) ∧ w7.cell? ⟨cb, 3, none⟩ = some v ∧ w7.frozen? ⟨cb, 3, none⟩ = false := by
  have h1 := h.hcb
  have h6 := h.hi
  have hb : Below B w6 w7 := (Below.refl B w6).grown hg h6 (fun k hk => (hr.lt k hk).1)
  have hb7 : Bk0 w7 cb 27 #[a0, a1, a2, v] := hv.below hb h1
  have hs : Below 0 w7 (w7.setCell ⟨cb, 3, none⟩ (.slice (some ⟨g, 0, none⟩) (acc.length + 1) cap)) := setB (Nat.zero_le _) 3 _
  have hkeep : ∀ b, B ≤ b → b < w6.heap.size → v.ownBlock ≠ some b → (w7.setCell ⟨cb, 3, none⟩ (.slice (some ⟨g, 0, none⟩) (acc.length + 1) cap)).heap[b]? = w6.heap[b]? ∧ (Value.slice (some ⟨g, 0, none⟩) (acc.length + 1) cap).ownBlock ≠ some b := by
    intro b hB hlt hne
    refine ⟨(Below.heap_setCell w7 ⟨cb, 3, none⟩ _ b (by show b ≠ cb; omega)).trans (hg.block b hlt (fun e => hne e.symm)), ?_⟩
    show some g ≠ some b
    rcases hat with e | e
    · rw [← e]; exact hne
    · intro e'; injection e' with e'; omega
  refine ⟨⟨⟨(hs.os.trans hb.os).trans h.io.1, (hs.tape.trans hb.tape).trans h.io.2.1, (hs.output.trans hb.output).trans h.io.2.2⟩, fun i hi y => (Below.heap_setCell w7 ⟨cb, 3, none⟩ _ i (by show i ≠ cb; exact y)).trans ((hb.block i hi).trans (h.old i hi y)), ⟨_, hb7.set 3 _, ?_, ?_⟩, h.hcb, Nat.le_trans h.hi (Nat.le_trans hb.size hs.size)⟩, hb7.cell 3 _ rfl, hb7.soft 3⟩
  · rw [List.length_append, flatE_snoc]
    exact ownsRow_setCell_below ho (a := ⟨cb, 3, none⟩) h1 _
  · intro x hx
    have hsz : w6.heap.size ≤ (w7.setCell ⟨cb, 3, none⟩ (.slice (some ⟨g, 0, none⟩) (acc.length + 1) cap)).heap.size := Nat.le_trans hb.size hs.size
    rcases List.mem_append.1 hx with hx | hx
    · exact (hf x hx).keep hsz hkeep
    · rw [List.mem_singleton.1 hx]; exact hl.keep hsz hkeep
theorem CJ.belowAt {w0 w1 : World} {cb : Nat} {a0 a1 a2 : Value} {acc : List Fl} {w : World} (h : CJ w1 w1.heap.size cb a0 a1 a2 acc w) (hw : Below w0.heap.size w0 w1) (h2 : w0.heap.size ≤ cb) : Below w0.heap.size w0 w :=
  ⟨h.io.1.trans hw.os, h.io.2.1.trans hw.tape, h.io.2.2.trans hw.output, Nat.le_trans hw.size h.hi, fun k hk => (h.old k (Nat.lt_of_lt_of_le hk hw.size) (by omega)).trans (hw.block k hk)⟩

section
variable {w1 : World} {B cb : Nat} {a0 a1 a2 : Value} {acc : List Fl} {w : World}
theorem CJ.lit (h : CJ w1 B cb a0 a1 a2 acc w) {v : Value} (hv : Bk0 w cb 27 #[a0, a1, a2, v]) (la : Fl) (hm : Tms w w.heap.size la.ptr la.args) (hsz : la.args.length * 40 ≤ 140737488355328) :
    ∀ X, Below w.heap.size w X → Calls Try.prog 21 #[.agg #[.int .u8 la.kind, .string la.pred, .slice la.ptr la.args.length la.cap]] X fun e w' =>
      ∃ q' c', e = .returned (.agg #[.int .u8 la.kind, .string la.pred, .slice q' la.args.length c']) ∧ Hid (Far w' B v.ownBlock ⟨la.kind, la.pred, q', c', la.args⟩) ∧ Hid (Bk0 w' cb 27 #[a0, a1, a2, v]) ∧ Hid (w'.ownsRow B 24 3 v acc.length (flatE encF acc)) ∧ Hid (∀ x ∈ acc, Far w' B v.ownBlock x) ∧ Hid (CJ w1 B cb a0 a1 a2 acc w') := by
  intro X hX
  have hx := h.on hX
  refine (copyflat_any la.kind la.pred la.ptr la.args la.cap X (hm.grow hX) hsz).mono fun e w' ⟨q', c', he, ht, hf, hb⟩ => ?_
  have hj := hx.on hb
  have hb2 := (hv.on hX).on hb
  obtain ⟨ho2, hf2⟩ := hj.value hb2
  obtain ⟨ho1, _⟩ := h.value hv
  refine ⟨q', c', he, Lib.hid (Far.of ht fun b hb => ⟨?_, ?_⟩), Lib.hid hb2, Lib.hid ho2, Lib.hid hf2, Lib.hid hj⟩
  · have := hf b hb
    have := hX.size
    have := h.hi
    show B ≤ b.block
    omega
  · intro e
    have h8 := (ho1.lt b.block e).2
    have := hf b hb
    have := hX.size
    omega
end
end Go.Proofs.Ytbkdpdklpmcdgaa
