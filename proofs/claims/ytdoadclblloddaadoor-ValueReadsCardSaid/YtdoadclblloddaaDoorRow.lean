/-
  A row of tuples in memory that is sorted by a comparison which makes memory: what is kept, the swap's entry.
-/
import Derived.Test.YtdoadclblloddaaDoorSort2
import Derived.Shelf.SlSortFuncK.RowK2
import Derived.Lib.ReflectliteSwap
import Derived.Laws.Externs
namespace Go.Proofs.YtdoadclblloddaaDoor
open Go.RowKit Go.Sort

instance : Inhabited Tp := ⟨⟨⟨#[]⟩, none, 0, []⟩⟩
def encT (t : Tp) : List Value := [.string t.pred, .slice t.ptr t.args.length t.cap]
/-- all but block blk is as it was -/
structure Kp (blk : Nat) (w w' : World) : Prop where
  os : w'.os = w.os
  tape : w'.tape = w.tape
  output : w'.output = w.output
  size : w.heap.size ≤ w'.heap.size
  block : ∀ k, k < w.heap.size → k ≠ blk → w'.heap[k]? = w.heap[k]?
theorem Kp.refl (blk : Nat) (w : World) : Kp blk w w := ⟨rfl, rfl, rfl, Nat.le_refl _, fun _ _ _ => rfl⟩
theorem Kp.trans {blk : Nat} {a b c : World} (h : Kp blk a b) (k : Kp blk b c) : Kp blk a c :=
  ⟨k.os.trans h.os, k.tape.trans h.tape, k.output.trans h.output, Nat.le_trans h.size k.size, fun i hi hn => (k.block i (Nat.lt_of_lt_of_le hi h.size) hn).trans (h.block i hi hn)⟩
theorem Kp.of_below {blk : Nat} {a b : World} (h : Below a.heap.size a b) : Kp blk a b := ⟨h.os, h.tape, h.output, h.size, fun i hi _ => h.block i hi⟩
theorem Kp.below {blk B : Nat} {a b : World} (h : Kp blk a b) (hB : B ≤ blk) (hs : B ≤ a.heap.size) : Below B a b :=
  ⟨h.os, h.tape, h.output, h.size, fun i hi => h.block i (by omega) (by omega)⟩
theorem Kp.cell {blk : Nat} {a b : World} (h : Kp blk a b) {p : Addr} (hp : p.block < a.heap.size) (hn : p.block ≠ blk) : b.cell? p = a.cell? p := World.cell?_of_block (w := a) (h.block p.block hp hn)
theorem Kp.put {blk : Nat} (w : World) (off : Nat) (d : Array Tp) : Kp blk w (putRowK encT 2 w blk off d) :=
  ⟨rfl, rfl, rfl, by rw [size_putRowK]; exact Nat.le_refl _, fun k _ hn => by simp [putRowK, putRow, mapBlock, Array.getElem?_modify, Ne.symm hn]⟩

abbrev Rw (w : World) (blk off : Nat) (d : Array Tp) : Prop := HoldsK encT 2 w blk off d
theorem Rw.below {w w' : World} {blk off : Nat} {d : Array Tp} (h : Rw w blk off d) (hb : Below w.heap.size w w') (hl : blk < w.heap.size) : Rw w' blk off d := by
  intro j hj
  rw [hb.cell (p := ⟨blk, off + j, none⟩) hl, hb.frozen (p := ⟨blk, off + j, none⟩) hl]
  exact h j hj
theorem Rw.at {w : World} {blk off : Nat} {d : Array Tp} (h : Rw w blk off d) {i : Nat} (hi : i < d.size) : At w blk (off + i * 2) d[i]! :=
  ⟨by have := (HoldsK.cell h hi (c := 0) (by omega)).1; simpa [encT] using this, by have := (HoldsK.cell h hi (c := 1) (by omega)).1; simpa [encT] using this⟩

/-- A tuple whose arguments lie below B. -/
structure Tp.Inb (B : Nat) (t : Tp) (w : World) : Prop where
  vals : Vals w B t.ptr t.args
  len : t.args.length ≤ maxLen
theorem Vals.mono {w : World} {B B' : Nat} {p : Option Addr} {vs : List Vl} (h : Vals w B p vs) (hB : B ≤ B') : Vals w B' p vs := by
  rcases h with h | ⟨b, off, rfl, hl, hc⟩
  · exact .inl h
  · exact .inr ⟨b, off, rfl, by omega, hc⟩
theorem Tp.Inb.on {B : Nat} {t : Tp} {w w' : World} (h : t.Inb B w) (hb : Below B w w') : t.Inb B w' := ⟨h.vals.below hb (Nat.le_refl _), h.len⟩
theorem Tp.Inb.tin {B : Nat} {t : Tp} {w : World} (h : t.Inb B w) (hB : B ≤ w.heap.size) : t.In w := ⟨h.vals.mono hB, h.len⟩
def AllIn (B : Nat) (d : Array Tp) (w : World) : Prop := ∀ i, i < d.size → d[i]!.Inb B w

def ltT (x y : Tp) : Bool := decide (cmpT x y < 0)

/-- THE SWAP THAT reflectlite HANDS OUT FOR A SLICE OF TUPLES. -/
noncomputable def swB (blk off n c : Nat) : Array Value := #[.slice (some ⟨blk, off, none⟩) n c, Go.typeHandle Tryd.prog 28]
noncomputable def infE : TypeInfo := (Tryd.prog.info? 28).get (by kernel_rfl)
theorem swap_any (blk off n c : Nat) (W : World) (d : Array Tp) (h : Rw W blk off d) (hn : d.size = n) (i j : Nat) (hi : i < n) (hj : j < n) :
    (callFunc 72 (#[.int .i64 i, .int .i64 j] ++ swB blk off n c)).run Tryd.prog W = .ok (.value (.tuple #[])) (putRowK encT 2 W blk off (swp d i j)) := by
  rw [run_callFunc_extern Tryd.func72 (by kernel_rfl) (by kernel_rfl) (by kernel_rfl) (e := Extern.ReflectliteSwapper.swap false) (by kernel_rfl)]
  have hsz : infE.size = 2 := by kernel_rfl
  have := Lib.run_swap_cells (P := Tryd.prog) false 28 infE (by kernel_rfl) (fun _ => by kernel_rfl) blk off n c i j hi hj (encT d[i]!) (encT d[j]!) (by rw [hsz]; rfl) (by rw [hsz]; rfl)
    (fun v hv => by simp [encT] at hv; rcases hv with rfl | rfl <;> rfl) (fun v hv => by simp [encT] at hv; rcases hv with rfl | rfl <;> rfl) W
    (fun k v hk => by
      rw [hsz]
      have hk2 : k < 2 := by rcases Nat.lt_or_ge k 2 with h' | h'; · exact h'
                             · rw [List.getElem?_eq_none (by simpa [encT] using h')] at hk; cases hk
      rw [(HoldsK.cell h (by omega) hk2).1, List.getElem!_eq_getElem?_getD, hk]; rfl)
    (fun k v hk => by
      rw [hsz]
      have hk2 : k < 2 := by rcases Nat.lt_or_ge k 2 with h' | h'; · exact h'
                             · rw [List.getElem?_eq_none (by simpa [encT] using h')] at hk; cases hk
      rw [(HoldsK.cell h (by omega) hk2).1, List.getElem!_eq_getElem?_getD, hk]; rfl)
    (fun k hk => by rw [hsz] at hk ⊢; exact (HoldsK.cell h (by omega) hk).2) (fun k hk => by rw [hsz] at hk ⊢; exact (HoldsK.cell h (by omega) hk).2)
  rw [hsz] at this
  have e := putRowK_swp encT 2 (fun _ => rfl) W blk off d i j (by omega) (by omega)
  rw [putRowK_self encT 2 W blk off d h] at e
  show ((Extern.ReflectliteSwapper.swap false #[.int .i64 i, .int .i64 j, .slice (some ⟨blk, off, none⟩) n c, Go.typeHandle Tryd.prog 28]).run Tryd.prog W).andThen _ = _
  rw [this, e]
  rfl
end Go.Proofs.YtdoadclblloddaaDoor
