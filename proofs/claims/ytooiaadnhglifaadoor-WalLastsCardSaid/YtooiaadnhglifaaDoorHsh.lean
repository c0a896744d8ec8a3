/-
  Contracts: sha.New, sha.ending; what a Hash holds.
-/
import Derived.Test.YtooiaadnhglifaaDoorTkn
set_option linter.unusedVariables false
set_option linter.unusedSimpArgs false
namespace Go.Proofs.YtooiaadnhglifaaDoor
open Go.RowKit

/-- a Hash's cells -/
def hashC (s : St) (r : List UInt8) (n : Nat) : List Value := cells32 s.l ++ (cells8 r ++ [.int .u64 n])
/-- a block holds a Hash that was written these bytes -/
def Hs (w : World) (b : Nat) (l : List UInt8) : Prop := ∃ s r, Kept l s r ∧ Bk w b 109 (hashC s r l.length).toArray
theorem Hs.on {w w' : World} {b : Nat} {l : List UInt8} (h : Hs w b l) (hb : Below w.heap.size w w') : Hs w' b l := by
  obtain ⟨s, r, h1, h2⟩ := h; exact ⟨s, r, h1, h2.on hb⟩
theorem Hs.lt {w : World} {b : Nat} {l : List UInt8} (h : Hs w b l) : b < w.heap.size := by obtain ⟨s, r, _, h2⟩ := h; exact h2.lt
theorem Hs.only {w w' : World} {b pb : Nat} {l : List UInt8} (h : Hs w b l) (ho : Only pb w w') (hn : b ≠ pb) : Hs w' b l := by
  obtain ⟨s, r, h1, h2⟩ := h; exact ⟨s, r, h1, h2.only ho hn⟩

theorem wpList_build_is {P : Program} {ops : Array Oper} {rest : List Oper} {o : Oper} {a : Act} {w : World} {Q : Exit → Act → World → Prop} (hg : o.guard = none) (t : TypeId) (parts : Array (Nat × Operand)) (ho : o.op = .build t parts)
    (cs : Array Value) (hf : P.built t (parts.map fun (i, x) => (i, a.eval x)).toList = some cs)
    (h : wpList P ops Q rest (a.put o.dst (.agg cs)) w) : wpList P ops Q (o :: rest) a w :=
  wpList_build hg t parts ho (by rw [hf]; rfl) (by rw [hf]; exact h)

set_option maxRecDepth 100000 in
set_option maxHeartbeats 1000000 in
theorem new_any (w : World) (he : Env w) :
    Calls Tryd.prog 73 #[] w fun e w' => e = .returned (.pointer (some ⟨w.heap.size, 0, none⟩)) ∧ Hs w' w.heap.size [] ∧ Below w.heap.size w w' := by
  have HE := Lib.hid he
  clear he
  go_enter Tryd.func73, Tryd.ntmps73
  go_wp2_with (first
    | (refine wpList_load_mid rfl 89 _ rfl 0 0 rfl (cells32 firstS.l) _ (fun j v hv => by rw [Nat.zero_add]; exact HE.out.fst j v hv) Tryd.underlying89 rfl (by kernel_rfl) ?_)
    | (refine wpList_build_is rfl 109 _ rfl (hashC firstS (List.replicate 64 0) 0).toArray (by kernel_rfl) ?_))
  go_ret
  exact ⟨rfl, ⟨firstS, List.replicate 64 0, kept_nil, Bk.new w _ _⟩, below1 _ _⟩
end Go.Proofs.YtooiaadnhglifaaDoor
