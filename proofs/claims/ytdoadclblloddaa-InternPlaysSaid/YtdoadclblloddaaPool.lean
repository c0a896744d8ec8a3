/-
  A pool in memory: its two cells, its map, its list; what is kept of it by what is done elsewhere.
-/
import Derived.Test.YtdoadclblloddaaGood
import Derived.Test.YtdoadclblloddaaMapOf
import Derived.Deep.AppendLies
import Derived.StillTactics
import Derived.StillTailTactics
import Derived.Deep.RegionLaw
import Derived.Laws.Pointers
import Derived.DeepKeys4
namespace Go.Proofs.Ytdoadclblloddaa
open Go.RowKit Go.Maps Go.WideMaps

theorem laidOut : laidOutB Try.prog = true := by kernel_rfl
theorem law31 : Keyed Try.prog 31 := Keyed.of_law (deep_law_laid (m := 3) laidOut (by omega) (of_decide_eq_true (by kernel_rfl)) (by kernel_rfl) (by rw [Try.underlying31]))
theorem zero3 (w : World) : (zeroValue 3).run Try.prog w = .ok (.int .i64 0) w := by kernel_rfl
theorem info31 : (Try.prog.info? 31).map (fun i => (i.zero, i.size, i.bytes)) = some (some (.agg #[.string ⟨#[]⟩, .int .i64 0]), 2, 24) := by kernel_rfl

/-- A value that can be a key. -/
def Ok (v : Vl) : Prop := v.1.size ≤ maxLen ∧ (Lit.int .i64 v.2).wf = true
theorem key_ok (v : Vl) (h : Ok v) : ∃ x, keyOf Try.prog 31 (vlV v) = some x := by
  obtain ⟨h1, h2⟩ := h
  obtain ⟨m, hm⟩ : ∃ m, Try.prog.types.size = m + 1 := ⟨78, by kernel_rfl⟩
  have hkt : Try.prog.keyType 31 = true := by kernel_rfl
  have c31 : Try.prog.cellsOf 31 = 2 := by kernel_rfl
  have c9 : Try.prog.cellsOf 9 = 1 := by kernel_rfl
  have c2 : Try.prog.cellsOf 2 = 1 := by kernel_rfl
  unfold keyOf
  simp only [Try.underlying31]
  rw [if_pos (by simp [hkt, vlV, Value.formed, Try.underlying31, c31]), hm]
  unfold Program.keyLits
  simp only [Try.underlying31, vlV, Value.cells]
  simp [c31, c9, c2, Program.keyLits, Try.underlying9, Try.underlying2, h1, h2]

def encV (v : Vl) : List Value := [.string v.1, .int .i64 v.2]
def flatV (l : List Vl) : List Value := l.flatMap encV
theorem flatV_length (l : List Vl) : (flatV l).length = l.length * 2 := by
  unfold flatV
  induction l with
  | nil => rfl
  | cons x r ih => rw [List.flatMap_cons, List.length_append, ih]; simp [encV]; omega
theorem flatV_get (l : List Vl) (i : Nat) (hi : i < l.length) : (flatV l)[i * 2]? = some (.string l[i].1) ∧ (flatV l)[i * 2 + 1]? = some (.int .i64 l[i].2) := by
  unfold flatV
  induction l generalizing i with
  | nil => simp at hi
  | cons x r ih =>
    cases i with
    | zero => simp [encV]
    | succ i =>
      have := ih i (by simpa using hi)
      rw [List.flatMap_cons, List.getElem?_append_right (by simp [encV]; omega), List.getElem?_append_right (by simp [encV]; omega)]
      simpa [encV, Nat.succ_mul, show i * 2 + 2 - 2 = i * 2 by omega, show i * 2 + 2 + 1 - 2 = i * 2 + 1 by omega] using this
theorem flatV_one (l : List Vl) : ∀ u ∈ flatV l, u.oneCell' = true := by
  intro u hu
  obtain ⟨t, _, ht⟩ := List.mem_flatMap.1 hu
  simp [encV] at ht
  rcases ht with rfl | rfl <;> rfl
theorem flatV_snoc (l : List Vl) (v : Vl) : flatV (l ++ [v]) = flatV l ++ encV v := by simp [flatV]

def num (i : Nat) : Value := .int .i64 i
/-- The pool at block pb holds the values l: its map is block bm, its list's row is sv. -/
structure Pool (w : World) (pb bm : Nat) (sv : Value) (l : List Vl) : Prop where
  c0 : w.cell? ⟨pb, 0, none⟩ = some (.map (some bm))
  c1 : w.cell? ⟨pb, 1, none⟩ = some sv
  f0 : w.frozen? ⟨pb, 0, none⟩ = false
  f1 : w.frozen? ⟨pb, 1, none⟩ = false
  m : MapOf w bm l num
  r : w.ownsRow 0 31 2 sv l.length (flatV l)
  n : l.Nodup
  k : ∀ v ∈ l, Ok v
  x : sv.ownBlock ≠ some pb
  le : l.length ≤ 4096

theorem Pool.keys {w : World} {pb bm : Nat} {sv : Value} {l : List Vl} (h : Pool w pb bm sv l) : ∀ v ∈ l, ∃ x, keyOf Try.prog 31 (vlV v) = some x := fun v hv => key_ok v (h.k v hv)
theorem Pool.lt {w : World} {pb bm : Nat} {sv : Value} {l : List Vl} (h : Pool w pb bm sv l) : pb < w.heap.size := World.block_lt_of_cell? w ⟨pb, 0, none⟩ h.c0
theorem Pool.mlt {w : World} {pb bm : Nat} {sv : Value} {l : List Vl} (h : Pool w pb bm sv l) : bm < w.heap.size := by obtain ⟨c, hm⟩ := h.m; exact (Array.getElem?_eq_some_iff.1 hm).1
theorem Pool.rlt {w : World} {pb bm : Nat} {sv : Value} {l : List Vl} (h : Pool w pb bm sv l) : ∀ g, sv.ownBlock = some g → g < w.heap.size := fun g hg => (h.r.lt g hg).2
theorem Pool.ne {w : World} {pb bm : Nat} {sv : Value} {l : List Vl} (h : Pool w pb bm sv l) : bm ≠ pb := by
  intro e; have h0 := h.c0; obtain ⟨c, hm⟩ := h.m; subst e; simp [World.cell?, hm] at h0
theorem Pool.nr {w : World} {pb bm : Nat} {sv : Value} {l : List Vl} (h : Pool w pb bm sv l) : sv.ownBlock ≠ some bm := by
  intro e
  obtain ⟨_, h2⟩ := h.r
  obtain ⟨c, hm⟩ := h.m
  rcases h2 with ⟨rfl, _⟩ | ⟨g, cap, cur, rfl, _, hg, _⟩
  · cases e
  · have : g = bm := by simpa [Value.ownBlock] using e
    subst this
    rw [hm] at hg; cases hg

/-- Is block b none of the pool's? -/
def Off (pb bm : Nat) (sv : Value) (b : Nat) : Prop := b ≠ pb ∧ b ≠ bm ∧ sv.ownBlock ≠ some b
/-- Whatever does not touch the pool's blocks leaves the pool as it is. -/
theorem Pool.kept {w w' : World} {pb bm : Nat} {sv : Value} {l : List Vl} (h : Pool w pb bm sv l) (hk : ∀ b, b < w.heap.size → ¬ Off pb bm sv b → w'.heap[b]? = w.heap[b]?) : Pool w' pb bm sv l := by
  have e1 : w'.heap[pb]? = w.heap[pb]? := hk pb h.lt (fun o => o.1 rfl)
  have e2 : w'.heap[bm]? = w.heap[bm]? := hk bm h.mlt (fun o => o.2.1 rfl)
  refine ⟨?_, ?_, ?_, ?_, (by obtain ⟨c, hm⟩ := h.m; exact ⟨c, e2.trans hm⟩), ?_, h.n, h.k, h.x, h.le⟩
  · rw [World.cell?_of_block (w := w) (a := ⟨pb, 0, none⟩) e1]; exact h.c0
  · rw [World.cell?_of_block (w := w) (a := ⟨pb, 1, none⟩) e1]; exact h.c1
  · rw [World.frozen?_of_block (w := w) (a := ⟨pb, 0, none⟩) e1]; exact h.f0
  · rw [World.frozen?_of_block (w := w) (a := ⟨pb, 1, none⟩) e1]; exact h.f1
  · obtain ⟨r1, r2⟩ := h.r
    refine ⟨r1, ?_⟩
    rcases r2 with r2 | ⟨g, cap, cur, rfl, a1, a2, a3⟩
    · exact .inl r2
    · exact .inr ⟨g, cap, cur, rfl, a1, (hk g (Array.getElem?_eq_some_iff.1 a2).1 (fun o => o.2.2 rfl)).trans a2, a3⟩
theorem Pool.below {w w' : World} {pb bm : Nat} {sv : Value} {l : List Vl} (h : Pool w pb bm sv l) (hb : Below w.heap.size w w') : Pool w' pb bm sv l := h.kept fun b hlt _ => hb.block b hlt
theorem Pool.alloc {w : World} {pb bm : Nat} {sv : Value} {l : List Vl} (h : Pool w pb bm sv l) (o : Obj) : Pool (w.alloc o) pb bm sv l := h.below ((Below.refl _ _).alloc (Nat.le_refl _) o)
theorem Pool.drew {w : World} {pb bm : Nat} {sv : Value} {l : List Vl} (h : Pool w pb bm sv l) : Pool w.drew pb bm sv l := h.below (Below.refl _ _).drew

/-- Of what was there the pool's blocks alone have turned; its blocks are those that it had, or new ones. -/
structure Turned (w w' : World) (pb bm : Nat) (sv sv' : Value) : Prop where
  os : w'.os = w.os
  tape : w'.tape = w.tape
  output : w'.output = w.output
  size : w.heap.size ≤ w'.heap.size
  block : ∀ b, b < w.heap.size → Off pb bm sv b → w'.heap[b]? = w.heap[b]?
  row : ∀ g, sv'.ownBlock = some g → sv.ownBlock = some g ∨ w.heap.size ≤ g
theorem Turned.refl (w : World) (pb bm : Nat) (sv : Value) : Turned w w pb bm sv sv := ⟨rfl, rfl, rfl, Nat.le_refl _, fun _ _ _ => rfl, fun _ h => .inl h⟩
theorem Turned.of_below {w w' : World} (pb bm : Nat) (sv : Value) (h : Below w.heap.size w w') : Turned w w' pb bm sv sv := ⟨h.os, h.tape, h.output, h.size, fun b hb _ => h.block b hb, fun _ h => .inl h⟩
theorem Turned.trans {a b c : World} {pb bm : Nat} {s t u : Value} (h : Turned a b pb bm s t) (k : Turned b c pb bm t u) : Turned a c pb bm s u :=
  ⟨k.os.trans h.os, k.tape.trans h.tape, k.output.trans h.output, Nat.le_trans h.size k.size,
    fun i hi ho => (k.block i (Nat.lt_of_lt_of_le hi h.size) ⟨ho.1, ho.2.1, fun e => (h.row i e).elim ho.2.2 (fun h => by omega)⟩).trans (h.block i hi ho),
    fun g hg => (k.row g hg).elim (fun e => h.row g e) (fun e => .inr (Nat.le_trans h.size e))⟩
/-- Nothing that was there before the pool was made has turned. -/
theorem Turned.below {w w' : World} {pb bm B : Nat} {s t : Value} (h : Turned w w' pb bm s t) (h1 : B ≤ pb) (h2 : B ≤ bm) (h3 : ∀ g, s.ownBlock = some g → B ≤ g) (h4 : B ≤ w.heap.size) : Below B w w' :=
  ⟨h.os, h.tape, h.output, h.size, fun b hb => h.block b (by omega) ⟨by omega, by omega, fun e => by have := h3 b e; omega⟩⟩
end Go.Proofs.Ytdoadclblloddaa
