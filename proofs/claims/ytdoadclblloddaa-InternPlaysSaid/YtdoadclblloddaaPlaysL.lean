/-
  The list of calls, and what holds between two of them.
-/
import Derived.Test.YtdoadclblloddaaRefR
namespace Go.Proofs.Ytdoadclblloddaa
open Go.RowKit Go.Maps Go.WideMaps
theorem ok7' : Ok (⟨#[]⟩, 0) := by constructor <;> decide
namespace PlaysLaw
open BackLaw

/-- a call, as it lies in memory -/
structure Opv where
  K : Int
  N : Int
  q : Option Addr
  vs : List Vl
  c : Nat
  r : Option Addr
  ns : List Int
  d : Nat
/-- a list of calls in memory, below block B -/
def Ops (w : World) (B : Nat) (p : Option Addr) (os : List Opv) : Prop :=
  os = [] ∨ ∃ b off, p = some ⟨b, off, none⟩ ∧ b < B ∧ ∀ i (h : i < os.length), w.cell? ⟨b, off + i * 4, none⟩ = some (.int .i64 os[i].K) ∧ w.cell? ⟨b, off + i * 4 + 1, none⟩ = some (.int .i64 os[i].N) ∧ w.cell? ⟨b, off + i * 4 + 2, none⟩ = some (.slice os[i].q os[i].vs.length os[i].c) ∧ w.cell? ⟨b, off + i * 4 + 3, none⟩ = some (.slice os[i].r os[i].ns.length os[i].d)
theorem Ops.below {w w' : World} {B : Nat} {p : Option Addr} {os : List Opv} (h : Ops w B p os) {B' : Nat} (hb : Below B' w w') (hB : B ≤ B') : Ops w' B p os := by
  rcases h with h | ⟨b, off, rfl, hl, hc⟩
  · exact .inl h
  · refine .inr ⟨b, off, rfl, hl, fun i hi => ?_⟩
    have hl' : b < B' := Nat.lt_of_lt_of_le hl hB
    rw [hb.cell (p := ⟨b, off + i * 4, none⟩) hl', hb.cell (p := ⟨b, off + i * 4 + 1, none⟩) hl', hb.cell (p := ⟨b, off + i * 4 + 2, none⟩) hl', hb.cell (p := ⟨b, off + i * 4 + 3, none⟩) hl']
    exact hc i hi
theorem Ops.at {w : World} {B : Nat} {p : Option Addr} {os : List Opv} (h : Ops w B p os) (k : Nat) (hk : k < os.length) : ∃ b off, p = some ⟨b, off, none⟩ ∧ b < B ∧ w.cell? ⟨b, off + k * 4, none⟩ = some (.int .i64 os[k].K) ∧ w.cell? ⟨b, off + k * 4 + 1, none⟩ = some (.int .i64 os[k].N) ∧ w.cell? ⟨b, off + k * 4 + 2, none⟩ = some (.slice os[k].q os[k].vs.length os[k].c) ∧ w.cell? ⟨b, off + k * 4 + 3, none⟩ = some (.slice os[k].r os[k].ns.length os[k].d) := by
  rcases h with h | ⟨b, off, rfl, hl, hc⟩
  · subst h; simp at hk
  · exact ⟨b, off, rfl, hl, hc k hk⟩
/-- what a call leads to -/
structure OpOk (w : World) (B : Nat) (o : Opv) : Prop where
  v : Vals w B o.q o.vs
  i : Ints w B o.r o.ns
  ok : OkAll o.vs
  lv : o.vs.length ≤ maxLen
  ln : o.ns.length ≤ maxLen
  kw : (Lit.int .i64 o.K).wf = true
theorem OpOk.below {w w' : World} {B : Nat} {o : Opv} (h : OpOk w B o) {B' : Nat} (hb : Below B' w w') (hB : B ≤ B') : OpOk w' B o := ⟨h.v.below hb hB, h.i.below hb hB, h.ok, h.lv, h.ln, h.kw⟩

theorem ok7' : Ok (⟨#[]⟩, 0) := by constructor <;> decide
/-- what holds between two calls: the pool has what the list has -/
structure Inv (w : World) (q : Option Addr) (l : List Vl) (sv : Value) (wr : World) : Prop where
  p : Pool wr (w.heap.size + 1) w.heap.size sv l
  v : Vals wr wr.heap.size q l
  o : ∀ b off, q = some ⟨b, off, none⟩ → Off (w.heap.size + 1) w.heap.size sv b ∧ b < wr.heap.size
  b : Below w.heap.size w wr
  s : ∀ g, sv.ownBlock = some g → w.heap.size ≤ g
theorem Inv.below {w wr w1 : World} {q : Option Addr} {l : List Vl} {sv : Value} (h : Inv w q l sv wr) (hb : Below wr.heap.size wr w1) : Inv w q l sv w1 :=
  ⟨h.p.below hb, (h.v.below hb (Nat.le_refl _)).up hb.size, fun b off e => ⟨(h.o b off e).1, Nat.lt_of_lt_of_le (h.o b off e).2 hb.size⟩, h.b.trans (hb.mono h.b.size), h.s⟩
/-- the pool has turned; the list not yet -/
theorem Inv.step {w wr w1 : World} {q : Option Addr} {l : List Vl} {sv sv' : Value} (h : Inv w q l sv wr) (ht : Turned wr w1 (w.heap.size + 1) w.heap.size sv sv') :
    Below w.heap.size w w1 ∧ (∀ g, sv'.ownBlock = some g → w.heap.size ≤ g) ∧ Vals w1 w1.heap.size q l ∧ ∀ b off, q = some ⟨b, off, none⟩ → Off (w.heap.size + 1) w.heap.size sv' b ∧ b < w1.heap.size := by
  refine ⟨h.b.trans (ht.below (by omega) (Nat.le_refl _) h.s h.b.size), fun g hg => (ht.row g hg).elim (h.s g) (fun e => Nat.le_trans h.b.size e), ?_, fun b off e => ?_⟩
  · exact (vals_turned h.v (fun b off e => (h.o b off e).1) ht).up ht.size
  · obtain ⟨o1, o2⟩ := h.o b off e
    exact ⟨⟨o1.1, o1.2.1, fun e => (ht.row b e).elim o1.2.2 (fun h => by omega)⟩, Nat.lt_of_lt_of_le o2 ht.size⟩
/-- both have turned: the list lies in new memory -/
theorem Inv.both {w wr w1 w2 : World} {q q' : Option Addr} {l l' : List Vl} {sv sv' : Value} (h : Inv w q l sv wr) (ht : Turned wr w1 (w.heap.size + 1) w.heap.size sv sv') (hp : Pool w1 (w.heap.size + 1) w.heap.size sv' l') (hb : Below w1.heap.size w1 w2) (hv : Vals w2 w2.heap.size q' l') (hq : ∀ b off, q' = some ⟨b, off, none⟩ → w1.heap.size ≤ b ∧ b < w2.heap.size) : Inv w q' l' sv' w2 := by
  obtain ⟨b1, s1, _, _⟩ := h.step ht
  refine ⟨hp.below hb, hv, fun b off e => ⟨?_, (hq b off e).2⟩, b1.trans (hb.mono b1.size), s1⟩
  exact hp.off (hq b off e).1
/-- the pool has turned and has what it had; or what it has is refused: the list stays -/
theorem Inv.stay {w wr w1 w2 : World} {q : Option Addr} {l : List Vl} {sv sv' : Value} (h : Inv w q l sv wr) (ht : Turned wr w1 (w.heap.size + 1) w.heap.size sv sv') (hp : Pool w1 (w.heap.size + 1) w.heap.size sv' l) (hb : Below w1.heap.size w1 w2) : Inv w q l sv' w2 := by
  obtain ⟨b1, s1, v1, o1⟩ := h.step ht
  exact Inv.below ⟨hp, v1, o1, b1, s1⟩ hb

end PlaysLaw
end Go.Proofs.Ytdoadclblloddaa
