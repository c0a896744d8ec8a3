/-
  A disk in memory; what is kept of it; what its acts do, in plain words.
-/
import Derived.Test.YtfkmakkofeedpaaDmp
import Derived.Test.YtfkmakkofeedpaaStp
import Derived.Test.YtfkmakkofeedpaaName
set_option linter.unusedVariables false
set_option linter.unusedSimpArgs false
namespace Go.Proofs.Ytfkmakkofeedpaa
open Go.Maps Go.RowKit

/-! plain: a disk -/
structure DS where
  fs : List Fil
  on : Bool
  left : Int
def mkF (nm xs : List UInt8) (sure : Nat) : Fil := ⟨nm, 0, undef, xs, sure⟩
def absF (f : Fil) : Fil := mkF f.nm f.xs f.sure
def useS (left : Int) (n : Nat) : Nat × Int × Bool := if left < 0 then (n, left, true) else if n ≤ left.toNat then (n, left - (n : Int), true) else (left.toNat, 0, false)
def bytesOf (nm : List UInt8) : ByteArray := ⟨nm.toArray⟩
def okName (nm : List UInt8) : Bool := Nm.nameB (bytesOf nm)
def DS.use (s : DS) (n : Nat) : DS := ⟨s.fs, (useS s.left n).2.2, (useS s.left n).2.1⟩
/-- the code's answer when there was power enough, or not -/
def okE (b : Bool) : Int := if b then 0 else 20
def appS (s : DS) (nm m : List UInt8) : DS × Int :=
  if s.on = false then (s, 20) else if okName nm = false then (s, 1) else
  match getF nm s.fs with
  | none => if 8 ≤ s.fs.length then (s, 3) else if 1048576 < m.length then (s, 3) else
      (⟨putF (mkF nm (m.take (useS s.left m.length).1) 0) s.fs, (useS s.left m.length).2.2, (useS s.left m.length).2.1⟩, okE (useS s.left m.length).2.2)
  | some f => if 1048576 < f.xs.length + m.length then (s, 3) else
      (⟨putF (mkF nm (f.xs ++ m.take (useS s.left m.length).1) f.sure) s.fs, (useS s.left m.length).2.2, (useS s.left m.length).2.1⟩, okE (useS s.left m.length).2.2)
/-- an act that needs a unit -/
def unitS (s : DS) (fs : List Fil) : DS × Int := if (useS s.left 1).2.2 then (⟨fs, true, (useS s.left 1).2.1⟩, 0) else (s.use 1, 20)
def syncS (s : DS) (nm : List UInt8) : DS × Int :=
  if s.on = false then (s, 20) else match getF nm s.fs with
  | none => (s, 4)
  | some f => unitS s (putF (mkF nm f.xs f.xs.length) s.fs)
def renS (s : DS) (nm tn : List UInt8) : DS × Int :=
  if s.on = false then (s, 20) else match getF nm s.fs with
  | none => (s, 4)
  | some f => if okName tn = false then (s, 1) else unitS s (putF (mkF tn f.xs f.sure) (delF nm s.fs))
def cutS (s : DS) (nm : List UInt8) (n : Int) : DS × Int :=
  if s.on = false then (s, 20) else match getF nm s.fs with
  | none => (s, 4)
  | some f => if n < 0 ∨ (f.xs.length : Int) < n then (s, 1) else unitS s (putF (mkF nm (f.xs.take n.toNat) (min f.sure n.toNat)) s.fs)
def remS (s : DS) (nm : List UInt8) : DS × Int :=
  if s.on = false then (s, 20) else match getF nm s.fs with
  | none => (s, 4)
  | some f => unitS s (delF nm s.fs)
def readS (s : DS) (nm : List UInt8) : List UInt8 × Int :=
  if s.on = false then ([], 20) else match getF nm s.fs with
  | none => ([], 4)
  | some f => (f.xs, 0)
def fuseS (s : DS) (n : Int) : DS := if s.on then ⟨s.fs, true, max n (-1)⟩ else s
/-- a file behind a crash -/
def crF (keep : Int) (f : Fil) : Fil := mkF f.nm (f.xs.take (f.sure + min keep.toNat (f.xs.length - f.sure))) (f.sure + min keep.toNat (f.xs.length - f.sure))
def crashS (s : DS) (keep : Int) : DS := ⟨s.fs.map (crF keep), true, -1⟩
def newS : DS := ⟨[], true, -1⟩

theorem abs_ins (f : Fil) : ∀ l : List Fil, (insF f l).map absF = insF (absF f) (l.map absF)
  | [] => rfl
  | y :: r => by
    simp only [List.map_cons, insF]
    have : bytesBefore (absF f).nm (absF y).nm = bytesBefore f.nm y.nm := rfl
    rw [this]
    split
    · rfl
    · rw [List.map_cons, abs_ins f r]
theorem abs_del (n : List UInt8) (l : List Fil) : (delF n l).map absF = delF n (l.map absF) := by
  unfold delF
  rw [List.filter_map]
  rfl
theorem abs_put (f : Fil) (l : List Fil) : (putF f l).map absF = putF (absF f) (l.map absF) := by
  unfold putF
  rw [abs_ins, abs_del]; rfl
theorem abs_get (n : List UInt8) : ∀ l : List Fil, getF n (l.map absF) = (getF n l).map absF
  | [] => rfl
  | y :: r => by
    unfold getF
    simp only [List.map_cons, List.find?_cons]
    have : ((absF y).nm == n) = (y.nm == n) := rfl
    rw [this]
    cases y.nm == n
    · exact abs_get n r
    · rfl

/-! in memory -/
/-- the bytes of a file -/
def Fb (w : World) (base : Nat) (v : Value) (xs : List UInt8) : Prop := (∃ p d, v = .slice p xs.length d ∧ xs.length ≤ d) ∧ w.ownsRow base 5 1 v xs.length (cells8 xs)
theorem Fb.acc {w : World} {base : Nat} {v : Value} {xs : List UInt8} (h : Fb w base v xs) : Acc w base v xs := ⟨h.1, .inr h.2⟩
theorem Fb.kept {w w' : World} {base : Nat} {v : Value} {xs : List UInt8} (h : Fb w base v xs) (hk : ∀ b, v.ownBlock = some b → w'.heap[b]? = w.heap[b]?) : Fb w' base v xs := by
  refine ⟨h.1, h.2.1, ?_⟩
  rcases h.2.2 with h2 | ⟨g, cap, cur, rfl, h3, h4, h5⟩
  · exact .inl h2
  · exact .inr ⟨g, cap, cur, rfl, h3, (hk g rfl).trans h4, h5⟩
theorem fb_nil (w : World) (base : Nat) : Fb w base (.slice none 0 0) [] := ⟨⟨none, 0, rfl, Nat.le_refl _⟩, World.ownsRow_nil _ _ _ _⟩
/-- the first bytes -/
theorem Fb.cut {w : World} {base : Nat} {p : Option Addr} {n d : Nat} {xs : List UInt8} (h : Fb w base (.slice p n d) xs) (k : Nat) (hk : k ≤ xs.length) : Fb w base (.slice p k d) (xs.take k) := by
  have hl : (xs.take k).length = k := by rw [List.length_take]; omega
  obtain ⟨⟨p', d', he, hd⟩, h1, h2⟩ := h
  cases he
  refine ⟨⟨p, d, by rw [hl], by omega⟩, ?_, ?_⟩
  · rw [cells8_len]; simp
  · rcases h2 with ⟨h2, h3⟩ | ⟨g, cap, cur, h3, h4, h5, h6, h7, h8, h9⟩
    · injection h2 with e1 e2 e3
      subst e1
      subst e3
      have : k = 0 := by omega
      subst this
      exact .inl ⟨rfl, hl⟩
    · injection h3 with e1 e2 e3
      subst e1
      subst e3
      refine .inr ⟨g, d, cur, by rw [hl], h4, h5, by omega, h7, h8, ?_⟩
      rw [hl, Nat.mul_one]
      have e : cells8 (xs.take k) = (cells8 xs).take k := by simp [cells8, List.map_take]
      rw [e, ← h9, Nat.mul_one, List.take_take, Nat.min_eq_left (by omega)]

/-- of the blocks that were there those of O alone have turned; O' is of O or new -/
structure Fr (w w' : World) (O O' : Nat → Prop) : Prop where
  os : w'.os = w.os
  tape : w'.tape = w.tape
  output : w'.output = w.output
  size : w.heap.size ≤ w'.heap.size
  block : ∀ b, b < w.heap.size → ¬ O b → w'.heap[b]? = w.heap[b]?
  own : ∀ b, O' b → O b ∨ w.heap.size ≤ b
theorem Fr.refl (w : World) (O : Nat → Prop) : Fr w w O O := ⟨rfl, rfl, rfl, Nat.le_refl _, fun _ _ _ => rfl, fun _ h => .inl h⟩
theorem Fr.of {w w' : World} (O : Nat → Prop) (h : Below w.heap.size w w') : Fr w w' O O := ⟨h.os, h.tape, h.output, h.size, fun b hb _ => h.block b hb, fun _ h => .inl h⟩
theorem Fr.trans {a b c : World} {O O' O'' : Nat → Prop} (h : Fr a b O O') (k : Fr b c O' O'') : Fr a c O O'' :=
  ⟨k.os.trans h.os, k.tape.trans h.tape, k.output.trans h.output, Nat.le_trans h.size k.size,
    fun i hi ho => (k.block i (Nat.lt_of_lt_of_le hi h.size) (fun e => (h.own i e).elim ho (fun h => by omega))).trans (h.block i hi ho),
    fun i hi => (k.own i hi).elim (h.own i) (fun e => .inr (Nat.le_trans h.size e))⟩
theorem Fr.grown {w w' : World} {O : Nat → Prop} {row : Option Nat} (hg : w.grownBy w' row) (h : ∀ b, row = some b → O b) : Fr w w' O O :=
  ⟨hg.os, hg.tape, hg.output, hg.size, fun b hb ho => hg.block b hb (fun e => ho (h b e.symm)), fun _ h => .inl h⟩
theorem Fr.set (w : World) {O : Nat → Prop} (b : Nat) (hb : O b) (o : Nat) (u : Value) : Fr w (w.setCell ⟨b, o, none⟩ u) O O :=
  ⟨rfl, rfl, rfl, by simp [World.setCell], fun k _ hn => Below.heap_setCell w ⟨b, o, none⟩ u k (fun e => hn (e ▸ hb)), fun _ h => .inl h⟩
theorem Fr.below {w w' : World} {O O' : Nat → Prop} (h : Fr w w' O O') {B : Nat} (hO : ∀ b, O b → B ≤ b) (hB : B ≤ w.heap.size) : Below B w w' :=
  ⟨h.os, h.tape, h.output, h.size, fun b hb => h.block b (by omega) (fun e => by have := hO b e; omega)⟩
theorem Fr.sub {w w' : World} {O O' O'' : Nat → Prop} (h : Fr w w' O O') (hs : ∀ b, O'' b → O' b ∨ w.heap.size ≤ b) : Fr w w' O O'' :=
  ⟨h.os, h.tape, h.output, h.size, h.block, fun b hb => (hs b hb).elim (h.own b) .inr⟩

/-- the blocks of a disk -/
def OwnD (d mb : Nat) (l : List Fil) (b : Nat) : Prop := b = d ∨ b = mb ∨ ∃ f ∈ l, b = f.blk ∨ f.v.ownBlock = some b
/-- a disk at block d, whose map is block mb -/
structure Dl (w : World) (base d mb : Nat) (l : List Fil) (on : Bool) (left : Int) : Prop where
  dsk : Bk w d 63 #[.map (some mb), .bool on, .int .i64 left]
  map : MapF w Try.prog 9 mb l
  fil : ∀ f ∈ l, Bk w f.blk 69 #[f.v, .int .i64 f.sure]
  row : ∀ f ∈ l, Fb w base f.v f.xs
  sz : ∀ f ∈ l, f.sure ≤ f.xs.length ∧ f.xs.length ≤ 1048576 ∧ okName f.nm = true
  srt : Srt l
  ap : l.Pairwise fun f g => f.blk ≠ g.blk ∧ ∀ b, f.v.ownBlock = some b → g.v.ownBlock ≠ some b
  bs : base ≤ d ∧ base ≤ mb ∧ ∀ f ∈ l, base ≤ f.blk
  lf : -1 ≤ left ∧ left ≤ 9223372036854775807
  le : l.length ≤ 8
/-- a disk that reads as s, whose blocks are those of O -/
def Dk (w : World) (base d : Nat) (s : DS) (O : Nat → Prop) : Prop := ∃ mb l, Dl w base d mb l s.on s.left ∧ s.fs = l.map absF ∧ O = OwnD d mb l

section
variable {w w' : World} {base d mb : Nat} {l : List Fil} {on : Bool} {left : Int}
theorem row_at {f : Fil} (h : Fb w base f.v f.xs) {b : Nat} (hb : f.v.ownBlock = some b) : base ≤ b ∧ ∃ cur, w.heap[b]? = some (.cells cur 5 (0, 0)) := by
  rcases h.2.2 with ⟨h2, _⟩ | ⟨g, cap, cur, h3, h4, h5, _⟩
  · rw [h2] at hb; cases hb
  · rw [h3] at hb
    obtain rfl : g = b := by simpa [Value.ownBlock] using hb
    exact ⟨h4, cur, h5⟩
theorem Dl.lt (h : Dl w base d mb l on left) : ∀ b, OwnD d mb l b → b < w.heap.size ∧ base ≤ b := by
  rintro b (rfl | rfl | ⟨f, hf, rfl | hb⟩)
  · exact ⟨h.dsk.lt, h.bs.1⟩
  · exact ⟨h.map.lt, h.bs.2.1⟩
  · exact ⟨(h.fil f hf).lt, h.bs.2.2 f hf⟩
  · obtain ⟨h1, cur, h2⟩ := row_at (h.row f hf) hb
    exact ⟨(Array.getElem?_eq_some_iff.1 h2).1, h1⟩
theorem Dl.kept (h : Dl w base d mb l on left) (hk : ∀ b, OwnD d mb l b → w'.heap[b]? = w.heap[b]?) : Dl w' base d mb l on left :=
  ⟨(hk d (.inl rfl)).trans h.dsk, h.map.kept (hk mb (.inr (.inl rfl))), fun f hf => (hk f.blk (.inr (.inr ⟨f, hf, .inl rfl⟩))).trans (h.fil f hf),
    fun f hf => (h.row f hf).kept fun b hb => hk b (.inr (.inr ⟨f, hf, .inr hb⟩)), h.sz, h.srt, h.ap, h.bs, h.lf, h.le⟩
theorem Dl.on_ (h : Dl w base d mb l on left) (hb : Below w.heap.size w w') : Dl w' base d mb l on left := h.kept fun b ho => hb.block b (h.lt b ho).1
/-- kinds of blocks tell them apart -/
theorem Dl.ne_map (h : Dl w base d mb l on left) : mb ≠ d := by
  intro e
  obtain ⟨es, clock, hb, _⟩ := h.map
  have := h.dsk
  unfold Bk at this
  rw [← e, hb] at this
  cases this
theorem Dl.fil_ne (h : Dl w base d mb l on left) {f : Fil} (hf : f ∈ l) : f.blk ≠ d ∧ f.blk ≠ mb := by
  have hb := h.fil f hf
  unfold Bk at hb
  constructor
  · intro e
    have hd := h.dsk
    unfold Bk at hd
    rw [← e, hb] at hd
    injection hd with e; injection e with e1 e2
    exact absurd e2 (by decide)
  · intro e
    obtain ⟨es, clock, hm, _⟩ := h.map
    rw [e, hm] at hb
    cases hb
theorem Dl.row_ne (h : Dl w base d mb l on left) {f : Fil} (hf : f ∈ l) {b : Nat} (hb : f.v.ownBlock = some b) : b ≠ d ∧ b ≠ mb ∧ ∀ g ∈ l, b ≠ g.blk := by
  obtain ⟨_, cur, hc⟩ := row_at (h.row f hf) hb
  refine ⟨?_, ?_, fun g hg e => ?_⟩
  · intro e
    have hd := h.dsk
    unfold Bk at hd
    rw [← e, hc] at hd
    injection hd with e; injection e with e1 e2
    exact absurd e2 (by decide)
  · intro e
    obtain ⟨es, clock, hm, _⟩ := h.map
    rw [e, hm] at hc
    cases hc
  · have hd := h.fil g hg
    unfold Bk at hd
    rw [← e, hc] at hd
    injection hd with e; injection e with e1 e2
    exact absurd e2 (by decide)
end
end Go.Proofs.Ytfkmakkofeedpaa
