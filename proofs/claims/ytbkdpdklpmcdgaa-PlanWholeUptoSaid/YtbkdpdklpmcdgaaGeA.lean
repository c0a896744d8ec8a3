/-
  Evaluation of closed calls, part A.
-/
import Derived.RangeFuncIn
import Derived.OrdersIn
import Derived.DefersIn
import Derived.Laws.Cells
import Derived.Laws.World
import Derived.Laws.CopyRow
import Derived.Laws.Tables
import Derived.Great.BuildSlice
import Derived.ChangeKeysEq
set_option linter.unusedVariables false
set_option linter.unusedSimpArgs false
/-
  Evaluation of closed calls: values up to places, an abstract heap and how a world is one.
-/
namespace Go.Ge

/-- where an abstract block lies: its block, how many cells stand ahead of it there, how many elements it may hold -/
structure Place where
  blk : Nat
  disp : Nat
  cap : Nat
  val : Value := .nilFunc
abbrev Mu := Nat → Option Place

def dat : Value → Bool
  | .bool _ | .int .. | .float .. | .complex .. | .string _ | .pointer none | .slice none _ _ | .map none | .chan none | .nilFunc | .nilIface => true
  | _ => false

mutual
inductive VR (μ : Mu) : Value → Value → Prop
  | dat {v} : dat v = true → VR μ v v
  | ptr {b o p} : μ b = some p → VR μ (.pointer (some ⟨b, o, none⟩)) (.pointer (some ⟨p.blk, o + p.disp, none⟩))
  | slice {b o p len cap} : μ b = some p → VR μ (.slice (some ⟨b, o, none⟩) len cap) (.slice (some ⟨p.blk, o + p.disp, none⟩) len cap)
  | sliceG {b o e p len} : μ b = some p → VR μ (.slice (some ⟨b, o, some e⟩) len 0) (.slice (some ⟨p.blk, o + p.disp, none⟩) len (p.cap - e))
  | sliceE {a cap} : VR μ (.slice (some ⟨0, 0, some 0⟩) 0 1) (.slice (some a) 0 cap)
  | map {r p} : μ r = some p → VR μ (.map (some r)) (.map (some p.blk))
  | opq {k p} : μ k = some p → p.val.oneCell' = true → VR μ (.chan (some k)) p.val
  | func {fn xs ys xs' ys'} : (∀ l, fn ≠ .yield l) → VRs μ xs xs' → VRs μ ys ys' → VR μ (.func fn ⟨xs⟩ ⟨ys⟩) (.func fn ⟨xs'⟩ ⟨ys'⟩)
  | yield {l p} : μ l = some p → VR μ (.func (.yield l) #[] #[]) (.func (.yield p.blk) #[] #[])
  | iface {t v v'} : VR μ v v' → VR μ (.iface t v) (.iface t v')
  | agg {xs xs'} : VRs μ xs xs' → VR μ (.agg ⟨xs⟩) (.agg ⟨xs'⟩)
  | tuple {xs xs'} : VRs μ xs xs' → VR μ (.tuple ⟨xs⟩) (.tuple ⟨xs'⟩)
inductive VRs (μ : Mu) : List Value → List Value → Prop
  | nil : VRs μ [] []
  | cons {x x' xs xs'} : VR μ x x' → VRs μ xs xs' → VRs μ (x :: xs) (x' :: xs')
end

def Mu.le (μ ν : Mu) : Prop := ∀ i p, μ i = some p → ν i = some p
theorem Mu.le_refl (μ : Mu) : Mu.le μ μ := fun _ _ h => h
theorem Mu.le_trans {a b c : Mu} (h : Mu.le a b) (k : Mu.le b c) : Mu.le a c := fun i p hi => k i p (h i p hi)

mutual
theorem VR.mono {μ ν : Mu} (h : Mu.le μ ν) {v v' : Value} : VR μ v v' → VR ν v v'
  | .dat e => .dat e
  | .ptr e => .ptr (h _ _ e)
  | .slice e => .slice (h _ _ e)
  | .sliceG e => .sliceG (h _ _ e)
  | .sliceE => .sliceE
  | .map e => .map (h _ _ e)
  | .opq e f => .opq (h _ _ e) f
  | .func f a b => .func f (VRs.mono h a) (VRs.mono h b)
  | .yield e => .yield (h _ _ e)
  | .iface a => .iface (VR.mono h a)
  | .agg a => .agg (VRs.mono h a)
  | .tuple a => .tuple (VRs.mono h a)
theorem VRs.mono {μ ν : Mu} (h : Mu.le μ ν) {v v' : List Value} : VRs μ v v' → VRs ν v v'
  | .nil => .nil
  | .cons a b => .cons (VR.mono h a) (VRs.mono h b)
end

section vrs
variable {μ : Mu}
theorem VRs.length : ∀ {xs ys : List Value}, VRs μ xs ys → xs.length = ys.length
  | _, _, .nil => rfl
  | _, _, .cons _ h => by simp [VRs.length h]
theorem VRs.get : ∀ {xs ys : List Value}, VRs μ xs ys → ∀ (i : Nat) (v : Value), xs[i]? = some v → ∃ v', ys[i]? = some v' ∧ VR μ v v'
  | _, _, .nil, i, v, h => by simp at h
  | _, _, .cons a b, 0, v, h => by simp at h; subst h; exact ⟨_, rfl, a⟩
  | _, _, .cons a b, i + 1, v, h => by simpa using VRs.get b i v (by simpa using h)
theorem VRs.mk : ∀ {xs ys : List Value}, xs.length = ys.length → (∀ (i : Nat) (v v' : Value), xs[i]? = some v → ys[i]? = some v' → VR μ v v') → VRs μ xs ys
  | [], [], _, _ => .nil
  | x :: xs, y :: ys, hl, h => .cons (h 0 x y rfl rfl) (VRs.mk (by simpa using hl) fun i v v' a b => h (i + 1) v v' (by simpa using a) (by simpa using b))
theorem VRs.append : ∀ {xs ys xs' ys' : List Value}, VRs μ xs xs' → VRs μ ys ys' → VRs μ (xs ++ ys) (xs' ++ ys')
  | _, _, _, _, .nil, h => h
  | _, _, _, _, .cons a b, h => .cons a (VRs.append b h)
theorem VRs.take : ∀ {xs xs' : List Value}, VRs μ xs xs' → ∀ n, VRs μ (xs.take n) (xs'.take n)
  | _, _, .nil, n => by simp; exact .nil
  | _, _, .cons a b, 0 => by simp; exact .nil
  | _, _, .cons a b, n + 1 => by simp; exact .cons a (VRs.take b n)
theorem VRs.drop : ∀ {xs xs' : List Value}, VRs μ xs xs' → ∀ n, VRs μ (xs.drop n) (xs'.drop n)
  | _, _, .nil, n => by simp; exact .nil
  | _, _, .cons a b, 0 => .cons a b
  | _, _, .cons a b, n + 1 => by simp; exact VRs.drop b n
theorem VRs.set : ∀ {xs xs' : List Value}, VRs μ xs xs' → ∀ (n : Nat) {v v' : Value}, VR μ v v' → VRs μ (xs.set n v) (xs'.set n v')
  | _, _, .nil, n, _, _, _ => .nil
  | _, _, .cons a b, 0, _, _, h => .cons h b
  | _, _, .cons a b, n + 1, _, _, h => .cons a (VRs.set b n h)
theorem VRs.dats : ∀ {xs : List Value}, xs.all dat = true → VRs μ xs xs
  | [], _ => .nil
  | x :: xs, h => by
    simp only [List.all_cons, Bool.and_eq_true] at h
    exact .cons (.dat h.1) (VRs.dats h.2)
end vrs

def one : Value → Bool
  | .agg _ | .tuple _ => false
  | _ => true
theorem VR.one {μ : Mu} {v v' : Value} (h : VR μ v v') (ho : one v = true) : v'.oneCell' = true := by
  cases h with
  | dat hd => cases v <;> simp_all [dat, Ge.one, Value.oneCell']
  | agg _ => simp [Ge.one] at ho
  | tuple _ => simp [Ge.one] at ho
  | opq _ hf => exact hf
  | _ => rfl

/-! ### Trees by numbers -/
inductive T (α : Type) where
  | leaf
  | val (a : α)
  | node (l r : T α)
def T.get {α : Type} : Nat → T α → Nat → Option α
  | 0, .val a, _ => some a
  | d + 1, .node l r, n => if n % 2 = 0 then T.get d l (n / 2) else T.get d r (n / 2)
  | _, _, _ => .none
def T.put {α : Type} : Nat → T α → Nat → Option α → T α
  | 0, _, _, some a => .val a
  | 0, _, _, none => .leaf
  | d + 1, .node l r, n, a => if n % 2 = 0 then .node (T.put d l (n / 2) a) r else .node l (T.put d r (n / 2) a)
  | d + 1, _, n, a => if n % 2 = 0 then .node (T.put d .leaf (n / 2) a) .leaf else .node .leaf (T.put d .leaf (n / 2) a)
theorem T.get_leaf {α : Type} : ∀ (d n : Nat), T.get d (.leaf : T α) n = none
  | 0, _ => rfl
  | _ + 1, _ => rfl
theorem T.get_put {α : Type} : ∀ (d : Nat) (t : T α) (n m : Nat) (a : Option α), n < 2 ^ d → m < 2 ^ d → T.get d (T.put d t n a) m = if m = n then a else T.get d t m
  | 0, t, n, m, a, hn, hm => by
    have : m = n := by simp at hn hm; omega
    subst this
    cases a <;> simp [T.put, T.get]
  | d + 1, t, n, m, a, hn, hm => by
    have h1 : n / 2 < 2 ^ d := by rw [Nat.pow_succ] at hn; omega
    have h2 : m / 2 < 2 ^ d := by rw [Nat.pow_succ] at hm; omega
    cases t <;> simp only [T.put]
    all_goals
      by_cases hn2 : n % 2 = 0 <;> by_cases hm2 : m % 2 = 0 <;> simp only [hn2, hm2, if_true, if_false, T.get]
      all_goals try rw [T.get_put d _ _ _ a h1 h2]
      all_goals try rw [T.get_leaf]
      all_goals by_cases h : m = n
      all_goals first
        | (subst h; simp_all; done)
        | (have h3 : m / 2 ≠ n / 2 := by omega
           simp [h, h3])
        | (simp [h])

def rget (R : T Value) (t : Nat) : Option Value := if t < 1024 then some ((T.get 10 R t).getD undef) else none

/-- what an abstract block holds -/
structure ALoop where
  state : LoopState
  pending : Option Code
  tmps : T Value
  n : Nat
  params : Array Tmp
  assign : Code
  body : Code
  defers : Nat
inductive AObj where
  | cells (c : List Value) (e : TypeId) (g : Option Nat)
  | map (es : List MapEntry) (clock : Nat)
  | iterM (m : Option Nat) (since : Nat) (seen : Array Nat) (stepped : Nat)
  | iterS (s : ByteArray) (pos : Nat)
  | loop (l : ALoop)
  | mark
  | spent
  | tab (id : Nat) (c : List Value)
def AObj.isTab : AObj → Bool
  | .tab .. => true
  | _ => false

inductive ESR (μ : Mu) : List MapEntry → List MapEntry → Prop
  | nil : ESR μ [] []
  | cons {k k' v v' : Value} {n : Nat} {xs xs' : List MapEntry} : VR μ k k' → VR μ v v' → ESR μ xs xs' → ESR μ (⟨k, v, n⟩ :: xs) (⟨k', v', n⟩ :: xs')
theorem ESR.mono {μ ν : Mu} (h : Mu.le μ ν) : ∀ {xs xs' : List MapEntry}, ESR μ xs xs' → ESR ν xs xs'
  | _, _, .nil => .nil
  | _, _, .cons a b c => .cons (a.mono h) (b.mono h) (ESR.mono h c)

/-- how long a row is in the world -/
def GrowOk (g : Option Nat) (p : Place) (n m : Nat) : Prop := match g with | none => p.disp = 0 ∧ n = m | some s => n = p.disp + p.cap * s ∧ m ≤ p.cap * s
/-- a row's cells may be written: what is marked lies behind them -/
def FzOk (fz : Nat × Nat) (n : Nat) : Prop := fz = (0, 0) ∨ fz = (n, n + 1)
theorem FzOk.zero (n : Nat) : FzOk (0, 0) n := .inl rfl
/-- an object of the world is an abstract block's -/
def ObjR (μ : Mu) (ob : Option Obj) (p : Place) : AObj → Prop
  | .cells c e g => ∃ (c' : Array Value) (fz : Nat × Nat), ob = some (.cells c' e fz) ∧ FzOk fz c'.size ∧ (∀ (i : Nat) (v : Value), c[i]? = some v → ∃ v', c'[i + p.disp]? = some v' ∧ VR μ v v') ∧
      GrowOk g p c'.size c.length
  | .map es clock => ∃ es', ob = some (.map ⟨es'⟩ clock) ∧ ESR μ es es'
  | .iterM m since seen stepped => p.disp = 0 ∧ ∃ m' , ob = some (.mapIter m' since seen stepped) ∧ (match m with | none => m' = none | some r => ∃ q, μ r = some q ∧ m' = some q.blk)
  | .iterS s pos => p.disp = 0 ∧ ob = some (.stringIter s pos)
  | .loop l => p.disp = 0 ∧ ∃ (fn : FuncId) (tmps' : Array Value) (q : Place), ob = some (.loop { state := l.state, pending := l.pending, fn := fn, tmps := tmps', params := l.params, assign := l.assign, body := l.body, defers := q.blk }) ∧ μ l.defers = some q ∧ l.n ≤ tmps'.size ∧ ∀ t v, rget l.tmps t = some v → VR μ v (tmps'.getD t undef)
  | .mark => ob = some (.deferred (some []))
  | .spent => ob = some (.deferred none)
  | .tab id c => p = ⟨id, 0, 0, .nilFunc⟩ ∧ ∃ (c' : Array Value) (e : TypeId) (fz : Nat × Nat), ob = some (.cells c' e fz) ∧ ∀ (i : Nat) (v : Value), c[i]? = some v → c'[i]? = some v ∧ dat v = true
theorem ObjR.mono {μ ν : Mu} (h : Mu.le μ ν) {ob : Option Obj} {p : Place} {o : AObj} (r : ObjR μ ob p o) : ObjR ν ob p o := by
  cases o with
  | cells c e g => obtain ⟨c', fz, h1, hz, h2, h3⟩ := r; exact ⟨c', fz, h1, hz, fun i v hi => let ⟨v', a, b⟩ := h2 i v hi; ⟨v', a, b.mono h⟩, h3⟩
  | map es clock => obtain ⟨es', h1, h2⟩ := r; exact ⟨es', h1, h2.mono h⟩
  | iterM m since seen stepped =>
    obtain ⟨h0, m', h1, h2⟩ := r
    refine ⟨h0, m', h1, ?_⟩
    cases m with
    | none => exact h2
    | some r => obtain ⟨q, a, b⟩ := h2; exact ⟨q, h _ _ a, b⟩
  | iterS s pos => exact r
  | loop l => obtain ⟨h0, fn, t, q, h1, h2, h3, h4⟩ := r; exact ⟨h0, fn, t, q, h1, h _ _ h2, h3, fun t v ht => (h4 t v ht).mono h⟩
  | mark => exact r
  | spent => exact r
  | tab id c => exact r
theorem ObjR.some {μ : Mu} {ob : Option Obj} {p : Place} {o : AObj} (r : ObjR μ ob p o) : ob.isSome = true := by
  cases o with
  | cells c e g => obtain ⟨c', fz, h1, hz, h2, h3⟩ := r; simp [h1]
  | map es clock => obtain ⟨es', h1, h2⟩ := r; simp [h1]
  | iterM m since seen stepped => obtain ⟨h0, m', h1, h2⟩ := r; simp [h1]
  | iterS s pos => obtain ⟨h0, h1⟩ := r; simp [h1]
  | loop l => obtain ⟨h0, fn, t, q, h1, h2⟩ := r; simp [h1]
  | mark => simp [show ob = _ from r]
  | spent => simp [show ob = _ from r]
  | tab id c => obtain ⟨_, c', e, fz, h1, _⟩ := r; simp [h1]

abbrev Heap := T AObj
def Heap.get (h : Heap) (i : Nat) : Option AObj := if i < 65536 then T.get 16 h i else none
def Heap.set (h : Heap) (i : Nat) (o : Option AObj) : Heap := T.put 16 h i o
theorem Heap.get_set (h : Heap) (i j : Nat) (o : Option AObj) (hi : i < 65536) : (Heap.set h i o).get j = if j = i then o else h.get j := by
  unfold Heap.get Heap.set
  by_cases hj : j < 65536
  · rw [if_pos hj, if_pos hj, T.get_put 16 h i j o hi hj]
  · rw [if_neg hj, if_neg hj]
    have : j ≠ i := by omega
    simp [this]

structure Rel (μ : Mu) (h : Heap) (w : World) : Prop where
  live : ∀ i o, h.get i = some o → ∃ p, μ i = some p ∧ ObjR μ w.heap[p.blk]? p o
  inj : ∀ i j o o' p q, h.get i = some o → h.get j = some o' → μ i = some p → μ j = some q → p.blk = q.blk → i = j

/-- block k of the world is no live block's -/
def Free (μ : Mu) (h : Heap) (k : Nat) : Prop := ∀ j o p, h.get j = some o → o.isTab = false → μ j = some p → p.blk ≠ k

structure Goes (id nx : Nat) (μ : Mu) (h : Heap) (w : World) (μ' : Mu) (h' : Heap) (w' : World) : Prop where
  le : μ.le μ'
  news : ∀ i p, μ' i = some p → μ i = some p ∨ w.heap.size ≤ p.blk ∨ ¬ Free μ h p.blk
  low : ∀ i, i < nx → i ≠ id → μ' i = μ i ∧ (h.get i = none → h'.get i = none)
  old : ∀ j p, μ j = some p → h.get j = none → h'.get j = none
  tabs : ∀ j o, h.get j = some o → o.isTab = true → h'.get j = some o
  frame : ∀ k, k < w.heap.size → Free μ h k → w'.heap[k]? = w.heap[k]?
  size : w.heap.size ≤ w'.heap.size
  os : w'.os = w.os
  tape : w'.tape = w.tape
  output : w'.output = w.output

theorem Goes.refl (id nx : Nat) (μ : Mu) (h : Heap) (w : World) : Goes id nx μ h w μ h w :=
  ⟨Mu.le_refl _, fun _ _ e => .inl e, fun _ _ _ => ⟨rfl, fun h => h⟩, fun _ _ _ h => h, fun _ _ h _ => h, fun _ _ _ => rfl, Nat.le_refl _, rfl, rfl, rfl⟩
theorem Goes.mono {id id' nx nx' : Nat} {μ μ' : Mu} {h h' : Heap} {w w' : World} (g : Goes id nx μ h w μ' h' w') (hn : nx' ≤ nx) (hi : id = id' ∨ nx' ≤ id) : Goes id' nx' μ h w μ' h' w' :=
  ⟨g.le, g.news, fun i h1 h2 => g.low i (by omega) (by omega), g.old, g.tabs, g.frame, g.size, g.os, g.tape, g.output⟩

theorem Rel.blk_lt {μ : Mu} {h : Heap} {w : World} (r : Rel μ h w) {i : Nat} {o : AObj} {p : Place} (hi : h.get i = some o) (hp : μ i = some p) : p.blk < w.heap.size := by
  obtain ⟨q, hq, ho⟩ := r.live i o hi
  rw [hp] at hq
  cases hq
  have := ho.some
  rcases Nat.lt_or_ge p.blk w.heap.size with h | h
  · exact h
  · rw [Array.getElem?_eq_none h] at this; cases this

/-- a block free ahead of the step is free behind it, if it was there -/
theorem Goes.free {id nx : Nat} {μ μ' : Mu} {h h' : Heap} {w w' : World} (g : Goes id nx μ h w μ' h' w') {k : Nat} (hk : k < w.heap.size) (hf : Free μ h k) : Free μ' h' k := by
  intro j o p hj ht hp e
  rcases g.news j p hp with h1 | h1 | h1
  · cases ho : h.get j with
    | none => rw [g.old j p h1 ho] at hj; cases hj
    | some o' =>
      cases ht' : o'.isTab with
      | false => exact hf j o' p ho ht' h1 e
      | true => rw [g.tabs j o' ho ht'] at hj; cases hj; rw [ht] at ht'; cases ht'
  · omega
  · subst e; exact h1 hf
theorem Goes.trans {id nx : Nat} {μ μ₁ μ₂ : Mu} {h h₁ h₂ : Heap} {w w₁ w₂ : World} (a : Goes id nx μ h w μ₁ h₁ w₁) (b : Goes id nx μ₁ h₁ w₁ μ₂ h₂ w₂) : Goes id nx μ h w μ₂ h₂ w₂ where
  le := Mu.le_trans a.le b.le
  news i p hp := by
    rcases b.news i p hp with h1 | h1 | h1
    · exact a.news i p h1
    · exact .inr (.inl (Nat.le_trans a.size h1))
    · rcases Nat.lt_or_ge p.blk w.heap.size with hk | hk
      · exact .inr (.inr fun hf => h1 (a.free hk hf))
      · exact .inr (.inl hk)
  low i h1 h2 := ⟨(b.low i h1 h2).1.trans (a.low i h1 h2).1, fun h0 => (b.low i h1 h2).2 ((a.low i h1 h2).2 h0)⟩
  old j p hp hj := b.old j p (a.le _ _ hp) (a.old j p hp hj)
  tabs j o hj ht := b.tabs j o (a.tabs j o hj ht) ht
  frame k hk hf := (b.frame k (Nat.lt_of_lt_of_le hk a.size) (a.free hk hf)).trans (a.frame k hk hf)
  size := Nat.le_trans a.size b.size
  os := b.os.trans a.os
  tape := b.tape.trans a.tape
  output := b.output.trans a.output

/-- a draw -/
theorem Goes.drew {id nx : Nat} {μ μ' : Mu} {h h' : Heap} {w w' : World} (g : Goes id nx μ h w μ' h' w') (n : Nat) : Goes id nx μ h w μ' h' { w' with drawn := n } :=
  ⟨g.le, g.news, g.low, g.old, g.tabs, g.frame, g.size, g.os, g.tape, g.output⟩
theorem Rel.drew {μ : Mu} {h : Heap} {w : World} (r : Rel μ h w) (n : Nat) : Rel μ h { w with drawn := n } := ⟨r.live, r.inj⟩

/-- one live block is written -/
theorem write {μ : Mu} {h : Heap} {w w' : World} (r : Rel μ h w) {b : Nat} {o o' : AObj} {p : Place} (id nx : Nat) (hb : h.get b = some o) (hnt : o.isTab = false) (hp : μ b = some p)
    (hs : w'.heap.size = w.heap.size) (hob : ObjR μ w'.heap[p.blk]? p o') (hk : ∀ k, k ≠ p.blk → w'.heap[k]? = w.heap[k]?) (h1 : w'.os = w.os) (h2 : w'.tape = w.tape) (h3 : w'.output = w.output) :
    Rel μ (h.set b (some o')) w' ∧ Goes id nx μ h w μ (h.set b (some o')) w' := by
  have hlt : b < 65536 := by
    unfold Heap.get at hb
    split at hb
    · assumption
    · cases hb
  refine ⟨⟨fun i o₁ hi => ?_, fun i j o₁ o₂ q₁ q₂ hi hj hq₁ hq₂ e => ?_⟩, Mu.le_refl _, fun _ _ e => .inl e, fun i _ _ => ⟨rfl, fun h0 => ?_⟩, fun j q hq h0 => ?_, fun j q hj ht => ?_, fun k hk1 hf => hk k fun e => hf b o p hb hnt hp e.symm, Nat.le_of_eq hs.symm, h1, h2, h3⟩
  · rw [Heap.get_set _ _ _ _ hlt] at hi
    split at hi
    · rename_i e; subst e; cases hi; exact ⟨p, hp, hob⟩
    · rename_i e
      obtain ⟨q, hq, hr⟩ := r.live i o₁ hi
      refine ⟨q, hq, ?_⟩
      rw [hk q.blk fun e' => e (r.inj i b o₁ o q p hi hb hq hp e')]
      exact hr
  · rw [Heap.get_set _ _ _ _ hlt] at hi hj
    have f : ∀ (i : Nat) (o₁ : AObj), (if i = b then some o' else h.get i) = some o₁ → ∃ o₁, h.get i = some o₁ := by
      intro i o₁ hi
      split at hi
      · rename_i e; subst e; exact ⟨o, hb⟩
      · exact ⟨o₁, hi⟩
    obtain ⟨_, hi'⟩ := f i o₁ hi
    obtain ⟨_, hj'⟩ := f j o₂ hj
    exact r.inj i j _ _ q₁ q₂ hi' hj' hq₁ hq₂ e
  · rw [Heap.get_set _ _ _ _ hlt]
    split
    · rename_i e; subst e; rw [hb] at h0; cases h0
    · exact h0
  · rw [Heap.get_set _ _ _ _ hlt]
    split
    · rename_i e; subst e; rw [hb] at h0; cases h0
    · exact h0

  · rw [Heap.get_set _ _ _ _ hlt]
    split
    · rename_i e; subst e; rw [hb] at hj; cases hj; rw [hnt] at ht; cases ht
    · exact hj

def Mu.put (μ : Mu) (b : Nat) (p : Place) : Mu := fun i => if i = b then some p else μ i
theorem Mu.le_put {μ : Mu} {b : Nat} {p : Place} (h : μ b = none) : μ.le (μ.put b p) := by
  intro i q hi
  unfold Mu.put
  split
  · rename_i e; subst e; rw [h] at hi; cases hi
  · exact hi
theorem Mu.put_self (μ : Mu) (b : Nat) (p : Place) : μ.put b p b = some p := by simp [Mu.put]

/-- a block is made -/
theorem make {μ : Mu} {h : Heap} {w : World} (r : Rel μ h w) {b : Nat} {o : AObj} {ob : Obj} (nx cap : Nat) (hlt : b < 65536) (hb : μ b = none) (hh : h.get b = none)
    (hob : ObjR (μ.put b ⟨w.heap.size, 0, cap, .nilFunc⟩) (some ob) ⟨w.heap.size, 0, cap, .nilFunc⟩ o) :
    Rel (μ.put b ⟨w.heap.size, 0, cap, .nilFunc⟩) (h.set b (some o)) (w.alloc ob) ∧ Goes b nx μ h w (μ.put b ⟨w.heap.size, 0, cap, .nilFunc⟩) (h.set b (some o)) (w.alloc ob) := by
  have hle := Mu.le_put (p := ⟨w.heap.size, 0, cap, .nilFunc⟩) hb
  have hnew : (w.alloc ob).heap[w.heap.size]? = some ob := by show (w.heap.push ob)[w.heap.size]? = _; simp
  have hold : ∀ k, k ≠ w.heap.size → (w.alloc ob).heap[k]? = w.heap[k]? := fun k hk => by
    show (w.heap.push ob)[k]? = _
    rw [Array.getElem?_push, if_neg hk]
  refine ⟨⟨fun i o₁ hi => ?_, fun i j o₁ o₂ q₁ q₂ hi hj hq₁ hq₂ e => ?_⟩, hle, fun i q hq => ?_, fun i _ hne => ⟨by simp [Mu.put, hne], fun h0 => ?_⟩, fun j q hq h0 => ?_, fun j q hj ht => ?_, fun k hk1 hf => hold k (by omega), by show _ ≤ (w.heap.push ob).size; simp, rfl, rfl, rfl⟩
  · rw [Heap.get_set _ _ _ _ hlt] at hi
    split at hi
    · rename_i e; subst e; cases hi; exact ⟨_, Mu.put_self _ _ _, by rw [hnew]; exact hob⟩
    · obtain ⟨q, hq, hr⟩ := r.live i o₁ hi
      have := r.blk_lt hi hq
      exact ⟨q, hle _ _ hq, by rw [hold q.blk (by omega)]; exact hr.mono hle⟩
  · rw [Heap.get_set _ _ _ _ hlt] at hi hj
    unfold Mu.put at hq₁ hq₂
    split at hi <;> split at hj
    · omega
    · rename_i e1 e2
      rw [if_pos e1] at hq₁; rw [if_neg e2] at hq₂
      cases hq₁
      have := r.blk_lt hj hq₂
      simp at e; omega
    · rename_i e1 e2
      rw [if_neg e1] at hq₁; rw [if_pos e2] at hq₂
      cases hq₂
      have := r.blk_lt hi hq₁
      simp at e; omega
    · rename_i e1 e2
      rw [if_neg e1] at hq₁; rw [if_neg e2] at hq₂
      exact r.inj i j _ _ q₁ q₂ hi hj hq₁ hq₂ e
  · unfold Mu.put at hq
    split at hq
    · cases hq; exact .inr (.inl (Nat.le_refl _))
    · exact .inl hq
  · rw [Heap.get_set _ _ _ _ hlt, if_neg hne]; exact h0
  · rw [Heap.get_set _ _ _ _ hlt]
    split
    · rename_i e; subst e; rw [hb] at hq; cases hq
    · exact h0
  · rw [Heap.get_set _ _ _ _ hlt]
    split
    · rename_i e; subst e; rw [hh] at hj; cases hj
    · exact hj
end Go.Ge

/-
  Evaluation of closed calls: the operations that read, write and make memory.
-/
namespace Go.Ge

/-- what a step that yields a value does -/
def Does (P : Program) (s : Sem Value) (id nx : Nat) (μ : Mu) (h : Heap) (w : World) (v : Value) (h' : Heap) : Prop :=
  ∃ μ' v' w', s.run P w = .ok v' w' ∧ VR μ' v v' ∧ Rel μ' h' w' ∧ Goes id nx μ h w μ' h' w'
/-- a step that yields nothing -/
def DoesU (P : Program) (s : Sem Unit) (id nx : Nat) (μ : Mu) (h : Heap) (w : World) (h' : Heap) : Prop :=
  ∃ μ' w', s.run P w = .ok () w' ∧ Rel μ' h' w' ∧ Goes id nx μ h w μ' h' w'

section
variable {P : Program} {μ : Mu} {h : Heap} {w : World} {id nx : Nat}
theorem Does.still {s : Sem Value} {v v' : Value} (r : Rel μ h w) (hs : s.run P w = .ok v' w) (hv : VR μ v v') : Does P s id nx μ h w v h :=
  ⟨μ, v', w, hs, hv, r, Goes.refl _ _ _ _ _⟩

theorem add_none (b o n : Nat) : (⟨b, o, none⟩ : Addr).add n = ⟨b, o + n, none⟩ := by
  unfold Addr.add
  split
  · rename_i e; subst e; rfl
  · rfl

theorem Rel.cells (r : Rel μ h w) {b : Nat} {c : List Value} {e : TypeId} {g : Option Nat} (hb : h.get b = some (.cells c e g)) {p : Place} (hp : μ b = some p) :
    ∃ (c' : Array Value) (fz : Nat × Nat), w.heap[p.blk]? = some (.cells c' e fz) ∧ FzOk fz c'.size ∧ (∀ (i : Nat) (v : Value), c[i]? = some v → ∃ v', c'[i + p.disp]? = some v' ∧ VR μ v v') ∧
      GrowOk g p c'.size c.length := by
  obtain ⟨q, hq, ho⟩ := r.live b _ hb
  rw [hp] at hq
  cases hq
  exact ho

theorem FzOk.off {fz : Nat × Nat} {n o : Nat} (hz : FzOk fz n) (ho : o < n) : (decide (fz.1 ≤ o) && decide (o < fz.2)) = false := by
  rcases hz with rfl | rfl
  · simp
  · simp; omega
theorem run_storeCells_fz (g o : Nat) (t : TypeId) (fz : Nat × Nat) : ∀ (vs : List Value) (i : Nat) (cur : Array Value) (w : World), w.heap[g]? = some (.cells cur t fz) → FzOk fz cur.size → o + i + vs.length ≤ cur.size → (∀ v ∈ vs, v.oneCell' = true) →
    (storeCells ⟨g, o, none⟩ vs i).run P w = .ok () (w.setRow g (cur.toList.take (o + i) ++ vs ++ cur.toList.drop (o + i + vs.length)).toArray)
  | [], i, cur, w, hg, _, _, _ => by
    simp only [storeCells, List.append_nil, List.length_nil, Nat.add_zero, List.take_append_drop, Array.toArray_toList]
    rw [setRow_self w g cur t fz hg]
    rfl
  | v :: rest, i, cur, w, hg, hz, hl, h1 => by
    have hi : o + i < cur.size := by simp at hl; omega
    have hadd : (⟨g, o, none⟩ : Addr).add i = ⟨g, o + i, none⟩ := by unfold Addr.add; split <;> simp_all
    have hcell : w.cell? ⟨g, o + i, none⟩ = some cur[o + i] := by simp [World.cell?, hg, hi]
    have hfro : w.frozen? ⟨g, o + i, none⟩ = false := by
      obtain ⟨lo, hh⟩ := fz
      have := hz.off hi
      simpa [World.frozen?, hg] using this
    have hst : (store ((⟨g, o, none⟩ : Addr).add i) v).run P w = .ok () (w.setRow g (cur.setIfInBounds (o + i) v)) := by
      rw [hadd, run_store P w _ v _ (h1 v (by simp)), hcell]
      simp [hfro, setCell_eq_setRow w g (o + i) cur t fz v hg]
    have ih := run_storeCells_fz g o t fz rest (i + 1) (cur.setIfInBounds (o + i) v) (w.setRow g (cur.setIfInBounds (o + i) v)) (setRow_heap w g cur _ t _ hg) (by simpa using hz) (by simp at hl ⊢; omega) (fun x hx => h1 x (by simp [hx]))
    simp only [storeCells, Sem.run_bind, hst, Result.andThen_ok, ih, setRow_setRow]
    congr 3
    have e := list_seg_step cur.toList (o + i) v rest (by simp at hl ⊢; omega)
    simpa [Array.toList_setIfInBounds, Nat.add_assoc] using e

/-- the cells of an abstract block from a place on, in the world -/
theorem Rel.span (r : Rel μ h w) {b : Nat} {c : List Value} {e : TypeId} {g : Option Nat} (hb : h.get b = some (.cells c e g)) {p : Place} (hp : μ b = some p) (o n : Nat) (hn : o + n ≤ c.length) :
    ∃ cs' : List Value, cs'.length = n ∧ VRs μ ((c.drop o).take n) cs' ∧ ∀ (j : Nat) (v : Value), cs'[j]? = some v → w.cell? ((⟨p.blk, o + p.disp, none⟩ : Addr).add j) = some v := by
  obtain ⟨c', fz, h1, hz, h2, h3⟩ := r.cells hb hp
  have hget : ∀ j, j < n → ∃ v', c'[o + j + p.disp]? = some v' ∧ ∃ v, c[o + j]? = some v ∧ VR μ v v' := fun j hj => by
    have hlt : o + j < c.length := by omega
    obtain ⟨v', a, b⟩ := h2 (o + j) _ (List.getElem?_eq_getElem hlt)
    exact ⟨v', a, _, List.getElem?_eq_getElem hlt, b⟩
  refine ⟨(c'.toList.drop (o + p.disp)).take n, ?_, ?_, ?_⟩
  · rw [List.length_take, List.length_drop]
    rcases Nat.eq_zero_or_pos n with hz | hz
    · omega
    · obtain ⟨v', a, _⟩ := hget (n - 1) (by omega)
      have := (Array.getElem?_eq_some_iff.1 a).1
      simp only [Array.length_toList]
      omega
  · apply VRs.mk
    · simp only [List.length_take, List.length_drop, Array.length_toList]
      rcases Nat.eq_zero_or_pos n with hz | hz
      · omega
      · obtain ⟨v', a, _⟩ := hget (n - 1) (by omega)
        have := (Array.getElem?_eq_some_iff.1 a).1
        omega
    · intro i v v' hv hv'
      have hi : i < n := by
        have := (List.getElem?_eq_some_iff.1 hv).1
        simp only [List.length_take] at this
        omega
      obtain ⟨u', a, u, b, hr⟩ := hget i hi
      rw [List.getElem?_take_of_lt hi, List.getElem?_drop] at hv hv'
      rw [b] at hv
      cases hv
      rw [Array.getElem?_toList, show o + p.disp + i = o + i + p.disp by omega, a] at hv'
      cases hv'
      exact hr
  · intro j v hj
    have hi : j < n := by
      have := (List.getElem?_eq_some_iff.1 hj).1
      simp only [List.length_take] at this
      omega
    rw [List.getElem?_take_of_lt hi, List.getElem?_drop, Array.getElem?_toList] at hj
    rw [add_none]
    simp [World.cell?, h1, hj]

theorem VR.cells {v v' : Value} (hv : VR μ v v') : VRs μ v.cells.toList v'.cells.toList := by
  cases hv with
  | agg a => exact a
  | dat hd =>
    cases v <;> first
      | (exact .cons (.dat hd) .nil)
      | (simp [Ge.dat] at hd)
  | opq hp hf =>
    rename_i k p
    have e : p.val.cells = #[p.val] := by
      cases hc : p.val <;> first | rfl | (rw [hc] at hf; cases hf)
    rw [e]
    exact .cons (.opq hp hf) .nil
  | _ => exact .cons (by first | exact .ptr ‹_› | exact .slice ‹_› | exact .sliceG ‹_› | exact .sliceE | exact .map ‹_› | exact .func ‹_› ‹_› ‹_› | exact .yield ‹_› | exact .iface ‹_› | exact .tuple ‹_›) .nil

/-! ### load -/
def isAggB (P : Program) (t : TypeId) : Option Bool :=
  match P.underlying t with
  | some (.struct _) | some (.array _ _) => some true
  | some _ => some false
  | none => none
theorem run_isAggB {t : TypeId} {b : Bool} (hu : isAggB P t = some b) (w : World) : (isAgg t).run P w = .ok b w := by
  unfold isAggB at hu
  cases hq : P.underlying t with
  | none => simp [hq] at hu
  | some d => rw [hq] at hu; cases d <;> simp at hu <;> subst hu <;> simp [isAgg, run_underlying hq]

def aLoad (P : Program) (h : Heap) (t : TypeId) (a : Value) : Option Value :=
  match a with
  | .pointer (some ⟨b, o, none⟩) =>
    match h.get b with
    | some (.cells c _ _) =>
      match isAggB P t with
      | some true =>
        match P.info? t with
        | some i => if o + i.size ≤ c.length then some (.agg ⟨(c.drop o).take i.size⟩) else none
        | none => none
      | some false => c[o]?
      | none => none
    | some (.tab _ c) =>
      match isAggB P t with
      | some true =>
        match P.info? t with
        | some i => if o + i.size ≤ c.length then some (.agg ⟨(c.drop o).take i.size⟩) else none
        | none => none
      | some false => c[o]?
      | none => none
    | _ => none
  | _ => none
/-- the cells of a table from a place on, in the world -/
theorem Rel.tabSpan (r : Rel μ h w) {b id' : Nat} {c : List Value} (hb : h.get b = some (.tab id' c)) {p : Place} (hp : μ b = some p) (o n : Nat) (hn : o + n ≤ c.length) :
    p = ⟨id', 0, 0, .nilFunc⟩ ∧ ((c.drop o).take n).length = n ∧ VRs μ ((c.drop o).take n) ((c.drop o).take n) ∧ ∀ (j : Nat) (v : Value), ((c.drop o).take n)[j]? = some v → w.cell? ((⟨id', o, none⟩ : Addr).add j) = some v := by
  obtain ⟨q, hq, rfl, c', e, fz, h1, h2⟩ : ∃ q, μ b = some q ∧ q = ⟨id', 0, 0, .nilFunc⟩ ∧ ∃ (c' : Array Value) (e : TypeId) (fz : Nat × Nat), w.heap[q.blk]? = some (.cells c' e fz) ∧ ∀ (i : Nat) (v : Value), c[i]? = some v → c'[i]? = some v ∧ dat v = true := r.live b _ hb
  rw [hp] at hq
  cases hq
  refine ⟨rfl, by rw [List.length_take, List.length_drop]; omega, VRs.dats (List.all_eq_true.2 fun x hx => ?_), fun j v hj => ?_⟩
  · obtain ⟨i, hi⟩ := List.mem_iff_getElem?.1 (List.mem_of_mem_drop (List.mem_of_mem_take hx))
    exact (h2 i x hi).2
  · have hi : j < n := by
      have := (List.getElem?_eq_some_iff.1 hj).1
      simp only [List.length_take] at this
      omega
    rw [List.getElem?_take_of_lt hi, List.getElem?_drop] at hj
    rw [add_none]
    simp [World.cell?, h1, (h2 _ v hj).1]
theorem aLoad_sound (r : Rel μ h w) {t : TypeId} {a a' v : Value} (ha : VR μ a a') (hl : aLoad P h t a = some v) : Does P (Instr.loadAt t a') id nx μ h w v h := by
  unfold aLoad at hl
  split at hl
  · rename_i b o
    cases ha with
    | dat hd => simp [dat] at hd
    | ptr hp =>
      rename_i p
      split at hl
      · rename_i c e g hb
        split at hl
        · rename_i hu
          split at hl
          · rename_i i hi
            split at hl
            · rename_i hn
              obtain ⟨cs', hcl, hcr, hcc⟩ := r.span hb hp o i.size hn
              cases hl
              refine Does.still r ?_ (v' := .agg ⟨cs'⟩) (.agg hcr)
              have := run_loadCells_list (P := P) w ⟨p.blk, o + p.disp, none⟩ cs' hcc
              rw [hcl] at this
              simp [Instr.loadAt, Instr.sureAddr, loadVar, run_isAggB hu, sizeOf, typeInfo, hi, this]
            · cases hl
          · cases hl
        · rename_i hu
          obtain ⟨c', fz, h1, hz, h2, _⟩ := r.cells hb hp
          obtain ⟨v', h3, h4⟩ := h2 o v hl
          refine Does.still r ?_ h4
          have hc : w.cell? ⟨p.blk, o + p.disp, none⟩ = some v' := by simp [World.cell?, h1, h3]
          simp [Instr.loadAt, Instr.sureAddr, loadVar, run_isAggB hu, hc]
        · cases hl
      · rename_i id' c hb
        split at hl
        · rename_i hu
          split at hl
          · rename_i i hi
            split at hl
            · rename_i hn
              obtain ⟨rfl, hcl, hcr, hcc⟩ := r.tabSpan hb hp o i.size hn
              cases hl
              refine Does.still r ?_ (v' := .agg ⟨(c.drop o).take i.size⟩) (.agg hcr)
              have := run_loadCells_list (P := P) w ⟨id', o, none⟩ _ hcc
              rw [hcl] at this
              simp [Instr.loadAt, Instr.sureAddr, loadVar, run_isAggB hu, sizeOf, typeInfo, hi, this]
            · cases hl
          · cases hl
        · rename_i hu
          obtain ⟨q, hq, rfl, c', e, fz, h1, h2⟩ : ∃ q, μ b = some q ∧ q = ⟨id', 0, 0, .nilFunc⟩ ∧ ∃ (c' : Array Value) (e : TypeId) (fz : Nat × Nat), w.heap[q.blk]? = some (.cells c' e fz) ∧ ∀ (i : Nat) (v : Value), c[i]? = some v → c'[i]? = some v ∧ dat v = true := r.live b _ hb
          rw [hp] at hq
          cases hq
          obtain ⟨h3, h4⟩ := h2 o v hl
          refine Does.still r ?_ (.dat h4)
          have hc : w.cell? ⟨id', o + 0, none⟩ = some v := by simp only [World.cell?, h1]; simpa using h3
          simp [Instr.loadAt, Instr.sureAddr, loadVar, run_isAggB hu]
          simp at hc
          simp [hc]
        · cases hl
      · cases hl
  · cases hl

/-! ### store -/
def splice (c : List Value) (o : Nat) (vs : List Value) : List Value := c.take o ++ vs ++ c.drop (o + vs.length)
theorem splice_get (c : List Value) (o : Nat) (vs : List Value) (hn : o + vs.length ≤ c.length) (i : Nat) :
    (splice c o vs)[i]? = if i < o then c[i]? else if i < o + vs.length then vs[i - o]? else c[i]? := by
  unfold splice
  have hl : (c.take o).length = o := by rw [List.length_take]; omega
  by_cases h1 : i < o
  · rw [if_pos h1, List.append_assoc, List.getElem?_append_left (by omega), List.getElem?_take_of_lt h1]
  · rw [if_neg h1]
    by_cases h2 : i < o + vs.length
    · rw [if_pos h2, List.append_assoc, List.getElem?_append_right (by omega), hl, List.getElem?_append_left (by omega)]
    · rw [if_neg h2, List.getElem?_append_right (by simp [hl]; omega)]
      simp only [List.length_append, hl, List.getElem?_drop]
      congr 1
      omega
theorem splice_length (c : List Value) (o : Nat) (vs : List Value) (hn : o + vs.length ≤ c.length) : (splice c o vs).length = c.length := by
  unfold splice
  simp only [List.length_append, List.length_take, List.length_drop]
  omega

/-- cells are written in a live block -/
theorem storeCells_sound (r : Rel μ h w) {b o : Nat} {c : List Value} {e : TypeId} {g : Option Nat} (hb : h.get b = some (.cells c e g)) {p : Place} (hp : μ b = some p) {vs vs' : List Value} (hv : VRs μ vs vs') (hn : o + vs.length ≤ c.length) (h1 : vs.all one = true) :
    DoesU P (storeCells ⟨p.blk, o + p.disp, none⟩ vs') id nx μ h w (h.set b (some (.cells (splice c o vs) e g))) := by
  obtain ⟨c', fz, hc1, hz, hc2, hc3⟩ := r.cells hb hp
  have hvl := hv.length
  have hfit : o + p.disp + 0 + vs'.length ≤ c'.size := by
    cases g with
    | none => obtain ⟨a, b⟩ : p.disp = 0 ∧ c'.size = c.length := hc3; omega
    | some s => obtain ⟨a, b⟩ : c'.size = p.disp + p.cap * s ∧ c.length ≤ p.cap * s := hc3; omega
  have hone : ∀ v ∈ vs', v.oneCell' = true := by
    intro v hm
    obtain ⟨i, hi, rfl⟩ := List.mem_iff_getElem.1 hm
    obtain ⟨v', a, b⟩ := hv.get i vs[i] (List.getElem?_eq_getElem (by omega))
    rw [List.getElem?_eq_getElem hi] at a
    cases a
    exact b.one (List.all_eq_true.1 h1 _ (List.getElem_mem _))
  have hrun := run_storeCells_fz (P := P) p.blk (o + p.disp) e fz vs' 0 c' w hc1 hz hfit hone
  simp only [Nat.add_zero] at hrun
  obtain ⟨hr, hg⟩ := write r (o' := .cells (splice c o vs) e g) (w' := w.setRow p.blk (c'.toList.take (o + p.disp) ++ vs' ++ c'.toList.drop (o + p.disp + vs'.length)).toArray) id nx hb rfl hp (by simp) (by
    rw [setRow_heap w p.blk c' _ e fz hc1]
    have hsz : ((c'.toList.take (o + p.disp) ++ vs' ++ c'.toList.drop (o + p.disp + vs'.length)).toArray).size = c'.size := by
        have := splice_length c'.toList (o + p.disp) vs' (by simpa using hfit)
        unfold splice at this
        simpa using this
    refine ⟨_, fz, rfl, by rw [hsz]; exact hz, fun i v hi => ?_, ?_⟩
    · have hsp : (c'.toList.take (o + p.disp) ++ vs' ++ c'.toList.drop (o + p.disp + vs'.length)) = splice c'.toList (o + p.disp) vs' := rfl
      rw [hsp, List.getElem?_toArray, splice_get _ _ _ (by simpa using hfit)]
      rw [splice_get _ _ _ hn] at hi
      by_cases a1 : i < o
      · rw [if_pos a1] at hi
        rw [if_pos (by omega)]
        simpa using hc2 i v hi
      · rw [if_neg a1] at hi
        rw [if_neg (by omega)]
        by_cases a2 : i < o + vs.length
        · rw [if_pos a2] at hi
          rw [if_pos (by omega)]
          obtain ⟨v', x, y⟩ := hv.get (i - o) v hi
          exact ⟨v', by rw [show i + p.disp - (o + p.disp) = i - o by omega]; exact x, y⟩
        · rw [if_neg a2] at hi
          rw [if_neg (by omega)]
          simpa using hc2 i v hi
    · rw [hsz, splice_length _ _ _ hn]
      exact hc3) (fun k hk => setRow_other w p.blk k _ hk) rfl rfl rfl
  exact ⟨μ, _, hrun, hr, hg⟩

def aStore (P : Program) (h : Heap) (t : TypeId) (a v : Value) : Option Heap :=
  match a with
  | .pointer (some ⟨b, o, none⟩) =>
    match h.get b with
    | some (.cells c e g) =>
      match P.info? t with
      | some i => if v.cells.toList.length = i.size ∧ o + v.cells.toList.length ≤ c.length ∧ v.cells.toList.all one = true then some (h.set b (some (.cells (splice c o v.cells.toList) e g))) else none
      | none => none
    | _ => none
  | _ => none
theorem aStore_sound (r : Rel μ h w) {t : TypeId} {a a' v v' : Value} {h' : Heap} (ha : VR μ a a') (hv : VR μ v v') (hl : aStore P h t a v = some h') : DoesU P (Instr.storeAt t a' v') id nx μ h w h' := by
  unfold aStore at hl
  split at hl
  · rename_i b o
    cases ha with
    | dat hd => simp [dat] at hd
    | ptr hp =>
      rename_i p
      split at hl
      · rename_i c e g hb
        split at hl
        · rename_i i hi
          split at hl
          · rename_i hn
            cases hl
            obtain ⟨μ', w', h1, h2, h3⟩ := storeCells_sound (P := P) (id := id) (nx := nx) r hb hp hv.cells hn.2.1 hn.2.2
            refine ⟨μ', w', ?_, h2, h3⟩
            have hsz : v'.cells.size = i.size := by
              have := hv.cells.length
              simp at this
              rw [← this]
              simpa using hn.1
            simp [Instr.storeAt, Instr.sureAddr, storeVar, sizeOf, typeInfo, hi, hsz, h1]
          · cases hl
        · cases hl
      · cases hl
  · cases hl

/-! ### new blocks -/
/-- a row of cells is made -/
theorem newRow_sound (r : Rel μ h w) {e : TypeId} {c c' : List Value} (hlt : id < 65536) (hb : μ id = none) (hh : h.get id = none) (hc : VRs μ c c') :
    ∃ μ', μ' id = some ⟨w.heap.size, 0, 0, .nilFunc⟩ ∧ Rel μ' (h.set id (some (.cells c e none))) (w.alloc (.cells c'.toArray e)) ∧ Goes id nx μ h w μ' (h.set id (some (.cells c e none))) (w.alloc (.cells c'.toArray e)) := by
  have hle := Mu.le_put (p := ⟨w.heap.size, 0, 0, .nilFunc⟩) hb
  obtain ⟨h1, h2⟩ := make r (o := .cells c e none) (ob := .cells c'.toArray e) nx 0 hlt hb hh ⟨c'.toArray, (0, 0), rfl, .zero _, fun i v hi => by
    obtain ⟨v', a, b⟩ := hc.get i v hi
    exact ⟨v', by simpa using a, b.mono hle⟩, rfl, by simpa using hc.length.symm⟩
  exact ⟨_, Mu.put_self _ _ _, h1, h2⟩

def aBox (id : Nat) (h : Heap) (e : TypeId) (v : Value) : Value × Heap := (.pointer (some ⟨id, 0, none⟩), h.set id (some (.cells v.cells.toList e none)))
theorem aBox_sound (r : Rel μ h w) {e : TypeId} {v v' : Value} (hlt : id < 65536) (hb : μ id = none) (hh : h.get id = none) (hv : VR μ v v') :
    Does P (Instr.box e v') id nx μ h w (aBox id h e v).1 (aBox id h e v).2 := by
  obtain ⟨μ', h1, h2, h3⟩ := newRow_sound (e := e) (nx := nx) r hlt hb hh hv.cells
  refine ⟨μ', .pointer (some ⟨w.heap.size, 0, none⟩), w.alloc (.cells v'.cells e), ?_, ?_, ?_, ?_⟩
  · simp [Instr.box, newVar, newRow]
  · have := VR.ptr (o := 0) h1
    simpa [aBox] using this
  · simpa [aBox] using h2
  · simpa [aBox] using h3

def aZero (P : Program) (t : TypeId) : Option Value :=
  match P.info? t with
  | some i => match i.zero with
    | some z => if z.cells.toList.all dat = true then some z else none
    | none => none
  | none => none
theorem aZero_run {t : TypeId} {z : Value} (hz : aZero P t = some z) (w : World) : (zeroValue t).run P w = .ok z w := by
  unfold aZero at hz
  split at hz
  · rename_i i hi
    split at hz
    · rename_i z' hz'
      split at hz
      · cases hz; simp [zeroValue, typeInfo, hi, hz']
      · cases hz
    · cases hz
  · cases hz
theorem aZero_dat {t : TypeId} {z : Value} (hz : aZero P t = some z) : z.cells.toList.all dat = true := by
  unfold aZero at hz
  split at hz
  · split at hz
    · split at hz
      · cases hz; assumption
      · cases hz
    · cases hz
  · cases hz
theorem VR.of_cells {z : Value} (hz : z.cells.toList.all Ge.dat = true) : VR μ z z := by
  cases z with
  | agg cs =>
    obtain ⟨cs⟩ := cs
    exact .agg (VRs.dats hz)
  | _ => exact .dat (by simpa [Value.cells] using hz)

def aAlloc (P : Program) (id : Nat) (h : Heap) (e : TypeId) : Option (Value × Heap) :=
  match aZero P e with
  | some z => some (aBox id h e z)
  | none => none
theorem aAlloc_sound (r : Rel μ h w) {e : TypeId} {v : Value} {h' : Heap} (hlt : id < 65536) (hb : μ id = none) (hh : h.get id = none) (hl : aAlloc P id h e = some (v, h')) :
    Does P (Instr.alloc e true (.tuple #[])) id nx μ h w v h' := by
  unfold aAlloc at hl
  split at hl
  · rename_i z hz
    cases hl
    obtain ⟨μ', v', w', h1, h2⟩ := aBox_sound (P := P) (e := e) (nx := nx) r hlt hb hh (VR.of_cells (μ := μ) (aZero_dat hz))
    refine ⟨μ', v', w', ?_, h2⟩
    simp [Instr.box] at h1
    simp [Instr.alloc, aZero_run hz, h1]
  · cases hl
end
end Go.Ge

/-
  Evaluation of closed calls: places, parts, slices of slices, tests, plain reckoning.
-/
namespace Go.Ge

section
variable {P : Program} {μ : Mu} {h : Heap} {w : World} {id nx : Nat}

def closed : Value → Bool
  | .agg cs => cs.toList.all dat
  | .tuple cs => cs.toList.all dat
  | .iface _ v => dat v
  | v => dat v
theorem VRs.eq_of_dats : ∀ {xs ys : List Value}, VRs μ xs ys → xs.all Ge.dat = true → ys = xs
  | _, _, .nil, _ => rfl
  | x :: _, _, .cons a b, hd => by
    simp only [List.all_cons, Bool.and_eq_true] at hd
    rw [VRs.eq_of_dats b hd.2]
    cases a with
    | dat _ => rfl
    | _ => simp [Ge.dat] at hd
theorem VR.eq_of_dat {v v' : Value} (hv : VR μ v v') (hd : Ge.dat v = true) : v' = v := by
  cases hv with
  | dat _ => rfl
  | _ => simp [Ge.dat] at hd
theorem VR.eq_of_closed {v v' : Value} (hv : VR μ v v') (hd : closed v = true) : v' = v := by
  cases hv with
  | dat _ => rfl
  | iface a => simp only [closed] at hd; rw [a.eq_of_dat hd]
  | agg a => rw [VRs.eq_of_dats a (by simpa [closed] using hd)]
  | tuple a => rw [VRs.eq_of_dats a (by simpa [closed] using hd)]
  | _ => simp [closed, Ge.dat] at hd
theorem VR.of_closed {v : Value} (hd : closed v = true) : VR μ v v := by
  cases v with
  | agg cs => obtain ⟨cs⟩ := cs; exact .agg (VRs.dats (by simpa [closed] using hd))
  | tuple cs => obtain ⟨cs⟩ := cs; exact .tuple (VRs.dats (by simpa [closed] using hd))
  | iface t v => exact .iface (.dat (by simpa [closed] using hd))
  | _ => exact .dat (by simpa [closed] using hd)

/-- a step that touches no memory -/
def pev (P : Program) {α : Type} : Sem α → Option α
  | .pure a => some a
  | .program k => pev P (k P)
  | .mark _ k => pev P k
  | _ => none
theorem pev_run {α : Type} : ∀ (s : Sem α) (a : α), pev P s = some a → ∀ w, s.run P w = .ok a w
  | .pure a, b, he, w => by simp only [pev] at he; cases he; rfl
  | .program k, b, he, w => by simp only [pev] at he; exact pev_run (k P) b he w
  | .mark m k, b, he, w => by simp only [pev] at he; exact pev_run k b he w
  | .load .., _, he, _ => by simp [pev] at he
  | .store .., _, he, _ => by simp [pev] at he
  | .new .., _, he, _ => by simp [pev] at he
  | .shape .., _, he, _ => by simp [pev] at he
  | .freeze .., _, he, _ => by simp [pev] at he
  | .frozen .., _, he, _ => by simp [pev] at he
  | .getObj .., _, he, _ => by simp [pev] at he
  | .setObj .., _, he, _ => by simp [pev] at he
  | .choose .., _, he, _ => by simp [pev] at he
  | .sys .., _, he, _ => by simp [pev] at he
  | .halt .., _, he, _ => by simp [pev] at he

/-- closed operands, a closed result -/
def aPure (P : Program) (s : Sem Value) : Option Value := match pev P s with | some v => if closed v = true then some v else none | none => none
theorem aPure_sound (r : Rel μ h w) {s : Sem Value} {v : Value} (hl : aPure P s = some v) : Does P s id nx μ h w v h := by
  unfold aPure at hl
  split at hl
  · rename_i v' hv'
    split at hl
    · rename_i hc; cases hl; exact Does.still r (pev_run s v hv' w) (VR.of_closed hc)
    · cases hl
  · cases hl

/-! ### fields -/
def aFieldAddr (P : Program) (s : TypeId) (a : Value) (k : Nat) : Option Value :=
  match a with
  | .pointer (some ⟨b, o, none⟩) =>
    match P.underlying s with
    | some (.struct fs) =>
      match fs[k]? with
      | some f => match P.info? f.type with
        | some i => if i.size = 0 then none else some (.pointer (some ⟨b, o + f.offset, none⟩))
        | none => none
      | none => none
    | _ => none
  | _ => none
theorem aFieldAddr_sound (r : Rel μ h w) {s : TypeId} {a a' v : Value} {k : Nat} (ha : VR μ a a') (hl : aFieldAddr P s a k = some v) : Does P (Instr.fieldAt s a' k) id nx μ h w v h := by
  unfold aFieldAddr at hl
  split at hl
  · rename_i b o
    cases ha with
    | dat hd => simp [dat] at hd
    | ptr hp =>
      rename_i p
      split at hl
      · rename_i fs hu
        split at hl
        · rename_i f hf
          split at hl
          · rename_i i hi
            split at hl
            · cases hl
            · rename_i hz
              cases hl
              have hv := VR.ptr (o := o + f.offset) hp
              rw [show o + f.offset + p.disp = o + p.disp + f.offset by omega] at hv
              refine Does.still r ?_ hv
              simp [Instr.fieldAt, Instr.sureAddr, run_underlying hu, hf, fieldPlace, sizeOf, typeInfo, hi, hz, add_none]
          · cases hl
        · cases hl
      · cases hl
  · cases hl

def aPart (P : Program) (t : TypeId) (cs : List Value) (off : Nat) : Option Value :=
  match isAggB P t with
  | some true => match P.info? t with
    | some i => if off + i.size ≤ cs.length then some (.agg ⟨(cs.drop off).take i.size⟩) else none
    | none => none
  | some false => cs[off]?
  | none => none
theorem aPart_run {t : TypeId} {cs cs' : List Value} {off : Nat} {v : Value} (hc : VRs μ cs cs') (hl : aPart P t cs off = some v) : ∃ v', (∀ w, (part t ⟨cs'⟩ off).run P w = .ok v' w) ∧ VR μ v v' := by
  unfold aPart at hl
  split at hl
  · rename_i hu
    split at hl
    · rename_i i hi
      split at hl
      · cases hl
        refine ⟨.agg ⟨(cs'.drop off).take i.size⟩, fun w => ?_, .agg ((hc.drop off).take i.size)⟩
        have : (⟨cs'⟩ : Array Value).extract off (off + i.size) = ⟨(cs'.drop off).take i.size⟩ := by
          apply Array.ext'
          simp [List.extract_eq_take_drop]
        simp [part, run_isAggB hu, sizeOf, typeInfo, hi, this]
      · cases hl
    · cases hl
  · rename_i hu
    obtain ⟨v', h1, h2⟩ := hc.get off v hl
    refine ⟨v', fun w => ?_, h2⟩
    have : (⟨cs'⟩ : Array Value)[off]? = some v' := by simpa using h1
    simp [part, run_isAggB hu, this]
  · cases hl

def aField (P : Program) (t : TypeId) (x : Value) (k : Nat) : Option Value :=
  match x with
  | .agg cs => match P.underlying t with
    | some (.struct fs) => match fs[k]? with
      | some f => aPart P f.type cs.toList f.offset
      | none => none
    | _ => none
  | _ => none
theorem aField_sound (r : Rel μ h w) {t : TypeId} {x x' v : Value} {k : Nat} (hx : VR μ x x') (hl : aField P t x k = some v) : Does P (Instr.field t x' k) id nx μ h w v h := by
  unfold aField at hl
  split at hl
  · cases hx with
    | dat hd => simp [dat] at hd
    | agg hc =>
      split at hl
      · rename_i fs hu
        split at hl
        · rename_i f hf
          obtain ⟨v', h1, h2⟩ := aPart_run hc hl
          refine Does.still r ?_ h2
          simp [Instr.field, run_underlying hu, hf, asAgg, h1]
        · cases hl
      · cases hl
  · cases hl

/-! ### indices -/
def aIndexAddr (P : Program) (t : TypeId) (x ix : Value) : Option Value :=
  match ix with
  | .int _ i =>
    match P.underlying t, x with
    | some (.array n e), .pointer (some ⟨b, o, none⟩) => match P.info? e with
      | some ie => if 0 ≤ i ∧ i < n then some (.pointer (some ⟨b, o + i.toNat * ie.size, none⟩)) else none
      | none => none
    | some (.slice e), .slice (some ⟨b, o, _⟩) len _ => match P.info? e with
      | some ie => if 0 ≤ i ∧ i < len then some (.pointer (some ⟨b, o + i.toNat * ie.size, none⟩)) else none
      | none => none
    | _, _ => none
  | _ => none
theorem aIndexAddr_sound (r : Rel μ h w) {t : TypeId} {x x' ix ix' v : Value} (hx : VR μ x x') (hi : VR μ ix ix') (hl : aIndexAddr P t x ix = some v) : Does P (Instr.indexAt t x' ix') id nx μ h w v h := by
  unfold aIndexAddr at hl
  split at hl
  · rename_i k i
    cases hi.eq_of_dat rfl
    split at hl
    · rename_i n e b o hu
      cases hx with
      | dat hd => simp [dat] at hd
      | ptr hp =>
        rename_i p
        split at hl
        · rename_i ie hie
          split at hl
          · rename_i hn
            cases hl
            have hv := VR.ptr (o := o + i.toNat * ie.size) hp
            rw [show o + i.toNat * ie.size + p.disp = o + p.disp + i.toNat * ie.size by omega] at hv
            refine Does.still r ?_ hv
            simp [Instr.indexAt, Instr.sureAddr, asIntOf, run_underlying hu, sizeOf, typeInfo, hie, hn, add_none]
          · cases hl
        · cases hl
    · rename_i e b o sp len cap hu
      split at hl
      · rename_i ie hie
        split at hl
        · rename_i hn
          cases hl
          cases hx with
          | dat hd => simp [dat] at hd
          | slice hp =>
            rename_i p
            have hv := VR.ptr (o := o + i.toNat * ie.size) hp
            rw [show o + i.toNat * ie.size + p.disp = o + p.disp + i.toNat * ie.size by omega] at hv
            refine Does.still r ?_ hv
            simp [Instr.indexAt, asIntOf, run_underlying hu, sizeOf, typeInfo, hie, hn, add_none]
          | sliceG hp =>
            rename_i e' p
            have hv := VR.ptr (o := o + i.toNat * ie.size) hp
            rw [show o + i.toNat * ie.size + p.disp = o + p.disp + i.toNat * ie.size by omega] at hv
            refine Does.still r ?_ hv
            simp [Instr.indexAt, asIntOf, run_underlying hu, sizeOf, typeInfo, hie, hn, add_none]
          | sliceE => omega
        · cases hl
      · cases hl
    · cases hl
  · cases hl

def aIndex (P : Program) (t : TypeId) (x ix : Value) : Option Value :=
  match ix with
  | .int _ i =>
    match P.underlying t, x with
    | some (.array n e), .agg cs => match P.info? e with
      | some ie => if 0 ≤ i ∧ i < n then aPart P e cs.toList (i.toNat * ie.size) else none
      | none => none
    | some .string, .string s => if 0 ≤ i then (match s[i.toNat]? with | some b => some (.int .u8 b.toNat) | none => none) else none
    | _, _ => none
  | _ => none
theorem aIndex_sound (r : Rel μ h w) {t : TypeId} {x x' ix ix' v : Value} (hx : VR μ x x') (hi : VR μ ix ix') (hl : aIndex P t x ix = some v) : Does P (Instr.index t x' ix') id nx μ h w v h := by
  unfold aIndex at hl
  split at hl
  · rename_i k i
    cases hi.eq_of_dat rfl
    split at hl
    · rename_i n e cs hu
      cases hx with
      | dat hd => simp [dat] at hd
      | agg hc =>
        split at hl
        · rename_i ie hie
          split at hl
          · rename_i hn
            obtain ⟨v', h1, h2⟩ := aPart_run hc hl
            refine Does.still r ?_ h2
            simp [Instr.index, asIntOf, run_underlying hu, sizeOf, typeInfo, hie, hn, h1]
          · cases hl
        · cases hl
    · rename_i s hu
      cases hx.eq_of_dat rfl
      split at hl
      · rename_i hn
        split at hl
        · rename_i b hb
          cases hl
          refine Does.still r ?_ (.dat rfl)
          simp [Instr.index, asIntOf, run_underlying hu, hn, hb]
        · cases hl
      · cases hl
    · cases hl
  · cases hl

/-! ### interfaces, tuples -/
def aMakeI (P : Program) (t : TypeId) (x : Value) : Option Value :=
  match P.underlying t with
  | some (.interface _) => none
  | some _ => some (.iface t x)
  | none => none
theorem aMakeI_sound (r : Rel μ h w) {t : TypeId} {x x' v : Value} (hx : VR μ x x') (hl : aMakeI P t x = some v) : Does P (Instr.makeInterface t x') id nx μ h w v h := by
  unfold aMakeI at hl
  split at hl
  · cases hl
  · rename_i d hd hu
    cases hl
    refine Does.still r ?_ (.iface hx)
    cases d <;> simp_all [Instr.makeInterface, run_underlying hu]
  · cases hl
def aExtract (x : Value) (k : Nat) : Option Value := match x with | .tuple vs => vs[k]? | _ => none
theorem aExtract_sound (r : Rel μ h w) {x x' v : Value} {k : Nat} (hx : VR μ x x') (hl : aExtract x k = some v) : Does P (Instr.extract x' k) id nx μ h w v h := by
  unfold aExtract at hl
  split at hl
  · cases hx with
    | dat hd => simp [dat] at hd
    | tuple hc =>
      rename_i xs xs'
      obtain ⟨v', h1, h2⟩ := hc.get k v (by simpa using hl)
      refine Does.still r ?_ h2
      have : (⟨xs'⟩ : Array Value)[k]? = some v' := by simpa using h1
      simp [Instr.extract, this]
  · cases hl
def aAssert (P : Program) (x : Value) (asserted : TypeId) (ok : Bool) : Option Value :=
  match P.underlying asserted, x with
  | some (.interface want), .iface t v => match P.info? t with
    | some i => if Instr.missingMethod want i.methods = none then some (if ok then .tuple ⟨[.iface t v, .bool true]⟩ else .iface t v) else none
    | none => none
  | some (.interface want), .nilIface => if ok then (match aZero P asserted with | some z => if dat z = true then some (.tuple ⟨[z, .bool false]⟩) else none | none => none) else none
  | some _, .nilIface => if ok then (match aZero P asserted with | some z => if closed z = true then some (.tuple ⟨[z, .bool false]⟩) else none | none => none) else none
  | some _, .iface t v => if t = asserted then some (if ok then .tuple ⟨[v, .bool true]⟩ else v) else
      if ok then (match aZero P asserted with | some z => if closed z = true then some (.tuple ⟨[z, .bool false]⟩) else none | none => none) else none
  | _, _ => none
theorem aAssert_sound (r : Rel μ h w) {x x' v : Value} {xt at_ : TypeId} {ok : Bool} (hx : VR μ x x') (hl : aAssert P x at_ ok = some v) : Does P (Instr.typeAssert x' xt at_ ok) id nx μ h w v h := by
  unfold aAssert at hl
  split at hl
  · rename_i want t y hu
    cases hx with
    | dat hd => simp [dat] at hd
    | iface hy =>
      split at hl
      · rename_i i hi
        split at hl
        · rename_i hm
          cases ok
          · cases hl
            refine Does.still r ?_ (.iface hy)
            simp [Instr.typeAssert, run_underlying hu, typeInfo, hi, hm]
          · cases hl
            refine Does.still r ?_ (.tuple (.cons (.iface hy) (.cons (.dat rfl) .nil)))
            simp [Instr.typeAssert, run_underlying hu, typeInfo, hi, hm]
        · cases hl
      · cases hl
  · rename_i want hu
    cases hx.eq_of_dat rfl
    split at hl
    · split at hl
      · rename_i z hz
        split at hl
        · rename_i hd
          cases hl
          refine Does.still r ?_ (.tuple (.cons (.dat hd) (.cons (.dat rfl) .nil)))
          simp_all [Instr.typeAssert, run_underlying hu, aZero_run hz]
        · cases hl
      · cases hl
    · cases hl
  · rename_i d hd hu
    cases hx.eq_of_dat rfl
    split at hl
    · split at hl
      · rename_i z hz
        split at hl
        · rename_i hc
          cases hl
          refine Does.still r ?_ (.tuple (.cons (VR.of_closed hc) (.cons (.dat rfl) .nil)))
          cases d <;> simp_all [Instr.typeAssert, run_underlying hu, aZero_run hz]
        · cases hl
      · cases hl
    · cases hl
  · rename_i d t y hd hu
    cases hx with
    | dat hd' => simp [dat] at hd'
    | iface hy =>
      split at hl
      · rename_i ht
        subst ht
        cases ok
        · cases hl
          refine Does.still r ?_ hy
          cases d <;> simp_all [Instr.typeAssert, run_underlying hu]
        · cases hl
          refine Does.still r ?_ (.tuple (.cons hy (.cons (.dat rfl) .nil)))
          cases d <;> simp_all [Instr.typeAssert, run_underlying hu]
      · rename_i ht
        split at hl
        · split at hl
          · rename_i z hz
            split at hl
            · rename_i hc
              cases hl
              refine Does.still r ?_ (.tuple (.cons (VR.of_closed hc) (.cons (.dat rfl) .nil)))
              cases d <;> simp_all [Instr.typeAssert, run_underlying hu, aZero_run hz]
            · cases hl
          · cases hl
        · cases hl
  · cases hl
end
end Go.Ge

/-
  Evaluation of closed calls: values that are built, slices.
-/
namespace Go.Ge

section
variable {P : Program} {μ : Mu} {h : Heap} {w : World} {id nx : Nat}

/-- parts of a literal -/
inductive PSR (μ : Mu) : List (Nat × Value) → List (Nat × Value) → Prop
  | nil : PSR μ [] []
  | cons {i : Nat} {v v' : Value} {xs xs' : List (Nat × Value)} : VR μ v v' → PSR μ xs xs' → PSR μ ((i, v) :: xs) ((i, v') :: xs')

theorem put_rel {off : Nat} : ∀ {vs vs' : List Value}, VRs μ vs vs' → ∀ (j : Nat) {a a' : Array Value}, VRs μ a.toList a'.toList →
    VRs μ ((vs.zipIdx j).foldl (fun cs (x : Value × Nat) => cs.setIfInBounds (off + x.2) x.1) a).toList ((vs'.zipIdx j).foldl (fun cs (x : Value × Nat) => cs.setIfInBounds (off + x.2) x.1) a').toList
  | _, _, .nil, j, a, a', ha => by simpa using ha
  | _, _, .cons hx hs, j, a, a', ha => by
    simp only [List.zipIdx_cons, List.foldl_cons]
    refine put_rel hs (j + 1) ?_
    simp only [Array.toList_setIfInBounds]
    exact ha.set _ hx
theorem fill_rel {place : Nat → Option (Nat × Nat)} : ∀ {ps ps' : List (Nat × Value)}, PSR μ ps ps' → ∀ {a a' c : Array Value}, VRs μ a.toList a'.toList → Instr.fill place a ps = some c →
    ∃ c', Instr.fill place a' ps' = some c' ∧ VRs μ c.toList c'.toList
  | _, _, .nil, a, a', c, ha, hf => by
    simp only [Instr.fill] at hf
    cases hf
    exact ⟨a', rfl, ha⟩
  | _, _, .cons (i := i) (v := v) (v' := v') hv hs, a, a', c, ha, hf => by
    simp only [Instr.fill] at hf ⊢
    cases hp : place i with
    | none => rw [hp] at hf; cases hf
    | some q =>
      obtain ⟨off, size⟩ := q
      rw [hp] at hf
      simp only at hf ⊢
      have e1 := hv.cells.length
      have e2 := ha.length
      simp only [Array.length_toList] at e1 e2
      rw [← e1, ← e2]
      split at hf
      · cases hf
      · rename_i hc
        rw [if_neg hc]
        refine fill_rel hs ?_ hf
        have := put_rel (off := off) hv.cells 0 ha
        simp only [← Array.foldl_toList, Array.toList_zipIdx]
        exact this

def aBuild (P : Program) (t : TypeId) (ps : List (Nat × Value)) : Option Value :=
  match P.info? t with
  | some i => match i.zero with
    | some z => if z.cells.toList.all dat = true then (match P.built t ps with | some c => some (.agg c) | none => none) else none
    | none => none
  | none => none
theorem built_rel {t : TypeId} {ps ps' : List (Nat × Value)} (hp : PSR μ ps ps') {c : Array Value} {i : TypeInfo} {z : Value} (hi : P.info? t = some i) (hz : i.zero = some z) (hd : z.cells.toList.all dat = true) (hb : P.built t ps = some c) :
    ∃ c', P.built t ps' = some c' ∧ VRs μ c.toList c'.toList := by
  unfold Program.built at hb ⊢
  rw [hi] at hb ⊢
  cases hu : P.underlying t with
  | none => rw [hu] at hb; cases hb
  | some d =>
    rw [hu] at hb
    cases d <;> simp only [hz] at hb ⊢ <;> try (cases hb; done)
    case array n e =>
      cases hie : P.info? e with
      | none => rw [hie] at hb; cases hb
      | some ie => rw [hie] at hb; exact fill_rel hp (VRs.dats hd) hb
    case struct fs =>
      cases hm : fs.toList.mapM (fun f => (P.info? f.type).map fun i => (f.offset, i.size)) with
      | none => rw [hm] at hb; cases hb
      | some places => rw [hm] at hb; exact fill_rel hp (VRs.dats hd) hb
theorem aBuild_sound (r : Rel μ h w) {t : TypeId} {ps ps' : List (Nat × Value)} {v : Value} (hp : PSR μ ps ps') (hl : aBuild P t ps = some v) : Does P (Instr.build t ps'.toArray) id nx μ h w v h := by
  unfold aBuild at hl
  split at hl
  · rename_i i hi
    split at hl
    · rename_i z hz
      split at hl
      · rename_i hd
        split at hl
        · rename_i c hc
          cases hl
          obtain ⟨c', h1, h2⟩ := built_rel hp hi hz hd hc
          exact Does.still r (run_build w t ps'.toArray c' (by simpa using h1)) (.agg h2)
        · cases hl
      · cases hl
    · cases hl
  · cases hl

/-- n cells of a zero -/
def zeros (z : Array Value) (n : Nat) : Array Value := (Array.range n).map (z[· % z.size]!)
theorem arr_range {α : Type} (f : Nat → α) (n : Nat) : (Array.range n).map f = ((List.range n).map f).toArray := Array.ext' (by simp)
theorem range0 : Array.range 0 = #[] := rfl
theorem zeros_dat {z : Array Value} (hd : z.toList.all dat = true) (n : Nat) (hz : z.size ≠ 0 ∨ n = 0) : (zeros z n).toList.all dat = true := by
  rw [List.all_eq_true] at hd ⊢
  intro x hx
  unfold zeros at hx
  simp only [Array.toList_map, List.mem_map, Array.toList_range] at hx
  obtain ⟨i, hi, rfl⟩ := hx
  have hi' : i < n := by simpa using hi
  have hlt : i % z.size < z.size := Nat.mod_lt _ (by omega)
  refine hd _ ?_
  rw [getElem!_pos z (i % z.size) hlt]
  exact Array.getElem_mem_toList hlt

def aBuildSlice (P : Program) (id : Nat) (h : Heap) (t : TypeId) (len : Nat) (ps : List (Nat × Value)) : Option (Value × Heap) :=
  match P.underlying t with
  | some (.slice e) => match P.info? e with
    | some ie =>
      if len * ie.size = 0 then (if ps.isEmpty = true then some (.slice (some ⟨id, 0, none⟩) len len, h.set id (some (.cells [] e none))) else none) else
      match ie.zero with
      | some z => if len * ie.size ≤ 2 ^ 24 ∧ z.cells.size ≠ 0 ∧ z.cells.toList.all dat = true then
          (match Instr.fill (fun i => some (i * ie.size, ie.size)) (zeros z.cells (len * ie.size)) ps with
            | some c => some (.slice (some ⟨id, 0, none⟩) len len, h.set id (some (.cells c.toList e none)))
            | none => none) else none
      | none => none
    | none => none
  | _ => none
theorem aBuildSlice_sound (r : Rel μ h w) {t : TypeId} {len : Nat} {ps ps' : List (Nat × Value)} {v : Value} {h' : Heap} (hlt : id < 65536) (hb : μ id = none) (hh : h.get id = none) (hp : PSR μ ps ps') (hl : aBuildSlice P id h t len ps = some (v, h')) :
    Does P (Instr.buildSlice t len ps'.toArray) id nx μ h w v h' := by
  unfold aBuildSlice at hl
  split at hl
  · rename_i e hu
    split at hl
    · rename_i ie hie
      split at hl
      · rename_i hz
        split at hl
        · rename_i hemp
          cases hl
          have : ps = [] := by simpa using hemp
          subst this
          cases hp
          obtain ⟨μ', h1, h2, h3⟩ := newRow_sound (e := e) (nx := nx) r hlt hb hh (.nil (μ := μ))
          refine ⟨μ', _, _, ?_, by have := VR.slice (o := 0) (len := len) (cap := len) h1; simpa using this, h2, h3⟩
          simp [Instr.buildSlice, run_underlying hu, sizeOf, typeInfo, hie, hz, Instr.fill, newRow, range0]
        · cases hl
      · rename_i hz
        split at hl
        · rename_i z hzz
          split at hl
          · rename_i hn
            split at hl
            · rename_i c hc
              cases hl
              obtain ⟨c', hc', hcr⟩ := fill_rel hp (VRs.dats (μ := μ) (zeros_dat hn.2.2 (len * ie.size) (.inl hn.2.1))) hc
              obtain ⟨μ', h1, h2, h3⟩ := newRow_sound (e := e) (nx := nx) r hlt hb hh hcr
              refine ⟨μ', _, _, run_buildSlice w t e len ps'.toArray c' ie z hu hie hzz (by omega) hz (by simpa [zeros] using hc'), by have := VR.slice (o := 0) (len := len) (cap := len) h1; simpa using this, by simpa using h2, by simpa using h3⟩
            · cases hl
          · cases hl
        · cases hl
    · cases hl
  · cases hl

def aMakeSlice (P : Program) (id : Nat) (h : Heap) (t : TypeId) (len cap : Value) : Option (Value × Heap) :=
  match P.underlying t, len, cap with
  | some (.slice e), .int _ l, .int _ c => match P.info? e with
    | some ie => match ie.zero with
      | some z => if 0 ≤ l ∧ l ≤ c ∧ c ≤ 65536 ∧ ie.bytes ≤ 65536 ∧ z.cells.size ≠ 0 ∧ z.cells.toList.all dat = true then
          some (.slice (some ⟨id, 0, none⟩) l.toNat c.toNat, h.set id (some (.cells (zeros z.cells (c.toNat * ie.size)).toList e none))) else none
      | none => none
    | none => none
  | _, _, _ => none
theorem wrap_small {n : Int} (h0 : 0 ≤ n) (h1 : n ≤ 65536) : IntKind.i64.wrap n = n := by
  have e : IntKind.i64.wrap n = if (true && decide (n % 2 ^ 64 ≥ (2 ^ 63 : Int))) = true then n % 2 ^ 64 - 2 ^ 64 else n % 2 ^ 64 := rfl
  have e2 : n % 2 ^ 64 = n := Int.emod_eq_of_lt h0 (by omega)
  rw [e, e2, if_neg]
  simp
  omega
theorem aMakeSlice_sound (r : Rel μ h w) {t : TypeId} {len cap len' cap' : Value} {v : Value} {h' : Heap} (hlt : id < 65536) (hb : μ id = none) (hh : h.get id = none) (h1 : VR μ len len') (h2 : VR μ cap cap') (hl : aMakeSlice P id h t len cap = some (v, h')) :
    Does P (Instr.makeSlice t len' cap') id nx μ h w v h' := by
  unfold aMakeSlice at hl
  split at hl
  · rename_i e k l k' c hu
    cases h1.eq_of_dat rfl
    cases h2.eq_of_dat rfl
    split at hl
    · rename_i ie hie
      split at hl
      · rename_i z hz
        split at hl
        · rename_i hn
          cases hl
          obtain ⟨n1, n2, n3, n4, n5, n6⟩ := hn
          obtain ⟨μ', h1, h2, h3⟩ := newRow_sound (e := e) (nx := nx) r hlt hb hh (VRs.dats (μ := μ) (zeros_dat n6 (c.toNat * ie.size) (.inl n5)))
          refine ⟨μ', _, _, ?_, by have := VR.slice (o := 0) (len := l.toNat) (cap := c.toNat) h1; simpa using this, h2, h3⟩
          have hb1 : (ie.bytes : Int) * c ≤ 2 ^ 48 := by
            have : (ie.bytes : Int) * c ≤ 65536 * 65536 := Int.mul_le_mul (by omega) (by omega) (by omega) (by omega)
            omega
          have t1 : (decide (c < 0) || decide (2 ^ 48 < (ie.bytes : Int) * c)) = false := by
            simp only [Bool.or_eq_false_iff, decide_eq_false_iff_not]
            omega
          have w1 := wrap_small n1 (by omega)
          have w2 := wrap_small (n := c) (by omega) (by omega)
          have c1 : ¬ (c < 0) := by omega
          have c2 : ¬ ((281474976710656 : Int) < (ie.bytes : Int) * c) := by omega
          have c3 : ¬ (l < 0) := by omega
          have c4 : ¬ (c < l) := by omega
          by_cases hc0 : c.toNat * ie.size = 0
          · simp [Instr.makeSlice, run_underlying hu, typeInfo, hie, asInt, asIntOf, w1, w2, c1, c2, c3, c4, sizeOf, hc0, newRow, zeros, range0]
          · simp [Instr.makeSlice, run_underlying hu, typeInfo, hie, asInt, asIntOf, w1, w2, c1, c2, c3, c4, sizeOf, hc0, newRow, zeros, zeroValue, hz]
            simp_all [arr_range]
        · cases hl
      · cases hl
    · cases hl
  · cases hl
end
end Go.Ge

/-
  Evaluation of closed calls: slices of slices, append, copy.
-/
namespace Go.Ge

section
variable {P : Program} {μ : Mu} {h : Heap} {w : World} {id nx : Nat}

inductive OR (μ : Mu) : Option Value → Option Value → Prop
  | none : OR μ none none
  | some {v v' : Value} : VR μ v v' → OR μ (some v) (some v')
def bnd (v : Option Value) (d : Nat) : Option Nat :=
  match v with
  | none => some d
  | some (.int _ i) => if 0 ≤ i then some i.toNat else none
  | some _ => none
theorem bnd_eq {v v' : Option Value} {d n : Nat} (hv : OR μ v v') (hb : bnd v d = some n) : v' = v := by
  cases hv with
  | none => rfl
  | some hx =>
    rename_i a b
    cases a <;> simp [bnd] at hb
    rw [hx.eq_of_dat rfl]
theorem sliceBound_run {v : Value} {d n y : Nat} {code : BoundsCode} (hb : bnd (some v) d = some n) (hn : n ≤ y) (w : World) : (Instr.sliceBound v y code).run P w = .ok n w := by
  cases v <;> simp [bnd] at hb
  obtain ⟨h0, rfl⟩ := hb
  have : ∀ i : Int, 0 ≤ i → i.toNat ≤ y → i ≤ (y : Int) := fun i a b => by omega
  simp [Instr.sliceBound, asIntOf, h0, this _ h0 hn]
theorem bounds_run {isSlice : Bool} {len cap l hh m : Nat} {lo hi mx : Option Value} (h1 : bnd mx cap = some m) (h2 : bnd hi len = some hh) (h3 : bnd lo 0 = some l) (h4 : m ≤ cap) (h5 : hh ≤ m) (h6 : l ≤ hh) (h7 : mx.isSome = true → hi.isSome = true) (w : World) :
    (Instr.sliceBounds isSlice len cap lo hi mx).run P w = .ok (l, hh, m) w := by
  cases mx with
  | none =>
    cases h1
    cases hi with
    | none =>
      cases h2
      cases lo with
      | none => cases h3; simp [Instr.sliceBounds]
      | some lo => simp [Instr.sliceBounds, sliceBound_run h3 h6]
    | some hi =>
      cases lo with
      | none => cases h3; simp [Instr.sliceBounds, sliceBound_run h2 h5]
      | some lo => simp [Instr.sliceBounds, sliceBound_run h2 h5, sliceBound_run h3 h6]
  | some mx =>
    cases hi with
    | none => simp at h7
    | some hi =>
      cases lo with
      | none => cases h3; simp [Instr.sliceBounds, sliceBound_run h1 h4, sliceBound_run h2 h5]
      | some lo => simp [Instr.sliceBounds, sliceBound_run h1 h4, sliceBound_run h2 h5, sliceBound_run h3 h6]

def aSlice (P : Program) (h : Heap) (t : TypeId) (x : Value) (lo hi mx : Option Value) : Option Value :=
  match P.underlying t, x with
  | some .string, .string s =>
    match mx, bnd hi s.size, bnd lo 0 with
    | none, some hh, some l => if hh ≤ s.size ∧ l ≤ hh then some (.string (s.extract l hh)) else none
    | _, _, _ => none
  | some (.array n e), .pointer (some ⟨b, o, none⟩) =>
    match P.info? e, bnd mx n, bnd hi n, bnd lo 0 with
    | some ie, some m, some hh, some l => if m ≤ n ∧ hh ≤ m ∧ l ≤ hh ∧ (mx.isSome = true → hi.isSome = true) then some (.slice (some ⟨b, if m = l then o else o + l * ie.size, none⟩) (hh - l) (m - l)) else none
    | _, _, _, _ => none
  | some (.slice e), .slice none len cap =>
    match P.info? e, bnd mx cap, bnd hi len, bnd lo 0 with
    | some ie, some m, some hh, some l => if m ≤ cap ∧ hh ≤ m ∧ l ≤ hh ∧ (mx.isSome = true → hi.isSome = true) then some (.slice none (hh - l) (m - l)) else none
    | _, _, _, _ => none
  | some (.slice e), .slice (some ⟨b, o, none⟩) len cap =>
    match P.info? e, bnd mx cap, bnd hi len, bnd lo 0 with
    | some ie, some m, some hh, some l => if m ≤ cap ∧ hh ≤ m ∧ l ≤ hh ∧ (mx.isSome = true → hi.isSome = true) then some (.slice (some ⟨b, if m = l then o else o + l * ie.size, none⟩) (hh - l) (m - l)) else none
    | _, _, _, _ => none
  | some (.slice e), .slice (some ⟨b, o, some k⟩) len 0 =>
    match P.info? e, h.get b with
    | some ie, some (.cells c _ (some s)) =>
      if s = ie.size ∧ k * s = o ∧ s ≠ 0 then
        match mx with
        | none => match bnd hi len, bnd lo 0 with
          | some hh, some l =>
            if l ≤ hh ∧ o + hh * s ≤ c.length then
              (if o + l * s < c.length then some (.slice (some ⟨b, o + l * s, some (k + l)⟩) (hh - l) 0) else if hh = l then some (.slice (some ⟨0, 0, some 0⟩) 0 1) else none)
            else none
          | _, _ => none
        | some m' => match bnd (some m') 0, bnd hi 0, bnd lo 0 with
          | some m, some hh, some l => if l ≤ hh ∧ hh ≤ m ∧ o + m * s ≤ c.length ∧ hi.isSome = true then some (.slice (some ⟨b, if m = l then o else o + l * s, none⟩) (hh - l) (m - l)) else none
          | _, _, _ => none
      else none
    | _, _ => none
  | _, _ => none

theorem cap_ge {p : Place} {s k m n c : Nat} (hg : GrowOk (some s) p n c) (hs : s ≠ 0) (hc : k * s + m * s ≤ c) : k + m ≤ p.cap := by
  obtain ⟨_, hg⟩ : n = p.disp + p.cap * s ∧ c ≤ p.cap * s := hg
  have : (k + m) * s ≤ p.cap * s := by rw [Nat.add_mul]; omega
  exact Nat.le_of_mul_le_mul_right this (by omega)
theorem cap_gt {p : Place} {s k m n c : Nat} (hg : GrowOk (some s) p n c) (hs : s ≠ 0) (hc : k * s + m * s < c) : k + m < p.cap := by
  obtain ⟨_, hg⟩ : n = p.disp + p.cap * s ∧ c ≤ p.cap * s := hg
  have : (k + m) * s < p.cap * s := by rw [Nat.add_mul]; omega
  exact Nat.lt_of_mul_lt_mul_right this

theorem aSlice_sound (r : Rel μ h w) {t : TypeId} {x x' v : Value} {lo lo' hi hi' mx mx' : Option Value} (hx : VR μ x x') (hlo : OR μ lo lo') (hhi : OR μ hi hi') (hmx : OR μ mx mx') (hl : aSlice P h t x lo hi mx = some v) :
    Does P (Instr.sliceAt t x' lo' hi' mx') id nx μ h w v h := by
  unfold aSlice at hl
  split at hl
  · rename_i s hu
    split at hl
    · rename_i hh l e1 e2 e3
      cases hmx
      have q1 := bnd_eq hhi e2
      have q2 := bnd_eq hlo e3
      subst q1 q2
      cases hx.eq_of_dat rfl
      split at hl
      · rename_i hn
        cases hl
        refine Does.still r ?_ (.dat rfl)
        have hb := bounds_run (P := P) (isSlice := false) (len := s.size) (cap := s.size) (mx := none) rfl e2 e3 (Nat.le_refl _) hn.1 hn.2 (by simp) w
        simp [Instr.sliceAt, Instr.slice, run_underlying hu, hb]
      · cases hl
    · cases hl
  · rename_i n e b o hu
    split at hl
    · rename_i ie m hh l hie e1 e2 e3
      have q0 := bnd_eq hmx e1
      have q1 := bnd_eq hhi e2
      have q2 := bnd_eq hlo e3
      subst q0 q1 q2
      split at hl
      · rename_i hn
        cases hl
        cases hx with
        | dat hd => simp [dat] at hd
        | ptr hp =>
          rename_i p
          have hb := bounds_run (P := P) (isSlice := false) (len := n) (cap := n) e1 e2 e3 hn.1 hn.2.1 hn.2.2.1 hn.2.2.2 w
          refine Does.still r ?_ (.slice hp)
          split
          · rename_i hm; simp [Instr.sliceAt, Instr.sureAddr, run_underlying hu, hb, sizeOf, typeInfo, hie, hm]
          · rename_i hm
            simp [Instr.sliceAt, Instr.sureAddr, run_underlying hu, hb, sizeOf, typeInfo, hie, hm, add_none]
            omega
      · cases hl
    · cases hl
  · rename_i e len cap hu
    split at hl
    · rename_i ie m hh l hie e1 e2 e3
      have q0 := bnd_eq hmx e1
      have q1 := bnd_eq hhi e2
      have q2 := bnd_eq hlo e3
      subst q0 q1 q2
      cases hx.eq_of_dat rfl
      split at hl
      · rename_i hn
        cases hl
        have hb := bounds_run (P := P) (isSlice := true) (len := len) (cap := cap) e1 e2 e3 hn.1 hn.2.1 hn.2.2.1 hn.2.2.2 w
        refine Does.still r ?_ (.dat rfl)
        simp [Instr.sliceAt, Instr.slice, run_underlying hu, hb, sizeOf, typeInfo, hie]
      · cases hl
    · cases hl
  · rename_i e b o len cap hu
    split at hl
    · rename_i ie m hh l hie e1 e2 e3
      have q0 := bnd_eq hmx e1
      have q1 := bnd_eq hhi e2
      have q2 := bnd_eq hlo e3
      subst q0 q1 q2
      split at hl
      · rename_i hn
        cases hl
        cases hx with
        | dat hd => simp [dat] at hd
        | slice hp =>
          rename_i p
          have hb := bounds_run (P := P) (isSlice := true) (len := len) (cap := cap) e1 e2 e3 hn.1 hn.2.1 hn.2.2.1 hn.2.2.2 w
          refine Does.still r ?_ (.slice hp)
          split
          · rename_i hm; simp [Instr.sliceAt, Instr.slice, run_underlying hu, hb, sizeOf, typeInfo, hie, hm]
          · rename_i hm
            simp [Instr.sliceAt, Instr.slice, run_underlying hu, hb, sizeOf, typeInfo, hie, hm, add_none]
            omega
      · cases hl
    · cases hl
  · rename_i e b o k len hu
    split at hl
    · rename_i ie c ty s hie hb
      split at hl
      · rename_i hs
        obtain ⟨hs1, hs2, hs0⟩ := hs
        cases hx with
        | dat hd => simp [dat] at hd
        | sliceG hp =>
          rename_i p
          subst hs1 hs2
          obtain ⟨c', _, _, _, _, hg⟩ := r.cells hb hp
          split at hl
          · cases hmx
            split at hl
            · rename_i hh l e2 e3
              have q1 := bnd_eq hhi e2
              have q2 := bnd_eq hlo e3
              subst q1 q2
              split at hl
              · rename_i hn
                have hcap := cap_ge hg hs0 hn.2
                have hb := bounds_run (P := P) (isSlice := true) (len := len) (cap := p.cap - k) (mx := none) rfl e2 e3 (Nat.le_refl _) (by omega) hn.1 (by simp) w
                split at hl
                · rename_i hlt
                  cases hl
                  have hgt := cap_gt hg hs0 hlt
                  have hv := VR.sliceG (o := k * ie.size + l * ie.size) (e := k + l) (len := hh - l) hp
                  rw [show k * ie.size + l * ie.size + p.disp = k * ie.size + p.disp + l * ie.size by omega, show p.cap - (k + l) = p.cap - k - l by omega] at hv
                  refine Does.still r ?_ hv
                  have : ¬ p.cap - k = l := by omega
                  simp [Instr.sliceAt, Instr.slice, run_underlying hu, hb, sizeOf, typeInfo, hie, this, add_none]
                · rename_i hge
                  split at hl
                  · rename_i hq
                    subst hq
                    cases hl
                    refine Does.still r ?_ (.sliceE (a := if p.cap - k = hh then ⟨p.blk, k * ie.size + p.disp, none⟩ else ⟨p.blk, k * ie.size + p.disp + hh * ie.size, none⟩) (cap := p.cap - k - hh))
                    by_cases hq : p.cap - k = hh
                    · rw [hq] at hb
                      simp [Instr.sliceAt, Instr.slice, run_underlying hu, hb, sizeOf, typeInfo, hie, hq]
                    · simp [Instr.sliceAt, Instr.slice, run_underlying hu, hb, sizeOf, typeInfo, hie, hq, add_none]
                  · cases hl
              · cases hl
            · cases hl
          · rename_i m'
            split at hl
            · rename_i m hh l e1 e2 e3
              have q0 := bnd_eq hmx e1
              have q1 := bnd_eq hhi e2
              have q2 := bnd_eq hlo e3
              subst q0 q1 q2
              split at hl
              · rename_i hn
                cases hl
                have hcap := cap_ge hg hs0 hn.2.2.1
                have e2' : bnd hi' len = some hh := by
                  cases hi' with
                  | none => simp at hn
                  | some z => exact (show bnd (some z) len = bnd (some z) 0 by cases z <;> rfl).trans e2
                have e1' : bnd (some m') (p.cap - k) = some m := (show bnd (some m') (p.cap - k) = bnd (some m') 0 by cases m' <;> rfl).trans e1
                have hb := bounds_run (P := P) (isSlice := true) (len := len) (cap := p.cap - k) e1' e2' e3 (by omega) hn.2.1 hn.1 (fun _ => hn.2.2.2) w
                refine Does.still r ?_ (.slice hp)
                split
                · rename_i hm; simp [Instr.sliceAt, Instr.slice, run_underlying hu, hb, sizeOf, typeInfo, hie, hm]
                · rename_i hm
                  simp [Instr.sliceAt, Instr.slice, run_underlying hu, hb, sizeOf, typeInfo, hie, hm, add_none]
                  omega
              · cases hl
            · cases hl
      · cases hl
    · cases hl
  · cases hl
end
end Go.Ge

/-
  Evaluation of closed calls: append, copy, len.
-/
namespace Go.Ge

section
variable {P : Program} {μ : Mu} {h : Heap} {w : World} {id nx : Nat}

def aLen : Value → Option Nat
  | .slice _ n _ => some n
  | .string s => some s.size
  | _ => none
theorem aLen_run {x x' : Value} {n : Nat} (hx : VR μ x x') (hl : aLen x = some n) (w : World) : (Builtin.lenOf x').run P w = .ok n w := by
  cases hx with
  | dat hd => cases x <;> simp [aLen, dat] at hl hd <;> subst hl <;> simp [Builtin.lenOf]
  | slice _ => simp [aLen] at hl; subst hl; simp [Builtin.lenOf]
  | sliceG _ => simp [aLen] at hl; subst hl; simp [Builtin.lenOf]
  | sliceE => simp [aLen] at hl; subst hl; simp [Builtin.lenOf]
  | _ => simp [aLen] at hl

def aCells (h : Heap) (size n : Nat) (x : Value) : Option (List Value) :=
  match x with
  | .slice (some ⟨b, o, sp⟩) _ cap => if n * size = 0 then some [] else
    match h.get b with
    | some (.cells c _ _) => if (sp = none ∨ cap = 0) ∧ o + n * size ≤ c.length then some ((c.drop o).take (n * size)) else none
    | _ => none
  | .slice none _ _ => some []
  | .string s => some ((s.extract 0 n).data.map fun b => .int .u8 b.toNat).toList
  | _ => none
theorem dats_bytes (s : ByteArray) : (s.data.map fun b => (.int .u8 b.toNat : Value)).toList.all dat = true := by
  rw [List.all_eq_true]
  intro x hx
  simp only [Array.toList_map, List.mem_map] at hx
  obtain ⟨b, _, rfl⟩ := hx
  rfl
theorem aCells_run (r : Rel μ h w) {size n : Nat} {x x' : Value} {cs : List Value} (hx : VR μ x x') (hl : aCells h size n x = some cs) :
    ∃ cs' : List Value, (Builtin.firstCells size n x').run P w = .ok cs'.toArray w ∧ VRs μ cs cs' := by
  have hsome : ∀ (a : Addr) (len cap : Nat), n * size = 0 → (Builtin.firstCells size n (.slice (some a) len cap)).run P w = .ok (([] : List Value).toArray) w := by
    intro a len cap hz
    simp [Builtin.firstCells, hz, loadCells, loadCellsFrom]
  unfold aCells at hl
  split at hl
  · rename_i b o sp len cap
    split at hl
    · rename_i hz
      cases hl
      cases hx with
      | dat hd => simp [dat] at hd
      | slice hp => exact ⟨[], hsome _ _ _ hz, .nil⟩
      | sliceG hp => exact ⟨[], hsome _ _ _ hz, .nil⟩
      | sliceE => exact ⟨[], hsome _ _ _ hz, .nil⟩
    · rename_i hz
      split at hl
      · rename_i c e g hb
        split at hl
        · rename_i hn
          cases hl
          have main : ∀ (p : Place), μ b = some p → ∃ cs' : List Value, (loadCells ⟨p.blk, o + p.disp, none⟩ (n * size)).run P w = .ok cs'.toArray w ∧ VRs μ ((c.drop o).take (n * size)) cs' := by
            intro p hp
            obtain ⟨cs', hcl, hcr, hcc⟩ := r.span hb hp o (n * size) hn.2
            have := run_loadCells_list (P := P) w ⟨p.blk, o + p.disp, none⟩ cs' hcc
            rw [hcl] at this
            exact ⟨cs', this, hcr⟩
          cases hx with
          | dat hd => simp [dat] at hd
          | slice hp => exact main _ hp
          | sliceG hp => exact main _ hp
          | sliceE => simp at hn
        · cases hl
      · cases hl
  · cases hl
    cases hx.eq_of_dat rfl
    exact ⟨[], rfl, .nil⟩
  · rename_i s
    cases hl
    cases hx.eq_of_dat rfl
    exact ⟨((s.extract 0 n).data.map fun b => (.int .u8 b.toNat : Value)).toList, by show Result.ok _ _ = _; rw [Array.toArray_toList], VRs.dats (dats_bytes _)⟩
  · cases hl

/-! ### append -/
theorem growBy_le (m : Nat) : ∀ (r c : Nat), Builtin.growBy m r c ≤ max c (m + (m + 768) / 4)
  | 0, c => by simp only [Builtin.growBy]; omega
  | r + 1, c => by
    simp only [Builtin.growBy]
    split
    · omega
    · have := growBy_le m r (c + (c + 768) / 4)
      omega
theorem nextcap_le {need cap : Nat} (hn : cap < need) : Builtin.nextslicecap need cap ≤ 2 * need + 768 := by
  unfold Builtin.nextslicecap
  split
  · omega
  · split
    · omega
    · have := growBy_le need 4 cap
      omega
theorem zeroCells_size (z : Array Value) (n : Nat) : (Builtin.zeroCells z n).size = n * z.size := by simp [Builtin.zeroCells]

def isInt : TypeDesc → Bool | .slice _ | .string => false | _ => true
theorem imax : IntKind.i64.max = 9223372036854775807 := by decide
set_option maxHeartbeats 4000000 in
/-- append makes a new row -/
theorem append_grow (r : Rel μ h w) {st xt e : TypeId} {xd : TypeDesc} {ie : TypeInfo} {z s s' x x' : Value} {base : Option Addr} {len cap n : Nat} {old new : List Value} {ty : TypeId}
    (hs' : s' = .slice base len cap) (hst : P.underlying st = some (.slice e)) (hxt : P.underlying xt = some xd) (hxd : isInt xd = false) (hie : P.info? e = some ie) (hz : aZero P e = some z) (hzs : z.cells.size = ie.size)
    (hx : VR μ x x') (hn : aLen x = some n) (hcap : cap < len + n) (hsm : len + n ≤ 65536) (hby : ie.bytes ≤ 65536)
    (hos : VR μ s s') (ho : aCells h ie.size len s = some old) (hol : old.length = len * ie.size) (hw : aCells h ie.size n x = some new) (hnl : new.length = n * ie.size) :
    ∃ (newCap : Nat) (c' : List Value), len + n ≤ newCap ∧ c'.length = newCap * ie.size ∧ VRs μ (old ++ new) (c'.take ((len + n) * ie.size)) ∧
      (Builtin.append_ #[st, xt] ty #[s', x']).run P w = .ok (.slice (some ⟨w.heap.size, 0, none⟩) (len + n) newCap) (w.drew.alloc (.cells c'.toArray e)) := by
  subst hs'
  have r' : Rel μ h w.drew := r.drew _
  obtain ⟨old', ho1, ho2⟩ := aCells_run (P := P) r' hos ho
  obtain ⟨new', hw1, hw2⟩ := aCells_run (P := P) r' hx hw
  have t := w.tape w.drawn (.appendCap (len + n) cap e)
  let newCap := (Question.appendCap (len + n) cap e).cut (w.tape w.drawn (.appendCap (len + n) cap e))
  have hnc : len + n ≤ newCap := by
    show len + n ≤ (len + n) + _ % _
    omega
  have hsz : (len + n) * ie.size = len * ie.size + n * ie.size := Nat.add_mul _ _ _
  have e1 := ho2.length
  have e2 := hw2.length
  refine ⟨newCap, old' ++ new' ++ (Builtin.zeroCells z.cells (newCap - (len + n))).toList, hnc, ?_, ?_, ?_⟩
  · simp only [List.length_append, Array.length_toList, zeroCells_size, hzs]
    have : newCap * ie.size = (len + n) * ie.size + (newCap - (len + n)) * ie.size := by rw [← Nat.add_mul]; congr 1; omega
    omega
  · rw [List.take_append_of_le_length (by simp; omega), List.take_of_length_le (by simp; omega)]
    exact ho2.append hw2
  · have hlen := aLen_run (P := P) hx hn w
    have c1 : ¬ (len + n ≤ cap) := by omega
    have c2 : ¬ ((9223372036854775807 : Int) < (len : Int) + n ∧ ie.bytes = 0) := by
      rintro ⟨a, _⟩
      omega
    have c3 : ¬ (Builtin.nextslicecap (len + n) cap * ie.bytes > 2 ^ 48) := by
      have h1 := nextcap_le hcap
      have : Builtin.nextslicecap (len + n) cap * ie.bytes ≤ (2 * (len + n) + 768) * 65536 := Nat.mul_le_mul h1 hby
      omega
    have hq : (Question.appendCap (len + n) cap e).forced = false := rfl
    cases xd with
    | slice e' => simp [Builtin.append_, run_underlying hst, run_underlying hxt, sizeOf, typeInfo, hie, hlen, c1, c2, c3, hq, ho1, hw1, aZero_run hz, newRow, newCap, imax]; congr 2; exact Array.ext' (by simp)
    | string => simp [Builtin.append_, run_underlying hst, run_underlying hxt, sizeOf, typeInfo, hie, hlen, c1, c2, c3, hq, ho1, hw1, aZero_run hz, newRow, newCap, imax]; congr 2; exact Array.ext' (by simp)
    | _ => simp [isInt] at hxd

set_option maxHeartbeats 4000000 in
/-- append fits in the row -/
theorem append_fits {st xt e : TypeId} {xd : TypeDesc} {ie : TypeInfo} {x' : Value} {a : Addr} {len cap n : Nat} {new' : List Value} {w' : World} {ty : TypeId}
    (hst : P.underlying st = some (.slice e)) (hxt : P.underlying xt = some xd) (hxd : isInt xd = false) (hie : P.info? e = some ie)
    (hn : (Builtin.lenOf x').run P w = .ok n w) (hcap : len + n ≤ cap) (hw : (Builtin.firstCells ie.size n x').run P w = .ok new'.toArray w) (hs : (storeCells (a.add (len * ie.size)) new').run P w = .ok () w') :
    (Builtin.append_ #[st, xt] ty #[.slice (some a) len cap, x']).run P w = .ok (.slice (some a) (len + n) cap) w' := by
  cases xd with
  | slice e' => simp [Builtin.append_, run_underlying hst, run_underlying hxt, sizeOf, typeInfo, hie, hn, hcap, hw, hs]
  | string => simp [Builtin.append_, run_underlying hst, run_underlying hxt, sizeOf, typeInfo, hie, hn, hcap, hw, hs]
  | _ => simp [isInt] at hxd
set_option maxHeartbeats 4000000 in
theorem append_none {st xt e : TypeId} {xd : TypeDesc} {ie : TypeInfo} {x' : Value} {new' : List Value} {ty : TypeId}
    (hst : P.underlying st = some (.slice e)) (hxt : P.underlying xt = some xd) (hxd : isInt xd = false) (hie : P.info? e = some ie)
    (hn : (Builtin.lenOf x').run P w = .ok 0 w) (hw : (Builtin.firstCells ie.size 0 x').run P w = .ok new'.toArray w) :
    (Builtin.append_ #[st, xt] ty #[.slice none 0 0, x']).run P w = .ok (.slice none 0 0) w := by
  cases xd with
  | slice e' => simp [Builtin.append_, run_underlying hst, run_underlying hxt, sizeOf, typeInfo, hie, hn, hw]
  | string => simp [Builtin.append_, run_underlying hst, run_underlying hxt, sizeOf, typeInfo, hie, hn, hw]
  | _ => simp [isInt] at hxd

/-- a row that grew lies alone -/
theorem made_row {w₁ : World} (r : Rel μ h w₁) (e : TypeId) {c c' : List Value} {s m : Nat} (hlt : id < 65536) (hb : μ id = none) (hh : h.get id = none) (hl : c'.length = m * s) (hc : c.length ≤ m * s) (hv : VRs μ c (c'.take c.length)) (fz : Nat × Nat := (0, 0)) (hz : FzOk fz c'.length := by exact .zero _) :
    ∃ μ', μ' id = some ⟨w₁.heap.size, 0, m, .nilFunc⟩ ∧ Rel μ' (h.set id (some (.cells c e (some s)))) (w₁.alloc (.cells c'.toArray e fz)) ∧ Goes id nx μ h w₁ μ' (h.set id (some (.cells c e (some s)))) (w₁.alloc (.cells c'.toArray e fz)) := by
  have hle := Mu.le_put (p := ⟨w₁.heap.size, 0, m, .nilFunc⟩) hb
  obtain ⟨h1, h2⟩ := make r (o := .cells c e (some s)) (ob := .cells c'.toArray e fz) nx m hlt hb hh ⟨c'.toArray, fz, rfl, by simpa using hz, fun i v hi => by
    obtain ⟨v', a, b⟩ := hv.get i v hi
    refine ⟨v', ?_, b.mono hle⟩
    have hi' := (List.getElem?_eq_some_iff.1 hi).1
    rw [List.getElem?_take_of_lt hi'] at a
    simpa using a, by simpa using hl, hc⟩
  exact ⟨_, Mu.put_self _ _ _, h1, h2⟩

/-- a block is forgotten -/
theorem Rel.forget (r : Rel μ h w) (b : Nat) (hlt : b < 65536) : Rel μ (h.set b none) w := by
  have f : ∀ i o, (h.set b none).get i = some o → h.get i = some o := fun i o hi => by
    rw [Heap.get_set _ _ _ _ hlt] at hi
    split at hi
    · cases hi
    · exact hi
  exact ⟨fun i o hi => r.live i o (f i o hi), fun i j o o' p q hi hj => r.inj i j o o' p q (f i o hi) (f j o' hj)⟩
theorem Goes.forget (r : Rel μ h w) (b : Nat) (hlt : b < 65536) (hnt : ∀ o, h.get b = some o → o.isTab = false) : Goes id nx μ h w μ (h.set b none) w := by
  have f : ∀ i, h.get i = none → (h.set b none).get i = none := fun i hi => by
    rw [Heap.get_set _ _ _ _ hlt]
    split
    · rfl
    · exact hi
  refine ⟨Mu.le_refl _, fun _ _ e => .inl e, fun i _ _ => ⟨rfl, f i⟩, fun j _ _ => f j, fun j o hj ht => ?_, fun _ _ _ => rfl, Nat.le_refl _, rfl, rfl, rfl⟩
  rw [Heap.get_set _ _ _ _ hlt]
  split
  · rename_i e; subst e; rw [hnt o hj] at ht; cases ht
  · exact hj
theorem Heap.get_lt {b : Nat} {o : AObj} (hb : h.get b = some o) : b < 65536 := by
  unfold Heap.get at hb
  split at hb
  · assumption
  · cases hb

/-- a row goes on in place under a new name -/
theorem grown_row (r : Rel μ h w) {b : Nat} {c : List Value} {e : TypeId} {s k : Nat} {p : Place} (hb : h.get b = some (.cells c e (some s))) (hp : μ b = some p) (hlt : id < 65536) (hid : μ id = none) (hh : h.get id = none)
    {new new' : List Value} (hn : VRs μ new new') (hko : k * s ≤ c.length) (hfit : c.length + new.length ≤ p.cap * s) (hone : new.all one = true) :
    ∃ μ' w', μ' id = some ⟨p.blk, p.disp + k * s, p.cap - k, .nilFunc⟩ ∧ (storeCells ⟨p.blk, c.length + p.disp, none⟩ new').run P w = .ok () w' ∧
      Rel μ' ((h.set b none).set id (some (.cells (c.drop (k * s) ++ new) e (some s)))) w' ∧ Goes id nx μ h w μ' ((h.set b none).set id (some (.cells (c.drop (k * s) ++ new) e (some s)))) w' := by
  obtain ⟨c', fz, hc1, hz, hc2, hg1, hg2⟩ : ∃ (c' : Array Value) (fz : Nat × Nat), w.heap[p.blk]? = some (.cells c' e fz) ∧ FzOk fz c'.size ∧ (∀ (i : Nat) (v : Value), c[i]? = some v → ∃ v', c'[i + p.disp]? = some v' ∧ VR μ v v') ∧ c'.size = p.disp + p.cap * s ∧ c.length ≤ p.cap * s := r.cells hb hp
  have hblt := Heap.get_lt hb
  have hbid : b ≠ id := by rintro rfl; rw [hb] at hh; cases hh
  have hnl := hn.length
  have hfit' : c.length + p.disp + 0 + new'.length ≤ c'.size := by omega
  have hone' : ∀ v ∈ new', v.oneCell' = true := by
    intro v hm
    obtain ⟨i, hi, rfl⟩ := List.mem_iff_getElem.1 hm
    obtain ⟨v', a, q⟩ := hn.get i new[i] (List.getElem?_eq_getElem (by omega))
    rw [List.getElem?_eq_getElem hi] at a
    cases a
    exact q.one (List.all_eq_true.1 hone _ (List.getElem_mem _))
  have hrun := run_storeCells_fz (P := P) p.blk (c.length + p.disp) e fz new' 0 c' w hc1 hz hfit' hone'
  simp only [Nat.add_zero] at hrun
  have hle := Mu.le_put (p := ⟨p.blk, p.disp + k * s, p.cap - k, .nilFunc⟩) hid
  have hkc : k * s + (p.cap - k) * s = p.cap * s ∨ s = 0 := by
    rcases Nat.eq_zero_or_pos s with hs | hs
    · exact .inr hs
    · have : k ≤ p.cap := Nat.le_of_mul_le_mul_right (by omega : k * s ≤ p.cap * s) hs
      refine .inl ?_
      rw [← Nat.add_mul]
      congr 1
      omega
  have hsp : splice c'.toList (c.length + p.disp) new' = c'.toList.take (c.length + p.disp) ++ new' ++ c'.toList.drop (c.length + p.disp + new'.length) := rfl
  have hother : ∀ q, q ≠ p.blk → (w.setRow p.blk (splice c'.toList (c.length + p.disp) new').toArray).heap[q]? = w.heap[q]? := fun q hq => setRow_other w p.blk q _ hq
  have hget : ∀ i, ((h.set b none).set id (some (.cells (c.drop (k * s) ++ new) e (some s)))).get i = if i = id then some (.cells (c.drop (k * s) ++ new) e (some s)) else if i = b then none else h.get i := fun i => by
    rw [Heap.get_set _ _ _ _ hlt, Heap.get_set _ _ _ _ hblt]
  refine ⟨μ.put id ⟨p.blk, p.disp + k * s, p.cap - k, .nilFunc⟩, w.setRow p.blk (splice c'.toList (c.length + p.disp) new').toArray, Mu.put_self _ _ _, hrun, ⟨fun i o hi => ?_, fun i j o₁ o₂ q₁ q₂ hi hj hq₁ hq₂ e' => ?_⟩, hle, fun i q hq => ?_, fun i _ hne => ⟨by simp [Mu.put, hne], fun h0 => ?_⟩, fun j q hq h0 => ?_, fun j q hj ht => ?_, fun q hq1 hf => hother q fun e' => hf b _ p hb rfl hp e'.symm, by simp, rfl, rfl, rfl⟩
  · rw [hget] at hi
    split at hi
    · rename_i e'; subst e'; cases hi
      refine ⟨_, Mu.put_self _ _ _, (splice c'.toList (c.length + p.disp) new').toArray, fz, setRow_heap w p.blk c' _ e fz hc1, by
          have := splice_length c'.toList (c.length + p.disp) new' (by simpa using hfit')
          simpa [this] using hz, fun i v hi => ?_, ?_, ?_⟩
      · rw [List.getElem?_toArray, splice_get _ _ _ (by simpa using hfit')]
        by_cases a1 : i < c.length - k * s
        · rw [List.getElem?_append_left (by simpa using a1), List.getElem?_drop] at hi
          obtain ⟨v', x, y⟩ := hc2 _ v hi
          refine ⟨v', ?_, y.mono hle⟩
          rw [if_pos (by dsimp only; omega)]
          simpa [show i + (p.disp + k * s) = k * s + i + p.disp by omega] using x
        · rw [List.getElem?_append_right (by simpa using Nat.le_of_not_lt a1), List.length_drop] at hi
          obtain ⟨v', x, y⟩ := hn.get _ v hi
          have := (List.getElem?_eq_some_iff.1 hi).1
          refine ⟨v', ?_, y.mono hle⟩
          rw [if_neg (by dsimp only; omega), if_pos (by dsimp only; omega)]
          rw [← x]
          congr 1
          dsimp only
          omega
      · have := splice_length c'.toList (c.length + p.disp) new' (by simpa using hfit')
        simp only [List.size_toArray, this, Array.length_toList]
        rcases hkc with hkc | hkc
        · omega
        · subst hkc; simp at *; omega
      · simp only [List.length_append, List.length_drop]
        rcases hkc with hkc | hkc
        · omega
        · subst hkc; simp at *; omega
    · rename_i e'
      split at hi
      · cases hi
      · rename_i e2
        obtain ⟨q, hq, hr⟩ := r.live i o hi
        refine ⟨q, hle _ _ hq, ?_⟩
        rw [hother q.blk fun e3 => e2 (r.inj i b o _ q p hi hb hq hp e3)]
        exact hr.mono hle
  · rw [hget] at hi hj
    unfold Mu.put at hq₁ hq₂
    split at hi <;> split at hj
    · omega
    · rename_i e1 e2
      rw [if_pos e1] at hq₁; rw [if_neg e2] at hq₂
      cases hq₁
      split at hj
      · cases hj
      · rename_i e3
        exact absurd (r.inj j b _ _ q₂ p hj hb hq₂ hp e'.symm) e3
    · rename_i e1 e2
      rw [if_neg e1] at hq₁; rw [if_pos e2] at hq₂
      cases hq₂
      split at hi
      · cases hi
      · rename_i e3
        exact absurd (r.inj i b _ _ q₁ p hi hb hq₁ hp e') e3
    · rename_i e1 e2
      rw [if_neg e1] at hq₁; rw [if_neg e2] at hq₂
      split at hi
      · cases hi
      · split at hj
        · cases hj
        · exact r.inj i j _ _ q₁ q₂ hi hj hq₁ hq₂ e'
  · unfold Mu.put at hq
    split at hq
    · cases hq; exact .inr (.inr fun hf => hf b _ p hb rfl hp rfl)
    · exact .inl hq
  · rw [hget, if_neg hne]
    split
    · rfl
    · exact h0
  · rw [hget]
    split
    · rename_i e'; subst e'; rw [hid] at hq; cases hq
    · split
      · rfl
      · exact h0
  · rw [hget]
    split
    · rename_i e'; subst e'; rw [hh] at hj; cases hj
    · split
      · rename_i e'; subst e'; rw [hb] at hj; cases hj; cases ht
      · exact hj
end
end Go.Ge

/-
  Evaluation of closed calls: append, copy, len, as operations.
-/
namespace Go.Ge

section
variable {P : Program} {μ : Mu} {h : Heap} {w : World} {id nx : Nat}

/-- a new row for old and new cells -/
def aGrow (P : Program) (id : Nat) (h : Heap) (e : TypeId) (ie : TypeInfo) (s x : Value) (len cap n : Nat) : Option (Value × Heap) :=
  match aZero P e, aCells h ie.size len s, aCells h ie.size n x with
  | some z, some old, some new =>
    if z.cells.size = ie.size ∧ cap < len + n ∧ len + n ≤ 65536 ∧ ie.bytes ≤ 65536 ∧ old.length = len * ie.size ∧ new.length = n * ie.size then
      some (.slice (some ⟨id, 0, some 0⟩) (len + n) 0, h.set id (some (.cells (old ++ new) e (some ie.size))))
    else none
  | _, _, _ => none
theorem aGrow_sound (r : Rel μ h w) {st xt e : TypeId} {xd : TypeDesc} {ie : TypeInfo} {s s' x x' v : Value} {base : Option Addr} {len cap n : Nat} {ty : TypeId} {h' : Heap} (hlt : id < 65536) (hid : μ id = none) (hh : h.get id = none)
    (hs' : s' = .slice base len cap) (hst : P.underlying st = some (.slice e)) (hxt : P.underlying xt = some xd) (hxd : isInt xd = false) (hie : P.info? e = some ie)
    (hx : VR μ x x') (hn : aLen x = some n) (hos : VR μ s s') (hl : aGrow P id h e ie s x len cap n = some (v, h')) :
    Does P (Builtin.append_ #[st, xt] ty #[s', x']) id nx μ h w v h' := by
  unfold aGrow at hl
  split at hl
  · rename_i z old new hz ho hw
    split at hl
    · rename_i hc
      cases hl
      obtain ⟨k1, k2, k3, k4, k5, k6⟩ := hc
      obtain ⟨m, c', q1, q2, q3, q4⟩ := append_grow r (ty := ty) hs' hst hxt hxd hie hz k1 hx hn k2 k3 k4 hos ho k5 hw k6
      have hlen : (old ++ new).length = (len + n) * ie.size := by rw [List.length_append, k5, k6, Nat.add_mul]
      obtain ⟨μ', p1, p2, p3⟩ := made_row (nx := nx) (r.drew (w.drawn + 1)) e (c := old ++ new) (c' := c') (s := ie.size) (m := m) hlt hid hh q2 (by rw [hlen]; exact Nat.mul_le_mul_right _ q1) (by rw [hlen]; exact q3)
      refine ⟨μ', _, _, q4, ?_, p2, (Goes.drew (Goes.refl _ _ _ _ _) _).trans p3⟩
      have := VR.sliceG (o := 0) (e := 0) (len := len + n) p1
      simpa using this
    · cases hl
  · cases hl

def zOk (P : Program) (e : TypeId) (ie : TypeInfo) : Bool := match aZero P e with | some z => z.cells.size == ie.size | none => false
theorem zOk_some {e : TypeId} {ie : TypeInfo} (hz : zOk P e ie = true) : ∃ z, aZero P e = some z ∧ z.cells.size = ie.size := by
  unfold zOk at hz
  split at hz
  · rename_i z e; exact ⟨z, e, by simpa using hz⟩
  · cases hz

def aAppend (P : Program) (id : Nat) (h : Heap) (ats : List TypeId) (args : List Value) : Option (Value × Heap) :=
  match ats, args with
  | [st, xt], [s, x] =>
    match P.underlying st, P.underlying xt with
    | some (.slice e), some xd =>
      if isInt xd = true then none else
      match P.info? e, aLen x with
      | some ie, some n =>
        match s with
        | .slice none 0 0 => if n = 0 then (match aCells h ie.size 0 x with | some _ => some (.slice none 0 0, h) | none => none) else aGrow P id h e ie s x 0 0 n
        | .slice (some ⟨b, o, none⟩) len cap =>
          if len + n ≤ cap then
            match h.get b, aCells h ie.size n x with
            | some (.cells c e' g), some new => if o + len * ie.size + new.length ≤ c.length ∧ new.all one = true then
                some (.slice (some ⟨b, o, none⟩) (len + n) cap, h.set b (some (.cells (splice c (o + len * ie.size) new) e' g))) else none
            | _, _ => none
          else aGrow P id h e ie s x len cap n
        | .slice (some ⟨b, o, some k⟩) len 0 =>
          match h.get b, aCells h ie.size n x with
          | some (.cells c e' (some sz)), some new =>
            if sz = ie.size ∧ k * sz = o ∧ sz ≠ 0 ∧ new.length = n * sz ∧ new.all one = true then
              if o + (len + n) * sz ≤ c.length then some (.slice (some ⟨b, o, some k⟩) (len + n) 0, h.set b (some (.cells (splice c (o + len * sz) new) e' (some sz))))
              else if o + len * sz = c.length ∧ e' = e ∧ b ≠ id ∧ len + n ≤ 65536 ∧ ie.bytes ≤ 65536 ∧ zOk P e ie = true then
                some (.slice (some ⟨id, 0, some 0⟩) (len + n) 0, (h.set b none).set id (some (.cells (c.drop o ++ new) e (some sz))))
              else none
            else none
          | _, _ => none
        | _ => none
      | _, _ => none
    | _, _ => none
  | _, _ => none
theorem aAppend_sound (r : Rel μ h w) {ats : List TypeId} {args args' : List Value} {v : Value} {ty : TypeId} {h' : Heap} (hlt : id < 65536) (hid : μ id = none) (hh : h.get id = none)
    (ha : VRs μ args args') (hl : aAppend P id h ats args = some (v, h')) : Does P (Builtin.append_ ats.toArray ty args'.toArray) id nx μ h w v h' := by
  unfold aAppend at hl
  split at hl
  · rename_i st xt s x
    cases ha with | cons hs ha => cases ha with | cons hx ha => cases ha with | nil =>
    rename_i s' x'
    split at hl
    · rename_i e xd hst hxt
      split at hl
      · cases hl
      · rename_i hxd
        have hxd : isInt xd = false := by simpa using hxd
        split at hl
        · rename_i ie n hie hn
          have hlen := aLen_run (P := P) hx hn w
          split at hl
          · cases hs.eq_of_dat rfl
            split at hl
            · rename_i hn0
              subst hn0
              split at hl
              · rename_i new hw
                cases hl
                obtain ⟨new', hw1, hw2⟩ := aCells_run (P := P) r hx hw
                exact Does.still r (append_none hst hxt hxd hie hlen hw1) (.dat rfl)
              · cases hl
            · exact aGrow_sound r hlt hid hh rfl hst hxt hxd hie hx hn hs hl
          · rename_i b o len cap
            cases hs with
            | dat hd => simp [dat] at hd
            | slice hp =>
              rename_i p
              split at hl
              · rename_i hcap
                split at hl
                · rename_i c e' g new hb hw
                  split at hl
                  · rename_i hc
                    cases hl
                    obtain ⟨new', hw1, hw2⟩ := aCells_run (P := P) r hx hw
                    obtain ⟨μ', w', k1, k2, k3⟩ := storeCells_sound (P := P) (id := id) (nx := nx) r hb hp hw2 hc.1 hc.2
                    refine ⟨μ', _, w', append_fits hst hxt hxd hie hlen hcap hw1 ?_, .slice (k3.le _ _ hp), k2, k3⟩
                    rw [add_none]
                    rw [show o + p.disp + len * ie.size = o + len * ie.size + p.disp by omega]
                    exact k1
                  · cases hl
                · cases hl
              · exact aGrow_sound r hlt hid hh rfl hst hxt hxd hie hx hn (.slice hp) hl
          · rename_i b o k len
            cases hs with
            | dat hd => simp [dat] at hd
            | sliceG hp =>
              rename_i p
              split at hl
              · rename_i c e' sz new hb hw
                split at hl
                · rename_i hc
                  obtain ⟨rfl, rfl, hs0, hnl, hone⟩ := hc
                  obtain ⟨c', fz, hc1, hz, hc2, hg⟩ := r.cells hb hp
                  obtain ⟨new', hw1, hw2⟩ := aCells_run (P := P) r hx hw
                  split at hl
                  · rename_i hfit
                    cases hl
                    have hcap := cap_ge hg hs0 hfit
                    have hfit' : k * ie.size + len * ie.size + new.length ≤ c.length := by rw [hnl]; rw [Nat.add_mul] at hfit; omega
                    obtain ⟨μ', w', k1, k2, k3⟩ := storeCells_sound (P := P) (id := id) (nx := nx) r hb hp hw2 hfit' hone
                    refine ⟨μ', _, w', append_fits hst hxt hxd hie hlen (by omega) hw1 ?_, .sliceG (k3.le _ _ hp), k2, k3⟩
                    rw [add_none]
                    rw [show k * ie.size + p.disp + len * ie.size = k * ie.size + len * ie.size + p.disp by omega]
                    exact k1
                  · rename_i hfit
                    split at hl
                    · rename_i ht
                      obtain ⟨ht, he, hbid, hsm, hby, hz⟩ := ht
                      subst he
                      cases hl
                      obtain ⟨z, hz', hzs⟩ := zOk_some hz
                      · have hblt := Heap.get_lt hb
                        by_cases hcap : len + n ≤ p.cap - k
                        · obtain ⟨μ', w', m1, m2, m3, m4⟩ := grown_row (P := P) (nx := nx) (k := k) r hb hp hlt hid hh hw2 (by omega) (by
                            have hk := cap_ge hg hs0 (show k * ie.size + len * ie.size ≤ c.length by omega)
                            have : (k + (len + n)) * ie.size ≤ p.cap * ie.size := Nat.mul_le_mul_right _ (by omega)
                            rw [Nat.add_mul, Nat.add_mul] at this
                            omega) hone
                          refine ⟨μ', _, w', append_fits hst hxt hxd hie hlen hcap hw1 ?_, ?_, m3, m4⟩
                          · rw [add_none, show k * ie.size + p.disp + len * ie.size = c.length + p.disp by omega]
                            exact m2
                          · have := VR.sliceG (o := 0) (e := 0) (len := len + n) m1
                            simpa [Nat.add_comm] using this
                        · have hos : VR μ (.slice (some ⟨b, k * ie.size, some k⟩) len 0) (.slice (some ⟨p.blk, k * ie.size + p.disp, none⟩) len (p.cap - k)) := .sliceG hp
                          have hold : aCells h ie.size len (.slice (some ⟨b, k * ie.size, some k⟩) len 0) = some ((c.drop (k * ie.size)).take (len * ie.size)) := by
                            unfold aCells
                            by_cases hlz : len * ie.size = 0
                            · simp [hlz]
                            · simp [hlz, hb]
                              omega
                          have holl : ((c.drop (k * ie.size)).take (len * ie.size)).length = len * ie.size := by simp; omega
                          have hdrop : (c.drop (k * ie.size)).take (len * ie.size) = c.drop (k * ie.size) := List.take_of_length_le (by simp; omega)
                          obtain ⟨m, cc, q1, q2, q3, q4⟩ := append_grow r (ty := ty) rfl hst hxt hxd hie hz' hzs hx hn (by omega) hsm hby hos hold holl hw hnl
                          rw [hdrop] at q3
                          have hlen' : (c.drop (k * ie.size) ++ new).length = (len + n) * ie.size := by rw [List.length_append, ← hdrop, holl, hnl, Nat.add_mul]
                          have hh' : (h.set b none).get id = none := by
                            rw [Heap.get_set _ _ _ _ hblt]
                            split
                            · rfl
                            · exact hh
                          obtain ⟨μ', p1, p2, p3⟩ := made_row (nx := nx) ((r.forget b hblt).drew (w.drawn + 1)) e' (c := c.drop (k * ie.size) ++ new) (c' := cc) (s := ie.size) (m := m) hlt hid hh' q2 (by rw [hlen']; exact Nat.mul_le_mul_right _ q1) (by rw [hlen']; exact q3)
                          refine ⟨μ', _, _, q4, ?_, p2, ((Goes.forget r b hblt (fun o ho => by rw [hb] at ho; cases ho; rfl)).drew _).trans p3⟩
                          have := VR.sliceG (o := 0) (e := 0) (len := len + n) p1
                          simpa using this
                    · cases hl
                · cases hl
              · cases hl
          · cases hl
        · cases hl
    · cases hl
  · cases hl
end
end Go.Ge

/-
  Evaluation of closed calls: len, copy, maps.
-/
namespace Go.Ge

section
variable {P : Program} {μ : Mu} {h : Heap} {w : World} {id nx : Nat}

def ap (a : Addr) : Option Addr := some a
def aCopy (P : Program) (h : Heap) (ats : List TypeId) (args : List Value) : Option (Value × Heap) :=
  match ats, args with
  | dt :: _, [d, x] =>
    match P.underlying dt with
    | some (.slice e) =>
      match P.info? e, aLen x, d with
      | some ie, some m, .slice none dl _ => (match aCells h ie.size (Nat.min m dl) x with | some _ => some (goInt (Nat.min m dl), h) | none => none)
      | some ie, some m, .slice (some ⟨b, o, sp⟩) dl cap =>
        match aCells h ie.size (Nat.min m dl) x with
        | some new =>
          if new = [] ∧ Nat.min m dl * ie.size = 0 then some (goInt (Nat.min m dl), h) else
          match h.get b with
          | some (.cells c e' g) => if (sp = none ∨ cap = 0) ∧ o + new.length ≤ c.length ∧ new.all one = true then some (goInt (Nat.min m dl), h.set b (some (.cells (splice c o new) e' g))) else none
          | _ => none
        | none => none
      | _, _, _ => none
    | _ => none
  | _, _ => none
theorem aCopy_sound (r : Rel μ h w) {ats : List TypeId} {args args' : List Value} {v : Value} {ty : TypeId} {h' : Heap}
    (ha : VRs μ args args') (hl : aCopy P h ats args = some (v, h')) : Does P (Builtin.copy_ ats.toArray ty args'.toArray) id nx μ h w v h' := by
  unfold aCopy at hl
  split at hl
  · rename_i dt rest d x
    cases ha with | cons hd ha => cases ha with | cons hx ha => cases ha with | nil =>
    rename_i d' x'
    split at hl
    · rename_i e hu
      split at hl
      · rename_i ie m dl dc hie hm
        cases hd.eq_of_dat rfl
        have hlen := aLen_run (P := P) hx hm w
        split at hl
        · rename_i cs hc
          cases hl
          obtain ⟨cs', h1, h2⟩ := aCells_run (P := P) r hx hc
          refine Does.still r ?_ (.dat rfl) (v' := goInt (Nat.min m dl))
          simp [Builtin.copy_, run_underlying hu, hlen, sizeOf, typeInfo, hie, h1]
        · cases hl
      · rename_i ie m b o sp dl cap hie hm
        have hlen := aLen_run (P := P) hx hm w
        split at hl
        · rename_i new hc
          obtain ⟨new', h1, h2⟩ := aCells_run (P := P) r hx hc
          split at hl
          · rename_i hn
            cases hl
            obtain ⟨rfl, _⟩ := hn
            cases h2
            refine Does.still r ?_ (.dat rfl) (v' := goInt (Nat.min m dl))
            cases hd with
            | dat hd => simp [dat] at hd
            | sliceE =>
              have h1' : (Builtin.firstCells ie.size 0 x').run P w = .ok #[] w := by simpa using h1
              simp [Builtin.copy_, run_underlying hu, hlen, sizeOf, typeInfo, hie, h1', storeCells]
            | _ => simp [Builtin.copy_, run_underlying hu, hlen, sizeOf, typeInfo, hie, h1, storeCells]
          · split at hl
            · rename_i c e' g hb
              split at hl
              · rename_i hn
                cases hl
                have main : ∀ (p : Place) (cap' : Nat), μ b = some p → Does P (Builtin.copy_ (dt :: rest).toArray ty ([.slice (some ⟨p.blk, o + p.disp, none⟩) dl cap', x'] : List Value).toArray) id nx μ h w (goInt (Nat.min m dl)) (h.set b (some (.cells (splice c o new) e' g))) := by
                  intro p cap' hp
                  obtain ⟨μ', w', k1, k2, k3⟩ := storeCells_sound (P := P) (id := id) (nx := nx) r hb hp h2 hn.2.1 hn.2.2
                  refine ⟨μ', goInt (Nat.min m dl), w', ?_, .dat rfl, k2, k3⟩
                  simp [Builtin.copy_, run_underlying hu, hlen, sizeOf, typeInfo, hie, h1, k1]
                cases hd with
                | dat hd => simp [dat] at hd
                | slice hp => exact main _ _ hp
                | sliceG hp => exact main _ _ hp
                | sliceE => simp at hn
              · cases hl
            · cases hl
        · cases hl
      · cases hl
    · cases hl
  · cases hl

def aLenB (P : Program) (h : Heap) (t : TypeId) (x : Value) : Option Value :=
  match P.underlying t, x with
  | some .string, .string s => some (goInt s.size)
  | some (.array n _), _ => some (goInt n)
  | some (.slice _), .slice _ n _ => some (goInt n)
  | some (.map _ _), .map none => some (goInt 0)
  | some (.map _ _), .map (some r) => match h.get r with
    | some (.map es _) => some (goInt es.length)
    | _ => none
  | _, _ => none
theorem ESR.length : ∀ {xs ys : List MapEntry}, ESR μ xs ys → xs.length = ys.length
  | _, _, .nil => rfl
  | _, _, .cons _ _ c => by simp [ESR.length c]
theorem getObj_map (r : Rel μ h w) {b : Nat} {es : List MapEntry} {clock : Nat} {p : Place} (hb : h.get b = some (.map es clock)) (hp : μ b = some p) :
    ∃ es', w.heap[p.blk]? = some (.map ⟨es'⟩ clock) ∧ ESR μ es es' := by
  obtain ⟨q, hq, ho⟩ := r.live b _ hb
  rw [hp] at hq
  cases hq
  exact ho
theorem run_getObj_map {b clock : Nat} {es : Array MapEntry} (hb : w.heap[b]? = some (.map es clock)) : (getObj b).run P w = .ok (.map es clock) w := by
  simp [getObj, Sem.run, hb]
theorem aLenB_sound (r : Rel μ h w) {t : TypeId} {x x' v : Value} {ty : TypeId} {rest : List TypeId} {rest' : List Value} (hx : VR μ x x') (hl : aLenB P h t x = some v) :
    Does P (Builtin.len_ (t :: rest).toArray ty (x' :: rest').toArray) id nx μ h w v h := by
  unfold aLenB at hl
  split at hl
  · rename_i s hu
    cases hx.eq_of_dat rfl
    cases hl
    refine Does.still r ?_ (.dat rfl) (v' := goInt s.size)
    simp [Builtin.len_, run_underlying hu]
  · rename_i n e hu
    cases hl
    refine Does.still r ?_ (.dat rfl) (v' := goInt n)
    simp [Builtin.len_, run_underlying hu]
  · rename_i e a n c hu
    cases hl
    refine Does.still r ?_ (.dat rfl) (v' := goInt n)
    cases hx <;> simp [Builtin.len_, run_underlying hu]
  · rename_i k e hu
    cases hx.eq_of_dat rfl
    cases hl
    refine Does.still r ?_ (.dat rfl) (v' := goInt 0)
    simp [Builtin.len_, run_underlying hu]
  · rename_i k e b hu
    split at hl
    · rename_i es clock hb
      cases hl
      cases hx with
      | dat hd => simp [dat] at hd
      | map hp =>
        obtain ⟨es', h1, h2⟩ := getObj_map r hb hp
        refine Does.still r ?_ (.dat rfl) (v' := goInt es.length)
        simp [Builtin.len_, run_underlying hu, run_getObj_map h1, h2.length]
    · cases hl
  · cases hl

/-! ### maps -/
def aMakeMap (P : Program) (id : Nat) (h : Heap) (t : TypeId) (hint : Option Value) : Option (Value × Heap) :=
  match hint with
  | none => some (.map (some id), h.set id (some (.map [] 0)))
  | some (.int _ _) => match P.underlying t with
    | some (.map _ _) => some (.map (some id), h.set id (some (.map [] 0)))
    | _ => none
  | _ => none
theorem aMakeMap_sound (r : Rel μ h w) {t : TypeId} {hint hint' : Option Value} {v : Value} {h' : Heap} (hlt : id < 65536) (hb : μ id = none) (hh : h.get id = none) (hr : OR μ hint hint') (hl : aMakeMap P id h t hint = some (v, h')) :
    Does P (Instr.makeMap t hint') id nx μ h w v h' := by
  have main : Does P (Instr.makeMap t none) id nx μ h w (.map (some id)) (h.set id (some (.map [] 0))) := by
    obtain ⟨h1, h2⟩ := make r (o := .map [] 0) (ob := .map #[] 0) nx 0 hlt hb hh ⟨[], rfl, .nil⟩
    exact ⟨_, .map (some w.heap.size), _, by simp [Instr.makeMap], .map (Mu.put_self _ _ _), h1, h2⟩
  unfold aMakeMap at hl
  split at hl
  · cases hl
    cases hr
    exact main
  · rename_i k n
    split at hl
    · rename_i kt et hu
      cases hl
      cases hr with
      | some hv =>
        cases hv.eq_of_dat rfl
        obtain ⟨μ', v', w', a, b⟩ := main
        refine ⟨μ', v', w', ?_, b⟩
        simp [Instr.makeMap] at a
        simp [Instr.makeMap, run_underlying hu, asInt, asIntOf, a]
    · cases hl
  · cases hl

def plainKind : TypeDesc → Bool
  | .int _ | .string | .bool => true
  | _ => false
def aFindNow (kd : TypeDesc) (k : Value) : List MapEntry → Nat → Option (Option (Nat × Value))
  | [], _ => some none
  | e :: es, i => if dat e.key = true then (match Instr.sameNow kd k e.key with
    | some true => some (some (i, e.val))
    | some false => aFindNow kd k es (i + 1)
    | none => none) else none
def aFindAsk (P : Program) (kt : TypeId) (k : Value) : List MapEntry → Nat → Option (Option (Nat × Value))
  | [], _ => some none
  | e :: es, i => if closed e.key = true then (match pev P (Op.equal kt k e.key) with
    | some true => some (some (i, e.val))
    | some false => aFindAsk P kt k es (i + 1)
    | none => none) else none
def aFind (P : Program) (kt : TypeId) (k : Value) (es : List MapEntry) : Option (Option (Nat × Value)) :=
  match P.underlying kt with
  | some kd => if plainKind kd = true then aFindNow kd k es 0 else aFindAsk P kt k es 0
  | none => none
/-- what is found in both -/
inductive FR (μ : Mu) : Option (Nat × Value) → Option (Nat × Value) → Prop
  | none : FR μ none none
  | some {i : Nat} {v v' : Value} : VR μ v v' → FR μ (some (i, v)) (some (i, v'))
theorem findNow_rel {kd : TypeDesc} {k : Value} : ∀ {es es' : List MapEntry}, ESR μ es es' → ∀ (i : Nat) {r : Option (Nat × Value)}, aFindNow kd k es i = some r → ∃ r', Instr.findNow kd k es' i = some r' ∧ FR μ r r'
  | _, _, .nil, i, r, hl => by simp only [aFindNow] at hl; cases hl; exact ⟨none, rfl, .none⟩
  | _, _, .cons (k := k₀) hk hv hs, i, r, hl => by
    simp only [aFindNow] at hl
    split at hl
    · rename_i hd
      cases hk.eq_of_dat hd
      simp only [Instr.findNow]
      cases hsn : Instr.sameNow kd k k₀ with
      | none => rw [hsn] at hl; cases hl
      | some b =>
        rw [hsn] at hl
        cases b with
        | true => cases hl; exact ⟨_, rfl, .some hv⟩
        | false => exact findNow_rel hs (i + 1) hl
    · cases hl
theorem findAsk_rel {kt : TypeId} {k : Value} : ∀ {es es' : List MapEntry}, ESR μ es es' → ∀ (i : Nat) {r : Option (Nat × Value)}, aFindAsk P kt k es i = some r → ∃ r', (∀ w, (Instr.findAsking kt k es' i).run P w = .ok r' w) ∧ FR μ r r'
  | _, _, .nil, i, r, hl => by simp only [aFindAsk] at hl; cases hl; exact ⟨none, fun w => rfl, .none⟩
  | _, _, .cons (k := k₀) hk hv hs, i, r, hl => by
    simp only [aFindAsk] at hl
    split at hl
    · rename_i hd
      cases hk.eq_of_closed hd
      cases hsn : pev P (Op.equal kt k k₀) with
      | none => rw [hsn] at hl; cases hl
      | some b =>
        rw [hsn] at hl
        have hrun := pev_run _ _ hsn
        cases b with
        | true => cases hl; exact ⟨_, fun w => by simp [Instr.findAsking, hrun], .some hv⟩
        | false =>
          obtain ⟨r', h1, h2⟩ := findAsk_rel hs (i + 1) hl
          exact ⟨r', fun w => by simp [Instr.findAsking, hrun, h1], h2⟩
    · cases hl
theorem sameNow_none {kd : TypeDesc} (hk : plainKind kd = false) (a b : Value) : Instr.sameNow kd a b = none := by
  cases kd <;> first | rfl | (simp [plainKind] at hk)
theorem find_rel {kt : TypeId} {k : Value} {es es' : List MapEntry} {r : Option (Nat × Value)} (he : ESR μ es es') (hl : aFind P kt k es = some r) : ∃ r', (∀ w, (Instr.findKey kt k es').run P w = .ok r' w) ∧ FR μ r r' := by
  unfold aFind at hl
  split at hl
  · rename_i kd hu
    split at hl
    · obtain ⟨r', h1, h2⟩ := findNow_rel he 0 hl
      exact ⟨r', fun w => by simp [Instr.findKey, run_underlying hu, h1], h2⟩
    · rename_i hk
      have hk : plainKind kd = false := by simpa using hk
      obtain ⟨r', h1, h2⟩ := findAsk_rel he 0 hl
      refine ⟨r', fun w => ?_, h2⟩
      cases es' with
      | nil => 
        have := h1 w
        simp [Instr.findAsking] at this
        simp [Instr.findKey, run_underlying hu, Instr.findNow, this]
      | cons e es' => simp [Instr.findKey, run_underlying hu, Instr.findNow, sameNow_none hk, h1]
  · cases hl

def aMapOf (h : Heap) (x : Value) : Option (List MapEntry) :=
  match x with
  | .map none => some []
  | .map (some b) => match h.get b with
    | some (.map es _) => some es
    | _ => none
  | _ => none
theorem aMapOf_cases (r : Rel μ h w) {x x' : Value} {es : List MapEntry} (hx : VR μ x x') (hl : aMapOf h x = some es) :
    (x' = .map none ∧ es = []) ∨ ∃ (b clock : Nat) (es' : List MapEntry), x' = .map (some b) ∧ w.heap[b]? = some (.map ⟨es'⟩ clock) ∧ ESR μ es es' := by
  unfold aMapOf at hl
  split at hl
  · cases hl
    cases hx.eq_of_dat rfl
    exact .inl ⟨rfl, rfl⟩
  · split at hl
    · rename_i hb
      cases hl
      cases hx with
      | dat hd => simp [dat] at hd
      | map hp =>
        obtain ⟨es', h1, h2⟩ := getObj_map r hb hp
        exact .inr ⟨_, _, es', rfl, h1, h2⟩
    · cases hl
  · cases hl
def aLookup (P : Program) (h : Heap) (t : TypeId) (x k : Value) (ok : Bool) : Option Value :=
  match P.underlying t with
  | some (.map kt et) =>
    if closed k = true then
      match aMapOf h x with
      | some es =>
        match pev P (Instr.checkKey es.isEmpty 10000 kt k), aFind P kt k es with
        | some (), some (some (_, v)) => some (if ok then .tuple ⟨[v, .bool true]⟩ else v)
        | some (), some none => match aZero P et with
          | some z => if closed z = true then some (if ok then .tuple ⟨[z, .bool false]⟩ else z) else none
          | none => none
        | _, _ => none
      | none => none
    else none
  | _ => none
theorem aLookup_sound (r : Rel μ h w) {t : TypeId} {x x' k k' v : Value} {ok : Bool} (hx : VR μ x x') (hk : VR μ k k') (hl : aLookup P h t x k ok = some v) : Does P (Instr.lookup t x' k' ok) id nx μ h w v h := by
  unfold aLookup at hl
  split at hl
  · rename_i kt et hu
    split at hl
    · rename_i hc
      cases hk.eq_of_closed hc
      split at hl
      · rename_i es hes
        split at hl
        · rename_i i u hck hf
          cases hl
          have hck' := pev_run _ _ hck w
          rcases aMapOf_cases r hx hes with ⟨rfl, rfl⟩ | ⟨b, clock, es', rfl, h1, he⟩
          · simp [aFind, aFindNow, aFindAsk] at hf
            split at hf
            · cases hf
            · cases hf
          · obtain ⟨r', hr1, hr2⟩ := find_rel he hf
            cases hr2 with
            | some hv =>
              rename_i v'
              refine Does.still r (v' := if ok then .tuple ⟨[v', .bool true]⟩ else v') ?_ (by cases ok; exact hv; exact .tuple (.cons hv (.cons (.dat rfl) .nil)))
              have hemp : (⟨es'⟩ : Array MapEntry).isEmpty = es.isEmpty := by
                have := he.length
                cases es <;> cases es' <;> simp_all
              simp [Instr.lookup, run_underlying hu, run_getObj_map h1, hemp, hck', hr1]
        · rename_i hck hf
          have hck' := pev_run _ _ hck w
          split at hl
          · rename_i z hz
            split at hl
            · rename_i hcz
              cases hl
              refine Does.still r (v' := if ok then .tuple ⟨[z, .bool false]⟩ else z) ?_ (by cases ok; exact VR.of_closed hcz; exact .tuple (.cons (VR.of_closed hcz) (.cons (.dat rfl) .nil)))
              rcases aMapOf_cases r hx hes with ⟨rfl, rfl⟩ | ⟨b, clock, es', rfl, h1, he⟩
              · obtain ⟨r', hr1, hr2⟩ := find_rel (P := P) (.nil (μ := μ)) hf
                cases hr2 with
                | none =>
                  simp at hck'
                  simp [Instr.lookup, run_underlying hu, hck', hr1, aZero_run hz]
              · obtain ⟨r', hr1, hr2⟩ := find_rel he hf
                cases hr2 with
                | none =>
                  have hemp : (⟨es'⟩ : Array MapEntry).isEmpty = es.isEmpty := by
                    have := he.length
                    cases es <;> cases es' <;> simp_all
                  simp [Instr.lookup, run_underlying hu, run_getObj_map h1, hemp, hck', hr1, aZero_run hz]
            · cases hl
          · cases hl
        · cases hl
      · cases hl
    · cases hl
  · cases hl
end
end Go.Ge

/-
  Evaluation of closed calls: maps that are written, ranges over maps and texts.
-/
namespace Go.Ge

section
variable {P : Program} {μ : Mu} {h : Heap} {w : World} {id nx : Nat}

/-- an object that is no row is put in place of one that is none -/
theorem setObj_sound (r : Rel μ h w) {b : Nat} {o o' : AObj} {p : Place} {x ob : Obj} (hb : h.get b = some o) (hp : μ b = some p) (hx : w.heap[p.blk]? = some x) (hnc : ∀ c e f, x ≠ .cells c e f) (hob : ObjR μ (some ob) p o') :
    DoesU P (setObj p.blk ob) id nx μ h w (h.set b (some o')) := by
  have hlt : p.blk < w.heap.size := (Array.getElem?_eq_some_iff.1 hx).1
  have hnt : o.isTab = false := by
    cases o <;> first | rfl | skip
    obtain ⟨q, hq, _, c', e, fz, h1, _⟩ := r.live b _ hb
    rw [hp] at hq
    cases hq
    rw [hx] at h1
    exact absurd (Option.some.inj h1) (hnc _ _ _)
  obtain ⟨h1, h2⟩ := write r (o' := o') (w' := { w with heap := w.heap.setIfInBounds p.blk ob }) id nx hb hnt hp (by simp) (by
    show ObjR μ (w.heap.setIfInBounds p.blk ob)[p.blk]? p o'
    rw [Array.getElem?_setIfInBounds, if_pos rfl, if_pos hlt]
    exact hob) (fun k hk => by
    show (w.heap.setIfInBounds p.blk ob)[k]? = _
    rw [Array.getElem?_setIfInBounds, if_neg (fun e => hk e.symm)]) rfl rfl rfl
  refine ⟨μ, _, ?_, h1, h2⟩
  cases x <;> first
    | (exact absurd rfl (hnc _ _ _))
    | (simp only [setObj, Sem.run, hx])

theorem ESR.get : ∀ {xs ys : List MapEntry}, ESR μ xs ys → ∀ (i : Nat) (e : MapEntry), xs[i]? = some e → ∃ e', ys[i]? = some e' ∧ VR μ e.key e'.key ∧ VR μ e.val e'.val ∧ e'.born = e.born
  | _, _, .nil, i, v, h => by simp at h
  | _, _, .cons a b c, 0, v, h => by simp at h; subst h; exact ⟨_, rfl, a, b, rfl⟩
  | _, _, .cons a b c, i + 1, v, h => by simpa using ESR.get c i v (by simpa using h)
theorem ESR.modify {f f' : MapEntry → MapEntry} (hf : ∀ (e e' : MapEntry), VR μ e.key e'.key → VR μ e.val e'.val → e'.born = e.born → VR μ (f e).key (f' e').key ∧ VR μ (f e).val (f' e').val ∧ (f' e').born = (f e).born) :
    ∀ {xs ys : List MapEntry}, ESR μ xs ys → ∀ (i : Nat), ESR μ (xs.modify i f) (ys.modify i f')
  | _, _, .nil, i => by simp; exact .nil
  | _, _, .cons (k := k) (k' := k') (v := v) (v' := v') (n := n) a b c, 0 => by
    simp only [List.modify_zero_cons]
    obtain ⟨h1, h2, h3⟩ := hf ⟨k, v, n⟩ ⟨k', v', n⟩ a b rfl
    have e1 : f ⟨k, v, n⟩ = ⟨(f ⟨k, v, n⟩).key, (f ⟨k, v, n⟩).val, (f ⟨k, v, n⟩).born⟩ := rfl
    have e2 : f' ⟨k', v', n⟩ = ⟨(f' ⟨k', v', n⟩).key, (f' ⟨k', v', n⟩).val, (f ⟨k, v, n⟩).born⟩ := by rw [← h3]
    rw [e1, e2]
    exact .cons h1 h2 c
  | _, _, .cons a b c, i + 1 => by
    simp only [List.modify_succ_cons]
    exact .cons a b (ESR.modify hf c i)
theorem ESR.snoc : ∀ {xs ys : List MapEntry}, ESR μ xs ys → ∀ {k k' v v' : Value} (n : Nat), VR μ k k' → VR μ v v' → ESR μ (xs ++ [⟨k, v, n⟩]) (ys ++ [⟨k', v', n⟩])
  | _, _, .nil, _, _, _, _, n, a, b => .cons a b .nil
  | _, _, .cons x y z, _, _, _, _, n, a, b => .cons x y (ESR.snoc z n a b)

def aMapUpdate (P : Program) (h : Heap) (t : TypeId) (x k v : Value) : Option Heap :=
  match P.underlying t, x with
  | some (.map kt _), .map (some b) =>
    match h.get b with
    | some (.map es clock) =>
      if closed k = true then
        match pev P (Instr.checkKey false 10000 kt k), aFind P kt k es with
        | some (), some (some (i, _)) =>
          match es[i]? with
          | some e => if closed e.key = true ∧ Instr.sameBits 10000 e.key k = true then some (h.set b (some (.map (es.modify i fun e => { e with key := k, val := v }) clock))) else none
          | none => none
        | some (), some none => some (h.set b (some (.map (es ++ [⟨k, v, clock⟩]) (clock + 1))))
        | _, _ => none
      else none
    | _ => none
  | _, _ => none
theorem arr_modify (es : List MapEntry) (i : Nat) (f : MapEntry → MapEntry) : (⟨es⟩ : Array MapEntry).modify i f = ⟨es.modify i f⟩ := Array.ext' (by simp)
theorem keyStays {old new : Value} (hs : Instr.sameBits 10000 old new = true) (w : World) : (Instr.keyThatStays old new).run P w = .ok new w := by
  simp [Instr.keyThatStays, hs]
theorem aMapUpdate_sound (r : Rel μ h w) {t : TypeId} {x x' k k' v v' : Value} {h' : Heap} (hx : VR μ x x') (hk : VR μ k k') (hv : VR μ v v') (hl : aMapUpdate P h t x k v = some h') : DoesU P (Instr.mapUpdate t x' k' v') id nx μ h w h' := by
  unfold aMapUpdate at hl
  split at hl
  · rename_i kt et b hu
    split at hl
    · rename_i es clock hb
      split at hl
      · rename_i hc
        cases hk.eq_of_closed hc
        cases hx with
        | dat hd => simp [dat] at hd
        | map hp =>
          rename_i p
          obtain ⟨es', h1, he⟩ := getObj_map r hb hp
          split at hl
          · rename_i i u hck hf
            have hck' := pev_run _ _ hck w
            obtain ⟨r', hr1, hr2⟩ := find_rel he hf
            split at hl
            · rename_i e hi
              split at hl
              · rename_i hs
                cases hl
                obtain ⟨e', hi', hk1, _, _⟩ := he.get i e hi
                have hke := hk1.eq_of_closed hs.1
                cases hr2 with
                | some hv' =>
                  obtain ⟨μ', w', a, b'⟩ := setObj_sound (P := P) (id := id) (nx := nx) r (o' := .map (es.modify i fun e => { e with key := k, val := v }) clock) (ob := .map ⟨es'.modify i fun e => { e with key := k, val := v' }⟩ clock) hb hp h1 (fun _ _ _ => by simp) ⟨_, rfl, he.modify (f := fun e => { e with key := k, val := v }) (f' := fun e => { e with key := k, val := v' }) (fun _ _ _ _ hb => ⟨VR.of_closed hc, hv, hb⟩) i⟩
                  refine ⟨μ', w', ?_, b'⟩
                  have hst : Instr.sameBits 10000 e'.key k = true := by rw [hke]; exact hs.2
                  simp [Instr.mapUpdate, run_underlying hu, run_getObj_map h1, hck', hr1, hi', keyStays hst, arr_modify, a]
              · cases hl
            · cases hl
          · rename_i hck hf
            have hck' := pev_run _ _ hck w
            obtain ⟨r', hr1, hr2⟩ := find_rel he hf
            cases hl
            cases hr2 with
            | none =>
              obtain ⟨μ', w', a, b'⟩ := setObj_sound (P := P) (id := id) (nx := nx) r (o' := .map (es ++ [⟨k, v, clock⟩]) (clock + 1)) (ob := .map ⟨es' ++ [⟨k, v', clock⟩]⟩ (clock + 1)) hb hp h1 (fun _ _ _ => by simp) ⟨_, rfl, he.snoc clock (VR.of_closed hc) hv⟩
              refine ⟨μ', w', ?_, b'⟩
              simp [Instr.mapUpdate, run_underlying hu, run_getObj_map h1, hck', hr1, a]
          · cases hl
      · cases hl
    · cases hl
  · cases hl

def aMapEntry (P : Program) (h : Heap) (t : TypeId) (x k : Value) : Option (Value × Heap) :=
  match P.underlying t, x with
  | some (.map kt et), .map (some b) =>
    match h.get b with
    | some (.map es clock) =>
      if closed k = true then
        match pev P (Instr.checkKey false 10000 kt k), aFind P kt k es with
        | some (), some (some (i, v)) =>
          match es[i]? with
          | some e => if closed e.key = true ∧ Instr.sameBits 10000 e.key k = true then some (.tuple ⟨[v, goInt e.born]⟩, h.set b (some (.map (es.modify i fun e => { e with key := k }) clock))) else none
          | none => none
        | some (), some none => match aZero P et with
          | some z => if closed z = true then some (.tuple ⟨[z, goInt clock]⟩, h.set b (some (.map (es ++ [⟨k, z, clock⟩]) (clock + 1)))) else none
          | none => none
        | _, _ => none
      else none
    | _ => none
  | _, _ => none
theorem aMapEntry_sound (r : Rel μ h w) {t : TypeId} {x x' k k' v : Value} {h' : Heap} (hx : VR μ x x') (hk : VR μ k k') (hl : aMapEntry P h t x k = some (v, h')) : Does P (Instr.mapEntry t x' k') id nx μ h w v h' := by
  unfold aMapEntry at hl
  split at hl
  · rename_i kt et b hu
    split at hl
    · rename_i es clock hb
      split at hl
      · rename_i hc
        cases hk.eq_of_closed hc
        cases hx with
        | dat hd => simp [dat] at hd
        | map hp =>
          rename_i p
          obtain ⟨es', h1, he⟩ := getObj_map r hb hp
          split at hl
          · rename_i i u hck hf
            have hck' := pev_run _ _ hck w
            obtain ⟨r', hr1, hr2⟩ := find_rel he hf
            split at hl
            · rename_i e hi
              split at hl
              · rename_i hs
                cases hl
                obtain ⟨e', hi', hk1, hk2, hk3⟩ := he.get i e hi
                have hke := hk1.eq_of_closed hs.1
                cases hr2 with
                | some hv' =>
                  rename_i v'
                  obtain ⟨μ', w', a, b1, b2⟩ := setObj_sound (P := P) (id := id) (nx := nx) r (o' := .map (es.modify i fun e => { e with key := k }) clock) (ob := .map ⟨es'.modify i fun e => { e with key := k }⟩ clock) hb hp h1 (fun _ _ _ => by simp) ⟨_, rfl, he.modify (f := fun e => { e with key := k }) (f' := fun e => { e with key := k }) (fun _ _ _ hv hb => ⟨VR.of_closed hc, hv, hb⟩) i⟩
                  refine ⟨μ', .tuple ⟨[v', goInt e.born]⟩, w', ?_, .tuple (.cons (hv'.mono b2.le) (.cons (.dat rfl) .nil)), b1, b2⟩
                  have hst : Instr.sameBits 10000 e'.key k = true := by rw [hke]; exact hs.2
                  simp [Instr.mapEntry, run_underlying hu, run_getObj_map h1, hck', hr1, hi', keyStays hst, arr_modify, a, hk3]
              · cases hl
            · cases hl
          · rename_i hck hf
            have hck' := pev_run _ _ hck w
            obtain ⟨r', hr1, hr2⟩ := find_rel he hf
            split at hl
            · rename_i z hz
              split at hl
              · rename_i hcz
                cases hl
                cases hr2 with
                | none =>
                  obtain ⟨μ', w', a, b1, b2⟩ := setObj_sound (P := P) (id := id) (nx := nx) r (o' := .map (es ++ [⟨k, z, clock⟩]) (clock + 1)) (ob := .map ⟨es' ++ [⟨k, z, clock⟩]⟩ (clock + 1)) hb hp h1 (fun _ _ _ => by simp) ⟨_, rfl, he.snoc clock (VR.of_closed hc) (VR.of_closed hcz)⟩
                  refine ⟨μ', .tuple ⟨[z, goInt clock]⟩, w', ?_, .tuple (.cons (VR.of_closed hcz) (.cons (.dat rfl) .nil)), b1, b2⟩
                  simp [Instr.mapEntry, run_underlying hu, run_getObj_map h1, hck', hr1, aZero_run hz, a]
              · cases hl
            · cases hl
          · cases hl
      · cases hl
    · cases hl
  · cases hl

def findBorn (n : Int) : List MapEntry → Nat → Option Nat
  | [], _ => none
  | e :: es, i => if ((e.born : Int) == n) = true then some i else findBorn n es (i + 1)
def aEntryStore (h : Heap) (x stamp v : Value) : Option Heap :=
  match x, stamp with
  | .map (some b), .int _ n =>
    match h.get b with
    | some (.map es clock) => match es.findIdx? (fun e => (e.born : Int) == n) with
      | some i => some (h.set b (some (.map (es.modify i fun e => { e with val := v }) clock)))
      | none => none
    | _ => none
  | _, _ => none
theorem findIdx_rel {n : Int} : ∀ {es es' : List MapEntry}, ESR μ es es' → es'.findIdx? (fun e => (e.born : Int) == n) = es.findIdx? (fun e => (e.born : Int) == n)
  | _, _, .nil => rfl
  | _, _, .cons a b c => by simp only [List.findIdx?_cons, findIdx_rel c]
theorem aEntryStore_sound (r : Rel μ h w) {t : TypeId} {x x' s s' v v' : Value} {h' : Heap} (hx : VR μ x x') (hs : VR μ s s') (hv : VR μ v v') (hl : aEntryStore h x s v = some h') : DoesU P (Instr.entryStore t x' s' v') id nx μ h w h' := by
  unfold aEntryStore at hl
  split at hl
  · rename_i b k n
    cases hs.eq_of_dat rfl
    split at hl
    · rename_i es clock hb
      split at hl
      · rename_i i hi
        cases hl
        cases hx with
        | dat hd => simp [dat] at hd
        | map hp =>
          rename_i p
          obtain ⟨es', h1, he⟩ := getObj_map r hb hp
          obtain ⟨μ', w', a, b'⟩ := setObj_sound (P := P) (id := id) (nx := nx) r (o' := .map (es.modify i fun e => { e with val := v }) clock) (ob := .map ⟨es'.modify i fun e => { e with val := v' }⟩ clock) hb hp h1 (fun _ _ _ => by simp) ⟨_, rfl, he.modify (f := fun e => { e with val := v }) (f' := fun e => { e with val := v' }) (fun _ _ hk _ hb => ⟨hk, hv, hb⟩) i⟩
          refine ⟨μ', w', ?_, b'⟩
          have hi' := (findIdx_rel (n := n) he).trans hi
          simp [Instr.entryStore, run_getObj_map h1, asInt, asIntOf, hi', arr_modify, a]
      · cases hl
    · cases hl
  · cases hl

/-! ### ranges -/
def aRange (P : Program) (id : Nat) (h : Heap) (t : TypeId) (x : Value) : Option (Value × Heap) :=
  match P.underlying t, x with
  | some .string, .string s => some (.pointer (some ⟨id, 0, none⟩), h.set id (some (.iterS s 0)))
  | some (.map _ _), .map none => some (.pointer (some ⟨id, 0, none⟩), h.set id (some (.iterM none 0 #[] 0)))
  | some (.map _ _), .map (some b) => match h.get b with
    | some (.map _ clock) => some (.pointer (some ⟨id, 0, none⟩), h.set id (some (.iterM (some b) clock #[] clock)))
    | _ => none
  | _, _ => none
theorem aRange_sound (r : Rel μ h w) {t : TypeId} {x x' v : Value} {h' : Heap} (hlt : id < 65536) (hid : μ id = none) (hh : h.get id = none) (hx : VR μ x x') (hl : aRange P id h t x = some (v, h')) : Does P (Instr.range t x') id nx μ h w v h' := by
  have hle := Mu.le_put (p := ⟨w.heap.size, 0, 0, .nilFunc⟩) hid
  have hv : VR (μ.put id ⟨w.heap.size, 0, 0, .nilFunc⟩) (.pointer (some ⟨id, 0, none⟩)) (.pointer (some ⟨w.heap.size, 0, none⟩)) := by
    have := VR.ptr (o := 0) (Mu.put_self μ id ⟨w.heap.size, 0, 0, .nilFunc⟩)
    simpa using this
  unfold aRange at hl
  split at hl
  · rename_i s hu
    cases hx.eq_of_dat rfl
    cases hl
    obtain ⟨h1, h2⟩ := make r (o := .iterS s 0) (ob := .stringIter s 0) nx 0 hlt hid hh ⟨rfl, rfl⟩
    exact ⟨_, _, _, by simp [Instr.range, run_underlying hu], hv, h1, h2⟩
  · rename_i hu
    cases hx.eq_of_dat rfl
    cases hl
    obtain ⟨h1, h2⟩ := make r (o := .iterM none 0 #[] 0) (ob := .mapIter none 0 #[] 0) nx 0 hlt hid hh ⟨rfl, none, rfl, rfl⟩
    exact ⟨_, _, _, by simp [Instr.range, run_underlying hu], hv, h1, h2⟩
  · rename_i b hu
    split at hl
    · rename_i es clock hb
      cases hl
      cases hx with
      | dat hd => simp [dat] at hd
      | map hp =>
        rename_i p
        obtain ⟨es', h1', he⟩ := getObj_map r hb hp
        obtain ⟨h1, h2⟩ := make r (o := .iterM (some b) clock #[] clock) (ob := .mapIter (some p.blk) clock #[] clock) nx 0 hlt hid hh ⟨rfl, some p.blk, rfl, p, hle _ _ hp, rfl⟩
        exact ⟨_, _, _, by simp [Instr.range, run_underlying hu, run_getObj_map h1'], hv, h1, h2⟩
    · cases hl
  · cases hl

def aNext (h : Heap) (it : Value) (str : Bool) : Option (Value × Heap) :=
  match it with
  | .pointer (some ⟨b, 0, none⟩) =>
    match h.get b, str with
    | some (.iterS s pos), true =>
      if pos < s.size then some (.tuple ⟨[.bool true, goInt pos, .int .i32 (Utf8.decode s pos).1]⟩, h.set b (some (.iterS s (pos + (Utf8.decode s pos).2))))
      else some (.tuple ⟨[.bool false]⟩, h)
    | some (.iterM none _ _ _), false => some (.tuple ⟨[.bool false]⟩, h)
    | some (.iterM (some m) since seen last), false =>
      match h.get m with
      | some (.map es clock) =>
        if (!seen.isEmpty && !es.isEmpty && es.all (fun e => decide (e.born ≥ last))) = true then none else
        match es.filter (fun e => !seen.contains e.born) with
        | [] => some (.tuple ⟨[.bool false]⟩, h)
        | [e] => if e.born < since then some (.tuple ⟨[.bool true, e.key, e.val]⟩, h.set b (some (.iterM (some m) since (seen.push e.born) clock))) else none
        | _ => none
      | _ => none
    | _, _ => none
  | _ => none
theorem ESR.filter {p : Nat → Bool} : ∀ {es es' : List MapEntry}, ESR μ es es' → ESR μ (es.filter fun e => p e.born) (es'.filter fun e => p e.born)
  | _, _, .nil => .nil
  | _, _, .cons (n := n) a b c => by
    simp only [List.filter_cons]
    cases p n
    · simpa using ESR.filter c
    · simpa using ESR.cons a b (ESR.filter c)
theorem ESR.all {p : Nat → Bool} : ∀ {es es' : List MapEntry}, ESR μ es es' → (es'.all fun e => p e.born) = es.all fun e => p e.born
  | _, _, .nil => rfl
  | _, _, .cons (n := n) a b c => by simp only [List.all_cons, ESR.all c]
theorem aNext_sound (r : Rel μ h w) {t : TypeId} {it it' v : Value} {str : Bool} {h' : Heap} (hx : VR μ it it') (hl : aNext h it str = some (v, h')) : Does P (Instr.next it' str t) id nx μ h w v h' := by
  unfold aNext at hl
  split at hl
  · rename_i b
    cases hx with
    | dat hd => simp [dat] at hd
    | ptr hp =>
      rename_i p
      split at hl
      · rename_i s pos hb
        obtain ⟨q, hq, hd, ho⟩ : ∃ q, μ b = some q ∧ q.disp = 0 ∧ w.heap[q.blk]? = some (.stringIter s pos) := r.live b _ hb
        rw [hp] at hq
        cases hq
        have hg : (getObj p.blk).run P w = .ok (.stringIter s pos) w := by simp [getObj, Sem.run, ho]
        split at hl
        · rename_i hlt
          cases hl
          obtain ⟨μ', w', a, b1, b2⟩ := setObj_sound (P := P) (id := id) (nx := nx) r (o' := .iterS s (pos + (Utf8.decode s pos).2)) (ob := .stringIter s (pos + (Utf8.decode s pos).2)) hb hp ho (fun _ _ _ => by simp) ⟨hd, rfl⟩
          refine ⟨μ', .tuple ⟨[.bool true, goInt pos, .int .i32 (Utf8.decode s pos).1]⟩, w', ?_, .tuple (.cons (.dat rfl) (.cons (.dat rfl) (.cons (.dat rfl) .nil))), b1, b2⟩
          simp [Instr.next, hd, hg, hlt, a]
        · rename_i hlt
          cases hl
          refine Does.still r (v' := .tuple ⟨[.bool false]⟩) ?_ (.tuple (.cons (.dat rfl) .nil))
          simp [Instr.next, hd, hg, hlt]
      · rename_i since seen last hb
        cases hl
        obtain ⟨q, hq, hd, m', ho, hm⟩ : ∃ q, μ b = some q ∧ q.disp = 0 ∧ ∃ m', w.heap[q.blk]? = some (.mapIter m' since seen last) ∧ m' = none := r.live b _ hb
        rw [hp] at hq
        cases hq
        subst hm
        have hg : (getObj p.blk).run P w = .ok (.mapIter none since seen last) w := by simp [getObj, Sem.run, ho]
        refine Does.still r (v' := .tuple ⟨[.bool false]⟩) ?_ (.tuple (.cons (.dat rfl) .nil))
        simp [Instr.next, hd, hg]
      · rename_i m since seen last hb
        obtain ⟨q, hq, hd, m', ho, q2, hm1, hm2⟩ : ∃ q, μ b = some q ∧ q.disp = 0 ∧ ∃ m', w.heap[q.blk]? = some (.mapIter m' since seen last) ∧ ∃ q2, μ m = some q2 ∧ m' = some q2.blk := r.live b _ hb
        rw [hp] at hq
        cases hq
        subst hm2
        have hg : (getObj p.blk).run P w = .ok (.mapIter (some q2.blk) since seen last) w := by simp [getObj, Sem.run, ho]
        split at hl
        · rename_i es clock hbm
          obtain ⟨es', h1, he⟩ := getObj_map r hbm hm1
          have hgm := run_getObj_map (P := P) h1
          split at hl
          · cases hl
          · rename_i hcond
            have hcond' : (!seen.isEmpty && !(⟨es'⟩ : Array MapEntry).isEmpty && (⟨es'⟩ : Array MapEntry).all (fun e => decide (e.born ≥ last))) = false := by
              have e1 : (⟨es'⟩ : Array MapEntry).isEmpty = es.isEmpty := by
                have := he.length
                cases es <;> cases es' <;> simp_all
              have e2 : (⟨es'⟩ : Array MapEntry).all (fun e => decide (e.born ≥ last)) = es.all (fun e => decide (e.born ≥ last)) := by
                rw [← Array.all_toList]
                exact he.all (p := fun n => decide (n ≥ last))
              rw [e1, e2]
              simpa using hcond
            have hf := he.filter (p := fun n => !seen.contains n)
            have hfa : (⟨es'⟩ : Array MapEntry).filter (fun e => !seen.contains e.born) = ⟨es'.filter fun e => !seen.contains e.born⟩ := Array.ext' (by simp)
            split at hl
            · rename_i hnil
              cases hl
              rw [hnil] at hf
              cases hf' : es'.filter (fun e => !seen.contains e.born) with
              | cons x xs => rw [hf'] at hf; cases hf
              | nil =>
                refine Does.still r (v' := .tuple ⟨[.bool false]⟩) ?_ (.tuple (.cons (.dat rfl) .nil))
                unfold Instr.next
                simp only [hd, Nat.zero_add, Sem.run_bind, hg, hgm, Result.andThen_ok, hcond', hfa, hf']
                simp [Question.forced]
            · rename_i e hone
              split at hl
              · rename_i hlt
                cases hl
                rw [hone] at hf
                cases hf' : es'.filter (fun e => !seen.contains e.born) with
                | nil => rw [hf'] at hf; cases hf
                | cons x xs =>
                  rw [hf'] at hf
                  cases hf with
                  | cons hk hv hn =>
                    rename_i k k' u u' n
                    cases hn
                    obtain ⟨μ', w', a, b1, b2⟩ := setObj_sound (P := P) (id := id) (nx := nx) r (o' := .iterM (some m) since (seen.push n) clock) (ob := .mapIter (some q2.blk) since (seen.push n) clock) hb hp ho (fun _ _ _ => by simp) ⟨hd, _, rfl, q2, hm1, rfl⟩
                    refine ⟨μ', .tuple ⟨[.bool true, k', u']⟩, w', ?_, .tuple (.cons (.dat rfl) (.cons (hk.mono b2.le) (.cons (hv.mono b2.le) .nil))), b1, b2⟩
                    have hlt' : ¬ (since ≤ n) := by simpa using hlt
                    have hlt2 : n < since := hlt
                    unfold Instr.next
                    simp only [hd, Nat.zero_add, Sem.run_bind, hg, hgm, Result.andThen_ok, hcond', hfa, hf']
                    simp [Question.forced, hlt', hlt2, a]
              · cases hl
            · cases hl
        · cases hl
      · cases hl
  · cases hl
end
end Go.Ge

