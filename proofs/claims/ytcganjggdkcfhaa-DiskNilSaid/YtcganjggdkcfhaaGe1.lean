/-
  Evaluation of closed calls: values up to places, an abstract heap and how a world is one.
-/
import Derived.RangeFuncIn
import Derived.OrdersIn
import Derived.DefersIn
import Derived.Laws.Cells
import Derived.Laws.World
set_option linter.unusedVariables false
set_option linter.unusedSimpArgs false
namespace Go.Ge

/-- where an abstract block lies: its block, how many cells stand ahead of it there, how many elements it may hold -/
structure Place where
  blk : Nat
  disp : Nat
  cap : Nat
  val : Value := .nilFunc
abbrev Mu := Nat → Option Place

def dat : Value → Bool
  | .bool _ | .int .. | .float .. | .complex .. | .string _ | .pointer none | .slice none _ _ | .map none | .chan none | .nilFunc | .nilIface => true
  | _ => false

mutual
inductive VR (μ : Mu) : Value → Value → Prop
  | dat {v} : dat v = true → VR μ v v
  | ptr {b o p} : μ b = some p → VR μ (.pointer (some ⟨b, o, none⟩)) (.pointer (some ⟨p.blk, o + p.disp, none⟩))
  | slice {b o p len cap} : μ b = some p → VR μ (.slice (some ⟨b, o, none⟩) len cap) (.slice (some ⟨p.blk, o + p.disp, none⟩) len cap)
  | sliceG {b o e p len} : μ b = some p → VR μ (.slice (some ⟨b, o, some e⟩) len 0) (.slice (some ⟨p.blk, o + p.disp, none⟩) len (p.cap - e))
  | sliceE {a cap} : VR μ (.slice (some ⟨0, 0, some 0⟩) 0 1) (.slice (some a) 0 cap)
  | map {r p} : μ r = some p → VR μ (.map (some r)) (.map (some p.blk))
  | opq {k p} : μ k = some p → p.val.oneCell' = true → VR μ (.chan (some k)) p.val
  | func {fn xs ys xs' ys'} : (∀ l, fn ≠ .yield l) → VRs μ xs xs' → VRs μ ys ys' → VR μ (.func fn ⟨xs⟩ ⟨ys⟩) (.func fn ⟨xs'⟩ ⟨ys'⟩)
  | yield {l p} : μ l = some p → VR μ (.func (.yield l) #[] #[]) (.func (.yield p.blk) #[] #[])
  | iface {t v v'} : VR μ v v' → VR μ (.iface t v) (.iface t v')
  | agg {xs xs'} : VRs μ xs xs' → VR μ (.agg ⟨xs⟩) (.agg ⟨xs'⟩)
  | tuple {xs xs'} : VRs μ xs xs' → VR μ (.tuple ⟨xs⟩) (.tuple ⟨xs'⟩)
inductive VRs (μ : Mu) : List Value → List Value → Prop
  | nil : VRs μ [] []
  | cons {x x' xs xs'} : VR μ x x' → VRs μ xs xs' → VRs μ (x :: xs) (x' :: xs')
end

def Mu.le (μ ν : Mu) : Prop := ∀ i p, μ i = some p → ν i = some p
theorem Mu.le_refl (μ : Mu) : Mu.le μ μ := fun _ _ h => h
theorem Mu.le_trans {a b c : Mu} (h : Mu.le a b) (k : Mu.le b c) : Mu.le a c := fun i p hi => k i p (h i p hi)

mutual
theorem VR.mono {μ ν : Mu} (h : Mu.le μ ν) {v v' : Value} : VR μ v v' → VR ν v v'
  | .dat e => .dat e
  | .ptr e => .ptr (h _ _ e)
  | .slice e => .slice (h _ _ e)
  | .sliceG e => .sliceG (h _ _ e)
  | .sliceE => .sliceE
  | .map e => .map (h _ _ e)
  | .opq e f => .opq (h _ _ e) f
  | .func f a b => .func f (VRs.mono h a) (VRs.mono h b)
  | .yield e => .yield (h _ _ e)
  | .iface a => .iface (VR.mono h a)
  | .agg a => .agg (VRs.mono h a)
  | .tuple a => .tuple (VRs.mono h a)
theorem VRs.mono {μ ν : Mu} (h : Mu.le μ ν) {v v' : List Value} : VRs μ v v' → VRs ν v v'
  | .nil => .nil
  | .cons a b => .cons (VR.mono h a) (VRs.mono h b)
end

section vrs
variable {μ : Mu}
theorem VRs.length : ∀ {xs ys : List Value}, VRs μ xs ys → xs.length = ys.length
  | _, _, .nil => rfl
  | _, _, .cons _ h => by simp [VRs.length h]
theorem VRs.get : ∀ {xs ys : List Value}, VRs μ xs ys → ∀ (i : Nat) (v : Value), xs[i]? = some v → ∃ v', ys[i]? = some v' ∧ VR μ v v'
  | _, _, .nil, i, v, h => by simp at h
  | _, _, .cons a b, 0, v, h => by simp at h; subst h; exact ⟨_, rfl, a⟩
  | _, _, .cons a b, i + 1, v, h => by simpa using VRs.get b i v (by simpa using h)
theorem VRs.mk : ∀ {xs ys : List Value}, xs.length = ys.length → (∀ (i : Nat) (v v' : Value), xs[i]? = some v → ys[i]? = some v' → VR μ v v') → VRs μ xs ys
  | [], [], _, _ => .nil
  | x :: xs, y :: ys, hl, h => .cons (h 0 x y rfl rfl) (VRs.mk (by simpa using hl) fun i v v' a b => h (i + 1) v v' (by simpa using a) (by simpa using b))
theorem VRs.append : ∀ {xs ys xs' ys' : List Value}, VRs μ xs xs' → VRs μ ys ys' → VRs μ (xs ++ ys) (xs' ++ ys')
  | _, _, _, _, .nil, h => h
  | _, _, _, _, .cons a b, h => .cons a (VRs.append b h)
theorem VRs.take : ∀ {xs xs' : List Value}, VRs μ xs xs' → ∀ n, VRs μ (xs.take n) (xs'.take n)
  | _, _, .nil, n => by simp; exact .nil
  | _, _, .cons a b, 0 => by simp; exact .nil
  | _, _, .cons a b, n + 1 => by simp; exact .cons a (VRs.take b n)
theorem VRs.drop : ∀ {xs xs' : List Value}, VRs μ xs xs' → ∀ n, VRs μ (xs.drop n) (xs'.drop n)
  | _, _, .nil, n => by simp; exact .nil
  | _, _, .cons a b, 0 => .cons a b
  | _, _, .cons a b, n + 1 => by simp; exact VRs.drop b n
theorem VRs.set : ∀ {xs xs' : List Value}, VRs μ xs xs' → ∀ (n : Nat) {v v' : Value}, VR μ v v' → VRs μ (xs.set n v) (xs'.set n v')
  | _, _, .nil, n, _, _, _ => .nil
  | _, _, .cons a b, 0, _, _, h => .cons h b
  | _, _, .cons a b, n + 1, _, _, h => .cons a (VRs.set b n h)
theorem VRs.dats : ∀ {xs : List Value}, xs.all dat = true → VRs μ xs xs
  | [], _ => .nil
  | x :: xs, h => by
    simp only [List.all_cons, Bool.and_eq_true] at h
    exact .cons (.dat h.1) (VRs.dats h.2)
end vrs

def one : Value → Bool
  | .agg _ | .tuple _ => false
  | _ => true
theorem VR.one {μ : Mu} {v v' : Value} (h : VR μ v v') (ho : one v = true) : v'.oneCell' = true := by
  cases h with
  | dat hd => cases v <;> simp_all [dat, Ge.one, Value.oneCell']
  | agg _ => simp [Ge.one] at ho
  | tuple _ => simp [Ge.one] at ho
  | opq _ hf => exact hf
  | _ => rfl

/-! ### Trees by numbers -/
inductive T (α : Type) where
  | leaf
  | val (a : α)
  | node (l r : T α)
def T.get {α : Type} : Nat → T α → Nat → Option α
  | 0, .val a, _ => some a
  | d + 1, .node l r, n => if n % 2 = 0 then T.get d l (n / 2) else T.get d r (n / 2)
  | _, _, _ => .none
def T.put {α : Type} : Nat → T α → Nat → Option α → T α
  | 0, _, _, some a => .val a
  | 0, _, _, none => .leaf
  | d + 1, .node l r, n, a => if n % 2 = 0 then .node (T.put d l (n / 2) a) r else .node l (T.put d r (n / 2) a)
  | d + 1, _, n, a => if n % 2 = 0 then .node (T.put d .leaf (n / 2) a) .leaf else .node .leaf (T.put d .leaf (n / 2) a)
theorem T.get_leaf {α : Type} : ∀ (d n : Nat), T.get d (.leaf : T α) n = none
  | 0, _ => rfl
  | _ + 1, _ => rfl
theorem T.get_put {α : Type} : ∀ (d : Nat) (t : T α) (n m : Nat) (a : Option α), n < 2 ^ d → m < 2 ^ d → T.get d (T.put d t n a) m = if m = n then a else T.get d t m
  | 0, t, n, m, a, hn, hm => by
    have : m = n := by simp at hn hm; omega
    subst this
    cases a <;> simp [T.put, T.get]
  | d + 1, t, n, m, a, hn, hm => by
    have h1 : n / 2 < 2 ^ d := by rw [Nat.pow_succ] at hn; omega
    have h2 : m / 2 < 2 ^ d := by rw [Nat.pow_succ] at hm; omega
    cases t <;> simp only [T.put]
    all_goals
      by_cases hn2 : n % 2 = 0 <;> by_cases hm2 : m % 2 = 0 <;> simp only [hn2, hm2, if_true, if_false, T.get]
      all_goals try rw [T.get_put d _ _ _ a h1 h2]
      all_goals try rw [T.get_leaf]
      all_goals by_cases h : m = n
      all_goals first
        | (subst h; simp_all; done)
        | (have h3 : m / 2 ≠ n / 2 := by omega
           simp [h, h3])
        | (simp [h])

def rget (R : T Value) (t : Nat) : Option Value := if t < 1024 then some ((T.get 10 R t).getD undef) else none

/-- what an abstract block holds -/
structure ALoop where
  state : LoopState
  pending : Option Code
  tmps : T Value
  n : Nat
  params : Array Tmp
  assign : Code
  body : Code
  defers : Nat
inductive AObj where
  | cells (c : List Value) (e : TypeId) (g : Option Nat)
  | map (es : List MapEntry) (clock : Nat)
  | iterM (m : Option Nat) (since : Nat) (seen : Array Nat) (stepped : Nat)
  | iterS (s : ByteArray) (pos : Nat)
  | loop (l : ALoop)
  | mark
  | spent
  | tab (id : Nat) (c : List Value)
def AObj.isTab : AObj → Bool
  | .tab .. => true
  | _ => false

inductive ESR (μ : Mu) : List MapEntry → List MapEntry → Prop
  | nil : ESR μ [] []
  | cons {k k' v v' : Value} {n : Nat} {xs xs' : List MapEntry} : VR μ k k' → VR μ v v' → ESR μ xs xs' → ESR μ (⟨k, v, n⟩ :: xs) (⟨k', v', n⟩ :: xs')
theorem ESR.mono {μ ν : Mu} (h : Mu.le μ ν) : ∀ {xs xs' : List MapEntry}, ESR μ xs xs' → ESR ν xs xs'
  | _, _, .nil => .nil
  | _, _, .cons a b c => .cons (a.mono h) (b.mono h) (ESR.mono h c)

/-- how long a row is in the world -/
def GrowOk (g : Option Nat) (p : Place) (n m : Nat) : Prop := match g with | none => p.disp = 0 ∧ n = m | some s => n = p.disp + p.cap * s ∧ m ≤ p.cap * s
/-- a row's cells may be written: what is marked lies behind them -/
def FzOk (fz : Nat × Nat) (n : Nat) : Prop := fz = (0, 0) ∨ fz = (n, n + 1)
theorem FzOk.zero (n : Nat) : FzOk (0, 0) n := .inl rfl
/-- an object of the world is an abstract block's -/
def ObjR (μ : Mu) (ob : Option Obj) (p : Place) : AObj → Prop
  | .cells c e g => ∃ (c' : Array Value) (fz : Nat × Nat), ob = some (.cells c' e fz) ∧ FzOk fz c'.size ∧ (∀ (i : Nat) (v : Value), c[i]? = some v → ∃ v', c'[i + p.disp]? = some v' ∧ VR μ v v') ∧
      GrowOk g p c'.size c.length
  | .map es clock => ∃ es', ob = some (.map ⟨es'⟩ clock) ∧ ESR μ es es'
  | .iterM m since seen stepped => p.disp = 0 ∧ ∃ m' , ob = some (.mapIter m' since seen stepped) ∧ (match m with | none => m' = none | some r => ∃ q, μ r = some q ∧ m' = some q.blk)
  | .iterS s pos => p.disp = 0 ∧ ob = some (.stringIter s pos)
  | .loop l => p.disp = 0 ∧ ∃ (fn : FuncId) (tmps' : Array Value) (q : Place), ob = some (.loop { state := l.state, pending := l.pending, fn := fn, tmps := tmps', params := l.params, assign := l.assign, body := l.body, defers := q.blk }) ∧ μ l.defers = some q ∧ l.n ≤ tmps'.size ∧ ∀ t v, rget l.tmps t = some v → VR μ v (tmps'.getD t undef)
  | .mark => ob = some (.deferred (some []))
  | .spent => ob = some (.deferred none)
  | .tab id c => p = ⟨id, 0, 0, .nilFunc⟩ ∧ ∃ (c' : Array Value) (e : TypeId) (fz : Nat × Nat), ob = some (.cells c' e fz) ∧ ∀ (i : Nat) (v : Value), c[i]? = some v → c'[i]? = some v ∧ dat v = true
theorem ObjR.mono {μ ν : Mu} (h : Mu.le μ ν) {ob : Option Obj} {p : Place} {o : AObj} (r : ObjR μ ob p o) : ObjR ν ob p o := by
  cases o with
  | cells c e g => obtain ⟨c', fz, h1, hz, h2, h3⟩ := r; exact ⟨c', fz, h1, hz, fun i v hi => let ⟨v', a, b⟩ := h2 i v hi; ⟨v', a, b.mono h⟩, h3⟩
  | map es clock => obtain ⟨es', h1, h2⟩ := r; exact ⟨es', h1, h2.mono h⟩
  | iterM m since seen stepped =>
    obtain ⟨h0, m', h1, h2⟩ := r
    refine ⟨h0, m', h1, ?_⟩
    cases m with
    | none => exact h2
    | some r => obtain ⟨q, a, b⟩ := h2; exact ⟨q, h _ _ a, b⟩
  | iterS s pos => exact r
  | loop l => obtain ⟨h0, fn, t, q, h1, h2, h3, h4⟩ := r; exact ⟨h0, fn, t, q, h1, h _ _ h2, h3, fun t v ht => (h4 t v ht).mono h⟩
  | mark => exact r
  | spent => exact r
  | tab id c => exact r
theorem ObjR.some {μ : Mu} {ob : Option Obj} {p : Place} {o : AObj} (r : ObjR μ ob p o) : ob.isSome = true := by
  cases o with
  | cells c e g => obtain ⟨c', fz, h1, hz, h2, h3⟩ := r; simp [h1]
  | map es clock => obtain ⟨es', h1, h2⟩ := r; simp [h1]
  | iterM m since seen stepped => obtain ⟨h0, m', h1, h2⟩ := r; simp [h1]
  | iterS s pos => obtain ⟨h0, h1⟩ := r; simp [h1]
  | loop l => obtain ⟨h0, fn, t, q, h1, h2⟩ := r; simp [h1]
  | mark => simp [show ob = _ from r]
  | spent => simp [show ob = _ from r]
  | tab id c => obtain ⟨_, c', e, fz, h1, _⟩ := r; simp [h1]

abbrev Heap := T AObj
def Heap.get (h : Heap) (i : Nat) : Option AObj := if i < 65536 then T.get 16 h i else none
def Heap.set (h : Heap) (i : Nat) (o : Option AObj) : Heap := T.put 16 h i o
theorem Heap.get_set (h : Heap) (i j : Nat) (o : Option AObj) (hi : i < 65536) : (Heap.set h i o).get j = if j = i then o else h.get j := by
  unfold Heap.get Heap.set
  by_cases hj : j < 65536
  · rw [if_pos hj, if_pos hj, T.get_put 16 h i j o hi hj]
  · rw [if_neg hj, if_neg hj]
    have : j ≠ i := by omega
    simp [this]

structure Rel (μ : Mu) (h : Heap) (w : World) : Prop where
  live : ∀ i o, h.get i = some o → ∃ p, μ i = some p ∧ ObjR μ w.heap[p.blk]? p o
  inj : ∀ i j o o' p q, h.get i = some o → h.get j = some o' → μ i = some p → μ j = some q → p.blk = q.blk → i = j

/-- block k of the world is no live block's -/
def Free (μ : Mu) (h : Heap) (k : Nat) : Prop := ∀ j o p, h.get j = some o → o.isTab = false → μ j = some p → p.blk ≠ k

structure Goes (id nx : Nat) (μ : Mu) (h : Heap) (w : World) (μ' : Mu) (h' : Heap) (w' : World) : Prop where
  le : μ.le μ'
  news : ∀ i p, μ' i = some p → μ i = some p ∨ w.heap.size ≤ p.blk ∨ ¬ Free μ h p.blk
  low : ∀ i, i < nx → i ≠ id → μ' i = μ i ∧ (h.get i = none → h'.get i = none)
  old : ∀ j p, μ j = some p → h.get j = none → h'.get j = none
  tabs : ∀ j o, h.get j = some o → o.isTab = true → h'.get j = some o
  frame : ∀ k, k < w.heap.size → Free μ h k → w'.heap[k]? = w.heap[k]?
  size : w.heap.size ≤ w'.heap.size
  os : w'.os = w.os
  tape : w'.tape = w.tape
  output : w'.output = w.output

theorem Goes.refl (id nx : Nat) (μ : Mu) (h : Heap) (w : World) : Goes id nx μ h w μ h w :=
  ⟨Mu.le_refl _, fun _ _ e => .inl e, fun _ _ _ => ⟨rfl, fun h => h⟩, fun _ _ _ h => h, fun _ _ h _ => h, fun _ _ _ => rfl, Nat.le_refl _, rfl, rfl, rfl⟩
theorem Goes.mono {id id' nx nx' : Nat} {μ μ' : Mu} {h h' : Heap} {w w' : World} (g : Goes id nx μ h w μ' h' w') (hn : nx' ≤ nx) (hi : id = id' ∨ nx' ≤ id) : Goes id' nx' μ h w μ' h' w' :=
  ⟨g.le, g.news, fun i h1 h2 => g.low i (by omega) (by omega), g.old, g.tabs, g.frame, g.size, g.os, g.tape, g.output⟩

theorem Rel.blk_lt {μ : Mu} {h : Heap} {w : World} (r : Rel μ h w) {i : Nat} {o : AObj} {p : Place} (hi : h.get i = some o) (hp : μ i = some p) : p.blk < w.heap.size := by
  obtain ⟨q, hq, ho⟩ := r.live i o hi
  rw [hp] at hq
  cases hq
  have := ho.some
  rcases Nat.lt_or_ge p.blk w.heap.size with h | h
  · exact h
  · rw [Array.getElem?_eq_none h] at this; cases this

/-- a block free ahead of the step is free behind it, if it was there -/
theorem Goes.free {id nx : Nat} {μ μ' : Mu} {h h' : Heap} {w w' : World} (g : Goes id nx μ h w μ' h' w') {k : Nat} (hk : k < w.heap.size) (hf : Free μ h k) : Free μ' h' k := by
  intro j o p hj ht hp e
  rcases g.news j p hp with h1 | h1 | h1
  · cases ho : h.get j with
    | none => rw [g.old j p h1 ho] at hj; cases hj
    | some o' =>
      cases ht' : o'.isTab with
      | false => exact hf j o' p ho ht' h1 e
      | true => rw [g.tabs j o' ho ht'] at hj; cases hj; rw [ht] at ht'; cases ht'
  · omega
  · subst e; exact h1 hf
theorem Goes.trans {id nx : Nat} {μ μ₁ μ₂ : Mu} {h h₁ h₂ : Heap} {w w₁ w₂ : World} (a : Goes id nx μ h w μ₁ h₁ w₁) (b : Goes id nx μ₁ h₁ w₁ μ₂ h₂ w₂) : Goes id nx μ h w μ₂ h₂ w₂ where
  le := Mu.le_trans a.le b.le
  news i p hp := by
    rcases b.news i p hp with h1 | h1 | h1
    · exact a.news i p h1
    · exact .inr (.inl (Nat.le_trans a.size h1))
    · rcases Nat.lt_or_ge p.blk w.heap.size with hk | hk
      · exact .inr (.inr fun hf => h1 (a.free hk hf))
      · exact .inr (.inl hk)
  low i h1 h2 := ⟨(b.low i h1 h2).1.trans (a.low i h1 h2).1, fun h0 => (b.low i h1 h2).2 ((a.low i h1 h2).2 h0)⟩
  old j p hp hj := b.old j p (a.le _ _ hp) (a.old j p hp hj)
  tabs j o hj ht := b.tabs j o (a.tabs j o hj ht) ht
  frame k hk hf := (b.frame k (Nat.lt_of_lt_of_le hk a.size) (a.free hk hf)).trans (a.frame k hk hf)
  size := Nat.le_trans a.size b.size
  os := b.os.trans a.os
  tape := b.tape.trans a.tape
  output := b.output.trans a.output

/-- a draw -/
theorem Goes.drew {id nx : Nat} {μ μ' : Mu} {h h' : Heap} {w w' : World} (g : Goes id nx μ h w μ' h' w') (n : Nat) : Goes id nx μ h w μ' h' { w' with drawn := n } :=
  ⟨g.le, g.news, g.low, g.old, g.tabs, g.frame, g.size, g.os, g.tape, g.output⟩
theorem Rel.drew {μ : Mu} {h : Heap} {w : World} (r : Rel μ h w) (n : Nat) : Rel μ h { w with drawn := n } := ⟨r.live, r.inj⟩

/-- one live block is written -/
theorem write {μ : Mu} {h : Heap} {w w' : World} (r : Rel μ h w) {b : Nat} {o o' : AObj} {p : Place} (id nx : Nat) (hb : h.get b = some o) (hnt : o.isTab = false) (hp : μ b = some p)
    (hs : w'.heap.size = w.heap.size) (hob : ObjR μ w'.heap[p.blk]? p o') (hk : ∀ k, k ≠ p.blk → w'.heap[k]? = w.heap[k]?) (h1 : w'.os = w.os) (h2 : w'.tape = w.tape) (h3 : w'.output = w.output) :
    Rel μ (h.set b (some o')) w' ∧ Goes id nx μ h w μ (h.set b (some o')) w' := by
  have hlt : b < 65536 := by
    unfold Heap.get at hb
    split at hb
    · assumption
    · cases hb
  refine ⟨⟨fun i o₁ hi => ?_, fun i j o₁ o₂ q₁ q₂ hi hj hq₁ hq₂ e => ?_⟩, Mu.le_refl _, fun _ _ e => .inl e, fun i _ _ => ⟨rfl, fun h0 => ?_⟩, fun j q hq h0 => ?_, fun j q hj ht => ?_, fun k hk1 hf => hk k fun e => hf b o p hb hnt hp e.symm, Nat.le_of_eq hs.symm, h1, h2, h3⟩
  · rw [Heap.get_set _ _ _ _ hlt] at hi
    split at hi
    · rename_i e; subst e; cases hi; exact ⟨p, hp, hob⟩
    · rename_i e
      obtain ⟨q, hq, hr⟩ := r.live i o₁ hi
      refine ⟨q, hq, ?_⟩
      rw [hk q.blk fun e' => e (r.inj i b o₁ o q p hi hb hq hp e')]
      exact hr
  · rw [Heap.get_set _ _ _ _ hlt] at hi hj
    have f : ∀ (i : Nat) (o₁ : AObj), (if i = b then some o' else h.get i) = some o₁ → ∃ o₁, h.get i = some o₁ := by
      intro i o₁ hi
      split at hi
      · rename_i e; subst e; exact ⟨o, hb⟩
      · exact ⟨o₁, hi⟩
    obtain ⟨_, hi'⟩ := f i o₁ hi
    obtain ⟨_, hj'⟩ := f j o₂ hj
    exact r.inj i j _ _ q₁ q₂ hi' hj' hq₁ hq₂ e
  · rw [Heap.get_set _ _ _ _ hlt]
    split
    · rename_i e; subst e; rw [hb] at h0; cases h0
    · exact h0
  · rw [Heap.get_set _ _ _ _ hlt]
    split
    · rename_i e; subst e; rw [hb] at h0; cases h0
    · exact h0

  · rw [Heap.get_set _ _ _ _ hlt]
    split
    · rename_i e; subst e; rw [hb] at hj; cases hj; rw [hnt] at ht; cases ht
    · exact hj

def Mu.put (μ : Mu) (b : Nat) (p : Place) : Mu := fun i => if i = b then some p else μ i
theorem Mu.le_put {μ : Mu} {b : Nat} {p : Place} (h : μ b = none) : μ.le (μ.put b p) := by
  intro i q hi
  unfold Mu.put
  split
  · rename_i e; subst e; rw [h] at hi; cases hi
  · exact hi
theorem Mu.put_self (μ : Mu) (b : Nat) (p : Place) : μ.put b p b = some p := by simp [Mu.put]

/-- a block is made -/
theorem make {μ : Mu} {h : Heap} {w : World} (r : Rel μ h w) {b : Nat} {o : AObj} {ob : Obj} (nx cap : Nat) (hlt : b < 65536) (hb : μ b = none) (hh : h.get b = none)
    (hob : ObjR (μ.put b ⟨w.heap.size, 0, cap, .nilFunc⟩) (some ob) ⟨w.heap.size, 0, cap, .nilFunc⟩ o) :
    Rel (μ.put b ⟨w.heap.size, 0, cap, .nilFunc⟩) (h.set b (some o)) (w.alloc ob) ∧ Goes b nx μ h w (μ.put b ⟨w.heap.size, 0, cap, .nilFunc⟩) (h.set b (some o)) (w.alloc ob) := by
  have hle := Mu.le_put (p := ⟨w.heap.size, 0, cap, .nilFunc⟩) hb
  have hnew : (w.alloc ob).heap[w.heap.size]? = some ob := by show (w.heap.push ob)[w.heap.size]? = _; simp
  have hold : ∀ k, k ≠ w.heap.size → (w.alloc ob).heap[k]? = w.heap[k]? := fun k hk => by
    show (w.heap.push ob)[k]? = _
    rw [Array.getElem?_push, if_neg hk]
  refine ⟨⟨fun i o₁ hi => ?_, fun i j o₁ o₂ q₁ q₂ hi hj hq₁ hq₂ e => ?_⟩, hle, fun i q hq => ?_, fun i _ hne => ⟨by simp [Mu.put, hne], fun h0 => ?_⟩, fun j q hq h0 => ?_, fun j q hj ht => ?_, fun k hk1 hf => hold k (by omega), by show _ ≤ (w.heap.push ob).size; simp, rfl, rfl, rfl⟩
  · rw [Heap.get_set _ _ _ _ hlt] at hi
    split at hi
    · rename_i e; subst e; cases hi; exact ⟨_, Mu.put_self _ _ _, by rw [hnew]; exact hob⟩
    · obtain ⟨q, hq, hr⟩ := r.live i o₁ hi
      have := r.blk_lt hi hq
      exact ⟨q, hle _ _ hq, by rw [hold q.blk (by omega)]; exact hr.mono hle⟩
  · rw [Heap.get_set _ _ _ _ hlt] at hi hj
    unfold Mu.put at hq₁ hq₂
    split at hi <;> split at hj
    · omega
    · rename_i e1 e2
      rw [if_pos e1] at hq₁; rw [if_neg e2] at hq₂
      cases hq₁
      have := r.blk_lt hj hq₂
      simp at e; omega
    · rename_i e1 e2
      rw [if_neg e1] at hq₁; rw [if_pos e2] at hq₂
      cases hq₂
      have := r.blk_lt hi hq₁
      simp at e; omega
    · rename_i e1 e2
      rw [if_neg e1] at hq₁; rw [if_neg e2] at hq₂
      exact r.inj i j _ _ q₁ q₂ hi hj hq₁ hq₂ e
  · unfold Mu.put at hq
    split at hq
    · cases hq; exact .inr (.inl (Nat.le_refl _))
    · exact .inl hq
  · rw [Heap.get_set _ _ _ _ hlt, if_neg hne]; exact h0
  · rw [Heap.get_set _ _ _ _ hlt]
    split
    · rename_i e; subst e; rw [hb] at hq; cases hq
    · exact h0
  · rw [Heap.get_set _ _ _ _ hlt]
    split
    · rename_i e; subst e; rw [hh] at hj; cases hj
    · exact hj
end Go.Ge
