/-
  Evaluation of closed calls: frames, operations that call, regions in order.
-/
import Derived.Test.YtcganjggdkcfhaaGe11
set_option linter.unusedVariables false
set_option linter.unusedSimpArgs false
namespace Go.Ge

def W (r : Option Nat) : Fence := { Fence.wide with round := r }

structure AS where
  h : Heap
  nx : Nat
structure Evs where
  call : FuncId → List Value → AS → Option (Value × AS)
  round : Nat → List Value → AS → Option (Value × AS)

def rput (R : T Value) (n : Nat) (dst : Option Tmp) (v : Value) : Option (T Value) :=
  match dst with
  | none => some R
  | some d => if d < n ∧ d < 1024 then some (T.put 10 R d (some v)) else none
def aev (R : T Value) (h : Heap) : Operand → Option Value
  | .tmp t => rget R t
  | .const v => if closed v = true then some v else none
  | .func f => some (.func (.func f) #[] #[])
  | .global g => match h.get g with
    | some (.tab g' _) => if g' = g then some (.pointer (some ⟨g, 0, none⟩)) else none
    | _ => none

structure Good (μ : Mu) (S : AS) (w : World) : Prop where
  rel : Rel μ S.h w
  dom : ∀ i, S.nx ≤ i → i < 65536 → μ i = none
/-- marks among the deferred calls -/
inductive DR (μ : Mu) : List Nat → List Deferred → Prop
  | nil : DR μ [] []
  | cons {d : Nat} {p : Place} {ds : List Nat} {xs : List Deferred} : μ d = some p → DR μ ds xs → DR μ (d :: ds) ({ target := .collected p.blk, args := #[] } :: xs)
theorem DR.mono {μ ν : Mu} (h : μ.le ν) : ∀ {ds : List Nat} {xs : List Deferred}, DR μ ds xs → DR ν ds xs
  | _, _, .nil => .nil
  | _, _, .cons a b => .cons (h _ _ a) (DR.mono h b)
structure FrR (μ : Mu) (R : T Value) (n : Nat) (D : List Nat) (a : Act) : Prop where
  sz : n ≤ a.tmps.size
  reg : ∀ t v, rget R t = some v → VR μ v (a.tmps.getD t undef)
  dn : DR μ D a.defers
structure Fs where
  R : T Value
  D : List Nat

section
variable {P : Program} {μ : Mu} {w : World} {R R' : T Value} {n : Nat} {D : List Nat} {a : Act} {S S' : AS}

theorem FrR.mono {ν : Mu} (hl : μ.le ν) (f : FrR μ R n D a) : FrR ν R n D a := ⟨f.sz, fun t v h => (f.reg t v h).mono hl, f.dn.mono hl⟩
theorem FrR.ev {h : Heap} (f : FrR μ R n D a) (r : Rel μ h w) : EvR μ (aev R h) a.eval := by
  intro x v hx
  cases x with
  | tmp t => exact f.reg t v hx
  | const u =>
    simp only [aev] at hx
    split at hx
    · rename_i hc; cases hx; exact VR.of_closed hc
    · cases hx
  | func g => simp only [aev] at hx; cases hx; exact .func (fun _ => by simp) .nil .nil
  | global g =>
    simp only [aev] at hx
    split at hx
    · rename_i g' c hg
      split at hx
      · rename_i e
        subst e
        cases hx
        obtain ⟨q, hq, rfl, _⟩ := r.live _ _ hg
        have := VR.ptr (o := 0) hq
        exact (by simpa using this : VR μ (.pointer (some ⟨g', 0, none⟩)) (.pointer (some ⟨g', 0, none⟩)))
      · cases hx
    · cases hx
theorem FrR.put (f : FrR μ R n D a) {dst : Option Tmp} {v v' : Value} (hv : VR μ v v') (hl : rput R n dst v = some R') : FrR μ R' n D (a.put dst v') := by
  cases dst with
  | none => simp only [rput] at hl; cases hl; exact f
  | some d =>
    simp only [rput] at hl
    split at hl
    · rename_i hd
      cases hl
      refine ⟨by simpa [Act.put] using f.sz, fun t u ht => ?_, f.dn⟩
      unfold rget at ht
      split at ht
      · rename_i h2
        rw [T.get_put 10 R d t (some v) hd.2 h2] at ht
        by_cases e : t = d
        · subst e
          simp at ht
          subst ht
          have : t < a.tmps.size := Nat.lt_of_lt_of_le hd.1 f.sz
          simpa [Act.put, Array.getD_eq_getD_getElem?, this] using hv
        · rw [if_neg e] at ht
          have := f.reg t u (by unfold rget; rw [if_pos h2]; exact ht)
          have e' : ¬ d = t := fun x => e x.symm
          simpa [Act.put, Array.getD_eq_getD_getElem?, Array.getElem?_setIfInBounds, e'] using this
      · cases ht
    · cases hl

/-- an operation is wanted, or not -/
def wantedB (R : T Value) (ops : Array Oper) (o : Oper) : Option Bool :=
  match o.guard with
  | none => some true
  | some (j, want) => match (ops[j]?).bind (·.dst) with
    | some d => match rget R d with
      | some (.bool b) => some (b == want)
      | _ => none
    | none => none
theorem wantedB_eq (f : FrR μ R n D a) {ops : Array Oper} {o : Oper} {q : Bool} (hl : wantedB R ops o = some q) : Region.wanted o (yielded ops a.tmps) = q := by
  unfold wantedB at hl
  unfold Region.wanted
  split at hl
  · rename_i hg; cases hl; rw [hg]
  · rename_i j want hg
    rw [hg]
    split at hl
    · rename_i d hd
      split at hl
      · rename_i b hb
        cases hl
        have hv := (f.reg d _ hb).eq_of_dat rfl
        have hs : a.tmps[d]? = some (.bool b) := by
          rw [Array.getD_eq_getD_getElem?] at hv
          cases h : a.tmps[d]? with
          | none => rw [h] at hv; simp [undef] at hv
          | some x => rw [h] at hv; simp at hv; rw [hv]
        have hy : yielded ops a.tmps j = some b := by
          unfold yielded
          rw [hd]
          simp [hs]
        simp [hy]
      · cases hl
    · cases hl

/-- how a call ends -/
def Ends (μ : Mu) (S : AS) (w : World) (v : Value) (S' : AS) : Ending → World → Prop := fun e w' =>
  ∃ v' μ', e = .returned v' ∧ VR μ' v v' ∧ Good μ' S' w' ∧ Goes S.nx S.nx μ S.h w μ' S'.h w' ∧ S.nx ≤ S'.nx

structure EvsOk (P : Program) (E : Evs) : Prop where
  call : ∀ f args S v S', E.call f args S = some (v, S') → ∀ μ w args', Good μ S w → VRs μ args args' → CallsIn (W none) 0 P f args'.toArray w (Ends μ S w v S')
  round : ∀ l args S v S', E.round l args S = some (v, S') → ∀ μ w p args', Good μ S w → μ l = some p → VRs μ args args' →
    ∃ f tmps assign body, (Instr.yield p.blk args'.toArray).run P w = .ok (.round p.blk f tmps assign body) w ∧ RoundIn (W none) 0 P p.blk f tmps assign body w (Ends μ S w v S')

def enterOk (P : Program) (f : FuncId) : Bool := match P.funcs[f]? with
  | some fn => fn.body.isSome && !(fn.name == "runtime.NumGoroutine")
  | none => false
theorem enterOk_run {f : FuncId} {args : Array Value} (hf : enterOk P f = true) (w : World) : (callFunc f args).run P w = .ok (.enter f args) w := by
  unfold enterOk at hf
  split at hf
  · rename_i fn hfn
    simp only [Bool.and_eq_true, Bool.not_eq_true'] at hf
    obtain ⟨h1, h2⟩ := hf
    have h4 : ¬ fn.name = "runtime.NumGoroutine" := by simpa using h2
    cases hb : fn.body with
    | none => rw [hb] at h1; cases h1
    | some c => simp [callFunc, hfn, h4, hb]
  · cases hf

/-- one operation: v and what there is behind it; a block that it makes gets the name id -/
def opStep (P : Program) (E : Evs) (ev : Operand → Option Value) (id : Nat) (o : Oper) (S : AS) : Option (Value × AS) :=
  match o.op with
  | .call c =>
    match c.callee with
    | .value f =>
      match ev f, evL ev c.args.toList with
      | some (.func (.func g) first captured), some args => if enterOk P g = true then E.call g (first.toList ++ args ++ captured.toList) S else none
      | some (.func (.yield l) first captured), some args => if first.toList.isEmpty = true ∧ captured.toList.isEmpty = true then E.round l args S else none
      | _, _ => none
    | .builtin b => match aop P id S.h ev o.op with
      | some (v, h) => some (v, ⟨h, S.nx⟩)
      | none => none
    | .invoke _ _ => none
  | _ => match aop P id S.h ev o.op with
    | some (v, h) => some (v, ⟨h, S.nx⟩)
    | none => none

/-- behind one operation -/
structure Behind (id : Nat) (μ : Mu) (S : AS) (w : World) (μ' : Mu) (S' : AS) (w' : World) : Prop where
  good : Good μ' S' w'
  goes : Goes id S.nx μ S.h w μ' S'.h w'
  nx : S.nx ≤ S'.nx

theorem aop_defer {id : Nat} {h : Heap} {ev : Operand → Option Value} {op : Op} {x : Value × Heap} (hl : aop P id h ev op = some x) (c : Call) : op ≠ .defer c := by
  rintro rfl; simp only [aop] at hl; cases hl
/-- an operation that runs no code makes no name but its own -/
theorem plain_wp {r : Option Nat} {ev : Operand → Option Value} {id : Nat} {o : Oper} {v : Value} {h' : Heap} {K : Act → World → Prop} {Q : Exit → Act → World → Prop}
    (g : Good μ S w) (hev : EvR μ ev a.eval) (hid : μ id = none) (hlt : id < S.nx) (hl : aop P id S.h ev o.op = some (v, h'))
    (hK : ∀ μ' v' w', VR μ' v v' → Behind id μ S w μ' ⟨h', S.nx⟩ w' → K (a.put o.dst v') w') : o.wpIn (W r) 0 P a w K Q := by
  have hh : S.h.get id = none := by
    cases hg : S.h.get id with
    | none => rfl
    | some o => obtain ⟨p, hp, _⟩ := g.rel.live id o hg; rw [hid] at hp; cases hp
  obtain ⟨μ', v', w', hrun, hv, hr, hg⟩ := aop_sound (P := P) (id := id) (nx := max 65536 S.nx) (o := o) g.rel hev hid hh hl
  refine ⟨fun _ _ => trivial, ?_⟩
  rw [Oper.semAt_eq _ _ _ (aop_defer hl)]
  have hb : Behind id μ S w μ' ⟨h', S.nx⟩ w' := ⟨⟨hr, fun i h1 h2 => by dsimp only at h1; rw [(hg.low i (by omega) (by omega)).1]; exact g.dom i h1 h2⟩, hg.mono (by omega) (.inl rfl), Nat.le_refl _⟩
  rcases hrun with hrun | ⟨hrun, rfl⟩
  · rw [hrun]; exact hK μ' v' w' hv hb
  · rw [hrun]; exact hK μ' undef w' hv hb

theorem Behind.of_ends {id : Nat} {v : Value} {e : Ending} {w' : World} (hlt : id < S.nx) (h : Ends μ S w v S' e w') : ∃ v' μ', e = .returned v' ∧ VR μ' v v' ∧ Behind id μ S w μ' S' w' := by
  obtain ⟨v', μ', h1, h2, h3, h4, h5⟩ := h
  exact ⟨v', μ', h1, h2, h3, h4.mono (Nat.le_refl _) (.inr (Nat.le_refl _)), h5⟩

theorem opStep_wp {E : Evs} (hE : EvsOk P E) {r : Option Nat} {ev : Operand → Option Value} {id : Nat} {o : Oper} {v : Value} {K : Act → World → Prop} {Q : Exit → Act → World → Prop}
    (g : Good μ S w) (hev : EvR μ ev a.eval) (hid : μ id = none) (hlt : id < S.nx) (hl : opStep P E ev id o S = some (v, S'))
    (hK : ∀ μ' v' w', VR μ' v v' → Behind id μ S w μ' S' w' → K (a.put o.dst v') w') : o.wpIn (W r) 0 P a w K Q := by
  have plain : (match aop P id S.h ev o.op with
      | some (v, h) => some (v, (⟨h, S.nx⟩ : AS))
      | none => none) = some (v, S') → o.wpIn (W r) 0 P a w K Q := by
    intro hl
    split at hl
    · rename_i v' h' hop
      cases hl
      exact plain_wp g hev hid hlt hop hK
    · cases hl
  unfold opStep at hl
  split at hl
  · rename_i c hop
    split at hl
    · rename_i f hc
      have hsem : o.semAt (W r).round a.eval = (do let d ← resolve a.eval c o.type; invoke d.target d.args) := by
        rw [Oper.semAt_eq _ _ _ (fun c' e => by rw [hop] at e; cases e)]
        unfold execOp
        rw [hop]
      split at hl
      · rename_i g' first captured args hf hargs
        split at hl
        · rename_i hok
          have hfv := hev _ _ hf
          have hav := evL_rel hev _ _ hargs
          have e1 : c.args.map a.eval = (c.args.toList.map a.eval).toArray := Array.ext' (by simp)
          obtain ⟨xs', ys', hval, hxs, hys⟩ : ∃ xs' ys' : List Value, a.eval f = .func (.func g') ⟨xs'⟩ ⟨ys'⟩ ∧ VRs μ first.toList xs' ∧ VRs μ captured.toList ys' := by
            generalize a.eval f = fv at hfv
            cases hfv with
            | dat hd => simp [dat] at hd
            | func _ h1 h2 => exact ⟨_, _, rfl, h1, h2⟩
          refine ⟨fun _ _ => trivial, ?_⟩
          rw [hsem]
          have hrun : (do let d ← resolve a.eval c o.type; invoke d.target d.args : Sem Next).run P w = .ok (.enter g' (xs' ++ c.args.toList.map a.eval ++ ys').toArray) w := by
            simp [resolve, hc, hval, Deferred.ofValue, invoke, enterOk_run hok]
          rw [hrun]
          refine ⟨fun hd => (by cases hd), ?_⟩
          refine CallsIn.mono (hE.call _ _ _ _ _ hl μ w _ g ((hxs.append hav).append hys)) fun e w' he => ?_
          obtain ⟨v', μ', rfl, hv, hb⟩ := Behind.of_ends hlt he
          exact hK μ' v' w' hv hb
        · cases hl
      · rename_i l first captured args hf hargs
        split at hl
        · rename_i hempty
          have hfv := hev _ _ hf
          have hav := evL_rel hev _ _ hargs
          have e1 : c.args.map a.eval = (c.args.toList.map a.eval).toArray := Array.ext' (by simp)
          obtain ⟨p, hp, hval⟩ : ∃ p, μ l = some p ∧ a.eval f = .func (.yield p.blk) #[] #[] := by
            generalize a.eval f = fv at hfv
            cases hfv with
            | dat hd => simp [dat] at hd
            | func h _ _ => exact absurd rfl (h l)
            | yield hp => exact ⟨_, hp, rfl⟩
          obtain ⟨f', tmps, assign, body, hy, hround⟩ := hE.round _ _ _ _ _ hl μ w p _ g hp hav
          refine ⟨fun _ _ => trivial, ?_⟩
          rw [hsem]
          have hrun : (do let d ← resolve a.eval c o.type; invoke d.target d.args : Sem Next).run P w = .ok (.round p.blk f' tmps assign body) w := by
            simp [resolve, hc, hval, Deferred.ofValue, invoke]
            rw [e1]
            exact hy
          rw [hrun]
          refine ⟨fun hd => (by cases hd), ?_⟩
          refine RoundIn.mono hround fun e w' he => ?_
          obtain ⟨v', μ', rfl, hv, hb⟩ := Behind.of_ends hlt he
          exact hK μ' v' w' hv hb
        · cases hl
      · cases hl
    · exact plain hl
    · cases hl
  · exact plain hl

/-! ### regions in order -/
def seqOps (P : Program) (E : Evs) (ops : Array Oper) (n : Nat) : List Nat → T Value → AS → Option (T Value × AS)
  | [], R, S => some (R, S)
  | i :: rest, R, S =>
    match ops[i]? with
    | none => none
    | some o =>
      match wantedB R ops o with
      | some true =>
        if S.nx < 65536 then
          match opStep P E (aev R S.h) S.nx o ⟨S.h, S.nx + 1⟩ with
          | some (v, S') => match rput R n o.dst v with
            | some R' => seqOps P E ops n rest R' S'
            | none => none
          | none => none
        else none
      | some false => match rput R n o.dst undef with
        | some R' => seqOps P E ops n rest R' S
        | none => none
      | none => none

/-- behind a piece of code -/
structure Past (μ : Mu) (S : AS) (w : World) (n : Nat) (μ' : Mu) (F' : Fs) (S' : AS) (a' : Act) (w' : World) : Prop where
  good : Good μ' S' w'
  fr : FrR μ' F'.R n F'.D a'
  goes : Goes S.nx S.nx μ S.h w μ' S'.h w'
  nx : S.nx ≤ S'.nx
theorem Past.trans {μ₁ μ₂ : Mu} {S₁ S₂ : AS} {R₁ R₂ : Fs} {a₁ a₂ : Act} {w₁ w₂ : World} (x : Past μ S w n μ₁ R₁ S₁ a₁ w₁) (y : Past μ₁ S₁ w₁ n μ₂ R₂ S₂ a₂ w₂) : Past μ S w n μ₂ R₂ S₂ a₂ w₂ :=
  ⟨y.good, y.fr, x.goes.trans (y.goes.mono x.nx (.inr x.nx)), Nat.le_trans x.nx y.nx⟩

theorem seqOps_wp {E : Evs} (hE : EvsOk P E) {r : Option Nat} {ops : Array Oper} {Q : Exit → Act → World → Prop} : ∀ (l : List Nat) (μ : Mu) (R : T Value) (S : AS) (a : Act) (w : World) (R' : T Value) (S' : AS),
    Good μ S w → FrR μ R n D a → seqOps P E ops n l R S = some (R', S') → (∀ μ' a' w', Past μ S w n μ' ⟨R', D⟩ S' a' w' → Q .normal a' w') → wpOpsIn (W r) 0 P ops Q l a w
  | [], μ, R, S, a, w, R', S', g, f, hl, hQ => by
    simp only [seqOps] at hl
    cases hl
    exact hQ μ a w ⟨g, f, Goes.refl _ _ _ _ _, Nat.le_refl _⟩
  | i :: rest, μ, R, S, a, w, R', S', g, f, hl, hQ => by
    simp only [seqOps] at hl
    simp only [wpOpsIn]
    split at hl
    · cases hl
    · rename_i o ho
      rw [ho]
      simp only
      split at hl
      · rename_i hw
        rw [if_pos (wantedB_eq f hw)]
        split at hl
        · rename_i hlt
          split at hl
          · rename_i v S₁ hop
            split at hl
            · rename_i R₁ hR
              refine opStep_wp hE (S := ⟨S.h, S.nx + 1⟩) ⟨g.rel, fun i h1 h2 => g.dom i (by simp at h1; omega) h2⟩ (f.ev g.rel) (g.dom _ (Nat.le_refl _) hlt) (Nat.lt_succ_self _) hop fun μ' v' w' hv hb => ?_
              have hp : Past μ S w n μ' ⟨R₁, D⟩ S₁ (a.put o.dst v') w' := ⟨hb.good, (f.mono hb.goes.le).put hv hR, hb.goes.mono (Nat.le_succ _) (.inl rfl), by have := hb.nx; simp at this; omega⟩
              exact seqOps_wp hE rest μ' R₁ S₁ _ w' R' S' hp.good hp.fr hl fun μ₂ a₂ w₂ h2 => hQ μ₂ a₂ w₂ (hp.trans h2)
            · cases hl
          · cases hl
        · cases hl
      · rename_i hw
        rw [if_neg (by rw [wantedB_eq f hw]; simp)]
        split at hl
        · rename_i R₁ hR
          have hp : Past μ S w n μ ⟨R₁, D⟩ S (a.put o.dst undef) w := ⟨g, f.put undefVR hR, Goes.refl _ _ _ _ _, Nat.le_refl _⟩
          exact ⟨fun _ _ => trivial, seqOps_wp hE rest μ R₁ S _ w R' S' g hp.fr hl fun μ₂ a₂ w₂ h2 => hQ μ₂ a₂ w₂ (hp.trans h2)⟩
        · cases hl
      · cases hl
end
end Go.Ge
