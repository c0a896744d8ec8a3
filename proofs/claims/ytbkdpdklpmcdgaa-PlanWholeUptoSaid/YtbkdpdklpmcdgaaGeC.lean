/-
  Evaluation of closed calls, part C.
-/
import Derived.Test.YtbkdpdklpmcdgaaGeB
set_option linter.unusedVariables false
set_option linter.unusedSimpArgs false
/-
  Evaluation of closed calls: code and calls do what was reckoned.
-/
namespace Go.Ge

section
variable {P : Program} {μ : Mu} {w : World} {R R' : T Value} {F F' : Fs} {n : Nat} {D : List Nat} {a : Act} {S S' : AS}

def toExit : AX → Exit
  | .normal => .normal
  | .exit id => .exit id
  | .goto l => .goto l
  | .ret => .ret
/-- a piece of code ends so -/
def Runs (μ : Mu) (S : AS) (w : World) (n : Nat) (x : AX) (R' : Fs) (S' : AS) : Exit → Act → World → Prop := fun e a' w' => e = toExit x ∧ ∃ μ', Past μ S w n μ' R' S' a' w'

def DrOk (P : Program) (dr : Drawn) : Prop := ∀ E, EvsOk P E → ∀ r id ops n R S R' S', dr E ops n R S = some (R', S') → ∀ μ w D a, Good μ S w → FrR μ R n D a →
  (Code.region id ops true).wpIn (W r) 0 P (Runs μ S w n .normal ⟨R', D⟩ S') a w

theorem least (p : Nat → Prop) (h : ∃ m, p m) : ∃ m, p m ∧ ∀ k, p k → m ≤ k := by
  obtain ⟨m, hm⟩ := h
  induction m using Nat.strongRecOn with
  | _ m ih =>
    by_cases hk : ∃ k, k < m ∧ p k
    · obtain ⟨k, h1, h2⟩ := hk; exact ih k h1 h2
    · exact ⟨m, hm, fun k hp => Nat.le_of_not_lt fun hlt => hk ⟨k, hlt, hp⟩⟩
theorem wpIn_loop_n {F : Fence} {c : Code} {Q : Exit → Act → World → Prop} (J : Nat → Act → World → Prop) (hs : ∀ m a w, J m a w → ∃ m', m = m' + 1 ∧ c.wpIn F 0 P (Exit.then (J m') Q) a w) {m : Nat} {a : Act} {w : World} (h : J m a w) : (Code.loop c).wpIn F 0 P Q a w := by
  classical
  let ν : Act → World → Nat := fun a w => if h : ∃ m, J m a w then Classical.choose (least _ h) else 0
  have hν : ∀ a w, (∃ m, J m a w) → J (ν a w) a w ∧ ∀ k, J k a w → ν a w ≤ k := fun a w h => by
    simp only [ν, dif_pos h]
    exact Classical.choose_spec (least _ h)
  refine wpIn_loop (I := fun a w => ∃ m, J m a w) ν ⟨m, h⟩ fun a w hI => ?_
  obtain ⟨m', e, hw⟩ := hs _ _ _ (hν a w hI).1
  refine wpIn_mono hw fun x a' w' hx => ?_
  cases x <;> try exact hx
  exact ⟨⟨m', hx⟩, by have := (hν a' w' ⟨m', hx⟩).2 m' hx; omega⟩

theorem stepR_scope {b : Frame} {k : List Item} {cs : List Frame} {c : Code} : step P (lone (b.atR a (.code (.scope c) :: k)) cs w) = .next (lone (b.atR a (.code c :: .inScope c :: k)) cs w) :=
  step_lone_go (by simp [stepG, stepG.exec, Frame.atR])
theorem stepR_inScope {b : Frame} {k : List Item} {cs : List Frame} {c : Code} : step P (lone (b.atR a (.inScope c :: k)) cs w) = .next (lone (b.atR a k) cs w) :=
  step_lone_go (by simp [stepG, stepG.exec, Frame.atR])

/-- code within a scope -/
def inScopeWp (F : Fence) (P : Program) (body c : Code) (Q : Exit → Act → World → Prop) (a : Act) (w : World) : Prop :=
  ∀ (b : Frame) (k : List Item) (cs : List Frame), b.roundOf = F.round → F.fn b.fn → F.room (cs.length + 1 + 0) →
    ∃ e a' w', Q e a' w' ∧ ArrivesIn (Machine.fenced P F) P (lone (b.atR a (.code c :: .inScope body :: k)) cs w) b k cs e a' w'
theorem wpIn_scope {F : Fence} {body : Code} {Q : Exit → Act → World → Prop} (h : inScopeWp F P body body Q a w) : (Code.scope body).wpIn F 0 P Q a w := by
  intro b k cs hro hb hr
  obtain ⟨e, a', w', hq, harr⟩ := h b k cs hro hb hr
  exact ⟨e, a', w', hq, .of_steps (.one (fenced_calm hb hr rfl) stepR_scope) harr⟩
theorem inScope_of {F : Fence} {body c : Code} {Q : Exit → Act → World → Prop}
    (h : c.wpIn F 0 P (fun e a' w' => match e with
      | .goto l => match findLabel body l with
        | some rest => inScopeWp F P body rest Q a' w'
        | none => Q (.goto l) a' w'
      | e => Q e a' w') a w) : inScopeWp F P body c Q a w := by
  intro b k cs hro hb hr
  obtain ⟨e, a', w', hq, harr⟩ := h b (.inScope body :: k) cs hro hb hr
  cases e with
  | normal => exact ⟨.normal, a', w', hq, StepsIn.trans harr (.one (fenced_calm hb hr rfl) stepR_inScope)⟩
  | exit id =>
    have hx : exitTo id (.inScope body :: k) = exitTo id k := by simp [exitTo]
    exact ⟨_, a', w', hq, fun k' hk => harr.1 k' (by rw [hx]; exact hk), fun hr' hk => harr.2 hr' (by rw [hx]; exact hk)⟩
  | goto l =>
    dsimp only at hq
    cases hf : findLabel body l with
    | none =>
      rw [hf] at hq
      have hx : gotoIn l (.inScope body :: k) = gotoIn l k := by simp [gotoIn, hf]
      exact ⟨_, a', w', hq, fun k' hk => harr.1 k' (by rw [hx]; exact hk), fun hr' hk => harr.2 hr' (by rw [hx]; exact hk)⟩
    | some rest =>
      rw [hf] at hq
      have hx : gotoIn l (.inScope body :: k) = some (.code rest :: .inScope body :: k) := by simp [gotoIn, hf]
      obtain ⟨e₂, a₂, w₂, hq₂, harr₂⟩ := hq b k cs hro hb hr
      exact ⟨e₂, a₂, w₂, hq₂, .of_steps (harr.1 _ hx) harr₂⟩
  | ret => exact ⟨_, a', w', hq, harr⟩
  | panic ch => exact ⟨_, a', w', hq, harr⟩
  | outgrown => exact ⟨_, a', w', hq, harr⟩

theorem Runs.trans {μ₁ : Mu} {S₁ S₂ : AS} {R₁ R₂ : Fs} {a₁ : Act} {w₁ : World} {x : AX} {e : Exit} {a₂ : Act} {w₂ : World} (h : Past μ S w n μ₁ R₁ S₁ a₁ w₁) (h2 : Runs μ₁ S₁ w₁ n x R₂ S₂ e a₂ w₂) : Runs μ S w n x R₂ S₂ e a₂ w₂ := by
  obtain ⟨e1, μ', h3⟩ := h2
  exact ⟨e1, μ', h.trans h3⟩

section code
variable {dr : Drawn} {E : Evs}
/-- the loop of whose rounds the frame is -/
def RdR (μ : Mu) (rd r : Option Nat) : Prop := (rd = none ∧ r = none) ∨ ∃ l p, rd = some l ∧ μ l = some p ∧ r = some p.blk
theorem RdR.mono {ν : Mu} {rd r : Option Nat} (h : μ.le ν) (x : RdR μ rd r) : RdR ν rd r := by
  rcases x with x | ⟨l, p, h1, h2, h3⟩
  · exact .inl x
  · exact .inr ⟨l, p, h1, h _ _ h2, h3⟩
/-- a reckoner of code is right -/
def CodeOk (P : Program) (n : Nat) (rd : Option Nat) (c : Code) (f : Fs → AS → Option (AX × Fs × AS)) : Prop := ∀ r x (F : Fs) S F' S' μ a w, f F S = some (x, F', S') → RdR μ rd r → Good μ S w → FrR μ F.R n F.D a → c.wpIn (W r) 0 P (Runs μ S w n x F' S') a w

theorem loopF_ok {rd : Option Nat} {c : Code} {f : Fs → AS → Option (AX × Fs × AS)} (hf : CodeOk P n rd c f) (m : Nat) : CodeOk P n rd (.loop c) (loopF f m) := by
  intro r x R S R' S' μ a w hl hrd g fr
  refine wpIn_loop_n (J := fun m a₁ w₁ => ∃ μ₁ R₁ S₁, loopF f m R₁ S₁ = some (x, R', S') ∧ Past μ S w n μ₁ R₁ S₁ a₁ w₁) (fun m a₁ w₁ hJ => ?_) ⟨μ, R, S, hl, g, fr, Goes.refl _ _ _ _ _, Nat.le_refl _⟩
  obtain ⟨μ₁, R₁, S₁, hl₁, hp⟩ := hJ
  cases m with
  | zero => simp only [loopF] at hl₁; cases hl₁
  | succ m =>
    refine ⟨m, rfl, ?_⟩
    simp only [loopF] at hl₁
    split at hl₁
    · rename_i R₂ S₂ hb
      refine wpIn_mono (hf r _ _ _ _ _ _ _ _ hb (hrd.mono hp.goes.le) hp.good hp.fr) fun e a₂ w₂ h2 => ?_
      obtain ⟨rfl, μ₂, h2⟩ := h2
      exact ⟨μ₂, R₂, S₂, hl₁, hp.trans h2⟩
    · rename_i hne
      refine wpIn_mono (hf r _ _ _ _ _ _ _ _ hl₁ (hrd.mono hp.goes.le) hp.good hp.fr) fun e a₂ w₂ h2 => ?_
      have h3 := Runs.trans hp h2
      obtain ⟨rfl, _⟩ := h2
      cases x with
      | normal => exact absurd hl₁ (hne _ _)
      | _ => exact h3

theorem scopeF_ok {rd : Option Nat} {body : Code} {f : Code → Fs → AS → Option (AX × Fs × AS)} (hf : ∀ c, CodeOk P n rd c (f c)) : ∀ (m : Nat) (c : Code) (r : Option Nat) (x : AX) (R : Fs) (S : AS) (R' : Fs) (S' : AS) (μ : Mu) (a : Act) (w : World),
    scopeF f body m c R S = some (x, R', S') → RdR μ rd r → Good μ S w → FrR μ R.R n R.D a → inScopeWp (W r) P body c (Runs μ S w n x R' S') a w
  | 0, c, r, x, R, S, R', S', μ, a, w, hl, hrd, g, fr => by simp only [scopeF] at hl; cases hl
  | m + 1, c, r, x, R, S, R', S', μ, a, w, hl, hrd, g, fr => by
    simp only [scopeF] at hl
    refine inScope_of ?_
    split at hl
    · rename_i l R₁ S₁ hb
      refine wpIn_mono (hf c r _ _ _ _ _ _ _ _ hb hrd g fr) fun e a₂ w₂ h2 => ?_
      obtain ⟨rfl, μ₂, h2⟩ := h2
      simp only [toExit]
      split at hl
      · rename_i rest hrest
        rw [hrest]
        have := scopeF_ok hf m rest r x R₁ S₁ R' S' μ₂ a₂ w₂ hl (hrd.mono h2.goes.le) h2.good h2.fr
        intro b k cs h1 h3 h4
        obtain ⟨e, a', w', hq, harr⟩ := this b k cs h1 h3 h4
        exact ⟨e, a', w', Runs.trans h2 hq, harr⟩
      · rename_i hrest
        rw [hrest]
        cases hl
        exact ⟨rfl, μ₂, h2⟩
    · rename_i hne
      refine wpIn_mono (hf c r _ _ _ _ _ _ _ _ hl hrd g fr) fun e a₂ w₂ h2 => ?_
      have h3 := h2
      obtain ⟨rfl, _⟩ := h2
      cases x with
      | goto l => exact absurd hl (hne _ _ _)
      | _ => exact h3

/-- an object that is no row is put in place of one that is none, names and all as they were -/
theorem setObj_run {h : Heap} (r : Rel μ h w) {b : Nat} {o o' : AObj} {p : Place} {x ob : Obj} (id nx : Nat) (hb : h.get b = some o) (hp : μ b = some p) (hx : w.heap[p.blk]? = some x) (hnc : ∀ c e f, x ≠ .cells c e f) (hob : ObjR μ (some ob) p o') :
    ∃ w', (setObj p.blk ob).run P w = .ok () w' ∧ Rel μ (h.set b (some o')) w' ∧ Goes id nx μ h w μ (h.set b (some o')) w' := by
  have hlt : p.blk < w.heap.size := (Array.getElem?_eq_some_iff.1 hx).1
  have hnt : o.isTab = false := by
    cases o <;> first | rfl | skip
    obtain ⟨q, hq, _, c', e, fz, h1, _⟩ := r.live b _ hb
    rw [hp] at hq
    cases hq
    rw [hx] at h1
    exact absurd (Option.some.inj h1) (hnc _ _ _)
  obtain ⟨h1, h2⟩ := write r (o' := o') (w' := { w with heap := w.heap.setIfInBounds p.blk ob }) id nx hb hnt hp (by simp) (by
    show ObjR μ (w.heap.setIfInBounds p.blk ob)[p.blk]? p o'
    rw [Array.getElem?_setIfInBounds, if_pos rfl, if_pos hlt]
    exact hob) (fun k hk => by
    show (w.heap.setIfInBounds p.blk ob)[k]? = _
    rw [Array.getElem?_setIfInBounds, if_neg (fun e => hk e.symm)]) rfl rfl rfl
  refine ⟨_, ?_, h1, h2⟩
  cases x <;> first
    | (exact absurd rfl (hnc _ _ _))
    | (simp only [setObj, Sem.run, hx])
theorem getLoop_run (g : Good μ S w) {l : Nat} {lo : ALoop} {p : Place} (hl : S.h.get l = some (.loop lo)) (hp : μ l = some p) :
    p.disp = 0 ∧ ∃ (fn : FuncId) (tmps' : Array Value) (q : Place), w.heap[p.blk]? = some (.loop { state := lo.state, pending := lo.pending, fn := fn, tmps := tmps', params := lo.params, assign := lo.assign, body := lo.body, defers := q.blk }) ∧
      (Instr.getLoop p.blk).run P w = .ok { state := lo.state, pending := lo.pending, fn := fn, tmps := tmps', params := lo.params, assign := lo.assign, body := lo.body, defers := q.blk } w ∧ μ lo.defers = some q ∧ lo.n ≤ tmps'.size ∧ ∀ t v, rget lo.tmps t = some v → VR μ v (tmps'.getD t undef) := by
  obtain ⟨p', hp', h0, fn, tmps', q, h1, h2, h3, h4⟩ := g.rel.live l _ hl
  rw [hp] at hp'
  cases hp'
  exact ⟨h0, fn, tmps', q, h1, by simp [Instr.getLoop, getObj, Sem.run, h1], h2, h3, h4⟩
/-- a loop's record is written -/
theorem setLoop_run (g : Good μ S w) {l : Nat} {lo : ALoop} {p : Place} (hl : S.h.get l = some (.loop lo)) (hp : μ l = some p) (st : LoopState) (jump : Option Code) :
    ∃ (fn : FuncId) (tmps' : Array Value) (q : Place) (w' : World), (Instr.getLoop p.blk).run P w = .ok { state := lo.state, pending := lo.pending, fn := fn, tmps := tmps', params := lo.params, assign := lo.assign, body := lo.body, defers := q.blk } w ∧
      (setObj p.blk (.loop { state := st, pending := jump, fn := fn, tmps := tmps', params := lo.params, assign := lo.assign, body := lo.body, defers := q.blk })).run P w = .ok () w' ∧
      Good μ ⟨S.h.set l (some (.loop { lo with state := st, pending := jump })), S.nx⟩ w' ∧ Goes S.nx S.nx μ S.h w μ (S.h.set l (some (.loop { lo with state := st, pending := jump }))) w' := by
  obtain ⟨h0, fn, tmps', q, h1, h2, h3, h4, h5⟩ := getLoop_run (P := P) g hl hp
  obtain ⟨w', a, b, c⟩ := setObj_run (P := P) g.rel (o' := .loop { lo with state := st, pending := jump }) (ob := .loop { state := st, pending := jump, fn := fn, tmps := tmps', params := lo.params, assign := lo.assign, body := lo.body, defers := q.blk }) S.nx S.nx hl hp h1 (fun _ _ _ => by simp) ⟨h0, fn, tmps', q, rfl, h3, h4, h5⟩
  exact ⟨fn, tmps', q, w', h2, a, ⟨b, g.dom⟩, c⟩
theorem endF_ok {l : Nat} {jump : Option Code} {p : Place} (he : endF l S = some (jump, S')) (g : Good μ S w) (hp : μ l = some p) :
    ∃ w', (Instr.endLoop p.blk).run P w = .ok jump w' ∧ Good μ S' w' ∧ Goes S.nx S.nx μ S.h w μ S'.h w' ∧ S.nx ≤ S'.nx := by
  unfold endF at he
  split at he
  · rename_i lo hl
    split at he
    · cases he
    · rename_i hb
      cases he
      obtain ⟨fn, tmps', q, w', h1, h2, h3, h4⟩ := setLoop_run (P := P) g hl hp .exhausted lo.pending
      refine ⟨w', ?_, h3, h4, Nat.le_refl _⟩
      have hb' : (lo.state == LoopState.busy) = false := by simpa using hb
      simp only [Instr.endLoop, Sem.run_bind, h1, Result.andThen_ok, hb', Bool.false_eq_true, if_false, h2, Sem.run_pure]
  · cases he
theorem enterF_ok {r rd : Option Nat} {ps : Array Tmp} {assign body : Code} {l : Nat} {F₁ : Fs} {S₁ : AS} (he : enterF n rd ps assign body F S = some (l, F₁, S₁)) (hrd : RdR μ rd r) (g : Good μ S w) (fr : FrR μ F.R n F.D a) (fn : FuncId) :
    ∃ μ₁ p mark w₁, (Instr.enterLoop fn a.tmps ps assign body r).run P w = .ok (p.blk, mark) w₁ ∧ μ₁ l = some p ∧ Past μ S w n μ₁ F₁ S₁ { a with defers := mark ++ a.defers } w₁ := by
  have hnone : ∀ i, μ i = none → S.h.get i = none := fun i hi => by
    cases hg : S.h.get i with
    | none => rfl
    | some o => obtain ⟨p, hp, _⟩ := g.rel.live i o hg; rw [hi] at hp; cases hp
  unfold enterF at he
  rcases hrd with ⟨rfl, rfl⟩ | ⟨l₀, p₀, rfl, hp₀, rfl⟩
  · simp only at he
    split at he
    · rename_i hlt
      cases he
      have d0 := g.dom S.nx (Nat.le_refl _) (by omega)
      have d1 := g.dom (S.nx + 1) (by omega) hlt
      obtain ⟨r1, g1⟩ := make g.rel (o := .mark) (ob := .deferred (some [])) S.nx 0 (by omega) d0 (hnone _ d0) rfl
      have e1 : (μ.put S.nx ⟨w.heap.size, 0, 0, .nilFunc⟩) (S.nx + 1) = none := by simp [Mu.put, d1]
      have e2 : (S.h.set S.nx (some .mark)).get (S.nx + 1) = none := by rw [Heap.get_set _ _ _ _ (by omega), if_neg (by omega)]; exact hnone _ d1
      have hle1 := Mu.le_put (p := ⟨w.heap.size, 0, 0, .nilFunc⟩) d0
      have hle2 := Mu.le_put (p := ⟨(w.alloc (.deferred (some []))).heap.size, 0, 0, .nilFunc⟩) e1
      obtain ⟨r2, g2⟩ := make r1 (o := .loop { state := .ready, pending := none, tmps := F.R, n, params := ps, assign, body, defers := S.nx }) (ob := .loop { state := .ready, pending := none, fn := fn, tmps := a.tmps, params := ps, assign, body, defers := w.heap.size }) S.nx 0 hlt e1 e2
        ⟨rfl, fn, a.tmps, ⟨w.heap.size, 0, 0, .nilFunc⟩, rfl, hle2 _ _ (Mu.put_self _ _ _), fr.sz, fun t v ht => ((fr.reg t v ht).mono hle1).mono hle2⟩
      refine ⟨_, ⟨(w.alloc (.deferred (some []))).heap.size, 0, 0, .nilFunc⟩, [{ target := .collected w.heap.size, args := #[] }], _, ?_, Mu.put_self _ _ _, ⟨⟨r2, fun i h1 h2 => ?_⟩, ⟨fr.sz, fun t v ht => ((fr.reg t v ht).mono hle1).mono hle2, ?_⟩, g1.trans (g2.mono (Nat.le_refl _) (.inr (by omega))), by simp⟩⟩
      · simp [Instr.enterLoop]
      · dsimp only at h1
        have := g.dom i (by omega) h2
        simp only [Mu.put]
        rw [if_neg (by omega), if_neg (by omega)]
        exact this
      · exact .cons (p := ⟨w.heap.size, 0, 0, .nilFunc⟩) (hle2 _ _ (Mu.put_self _ _ _)) ((fr.dn.mono hle1).mono hle2)
    · cases he
  · simp only at he
    split at he
    · rename_i lo hl
      split at he
      · rename_i hlt
        cases he
        have d0 := g.dom S.nx (Nat.le_refl _) hlt
        have hle1 := Mu.le_put (p := ⟨w.heap.size, 0, 0, .nilFunc⟩) d0
        obtain ⟨_, fn', tmps', q, _, h2, h3, _⟩ := getLoop_run (P := P) g hl hp₀
        obtain ⟨r2, g2⟩ := make g.rel (o := .loop { state := .ready, pending := none, tmps := F.R, n, params := ps, assign, body, defers := lo.defers }) (ob := .loop { state := .ready, pending := none, fn := fn, tmps := a.tmps, params := ps, assign, body, defers := q.blk }) S.nx 0 hlt d0 (hnone _ d0)
          ⟨rfl, fn, a.tmps, q, rfl, hle1 _ _ h3, fr.sz, fun t v ht => (fr.reg t v ht).mono hle1⟩
        refine ⟨_, ⟨w.heap.size, 0, 0, .nilFunc⟩, [], _, ?_, Mu.put_self _ _ _, ⟨⟨r2, fun i h1 h2 => ?_⟩, ⟨fr.sz, fun t v ht => (fr.reg t v ht).mono hle1, by simpa using fr.dn.mono hle1⟩, g2, by simp⟩⟩
        · simp [Instr.enterLoop, h2]
        · dsimp only at h1
          have := g.dom i (by omega) h2
          simp only [Mu.put]
          rw [if_neg (by omega)]
          exact this
      · cases he
    · cases he

theorem codeF_ok {rd : Option Nat} (hD : DrOk P dr) (hE : EvsOk P E) : ∀ (k : Nat) (c : Code), CodeOk P n rd c (codeF P dr E n rd k c)
  | 0, c => by intro r x R S R' S' μ a w hl; simp only [codeF] at hl; cases hl
  | k + 1, c => by
    intro r x R S R' S' μ a w hl hrd g fr
    have still : ∀ {R₁ : Fs} {S₁ : AS}, R₁ = R → S₁ = S → ∃ μ', Past μ S w n μ' R₁ S₁ a w := fun e1 e2 => by subst e1 e2; exact ⟨μ, g, fr, Goes.refl _ _ _ _ _, Nat.le_refl _⟩
    cases c with
    | skip => simp only [codeF] at hl; cases hl; exact wpIn_skip ⟨rfl, still rfl rfl⟩
    | label l => simp only [codeF] at hl; cases hl; exact wpIn_label ⟨rfl, still rfl rfl⟩
    | exit id => simp only [codeF] at hl; cases hl; exact wpIn_exit ⟨rfl, still rfl rfl⟩
    | goto l => simp only [codeF] at hl; cases hl; exact wpIn_goto ⟨rfl, still rfl rfl⟩
    | ret => simp only [codeF] at hl; cases hl; exact wpIn_ret ⟨rfl, still rfl rfl⟩
    | region id ops draw =>
      cases draw with
      | false =>
        simp only [codeF] at hl
        split at hl
        · rename_i R₁ S₁ hs
          cases hl
          exact wpIn_region (seqOps_wp hE _ _ _ _ _ _ _ _ g fr hs fun μ' a' w' h => ⟨rfl, μ', h⟩)
        · cases hl
      | true =>
        simp only [codeF] at hl
        split at hl
        · rename_i R₁ S₁ hs
          cases hl
          exact hD E hE r id ops n R.R S _ _ hs μ w R.D a g fr
        · cases hl
    | seq x₁ y =>
      simp only [codeF] at hl
      refine wpIn_seq ?_
      split at hl
      · rename_i R₁ S₁ hs
        refine wpIn_mono (codeF_ok hD hE k x₁ r _ _ _ _ _ _ _ _ hs hrd g fr) fun e a₂ w₂ h2 => ?_
        obtain ⟨rfl, μ₂, h2⟩ := h2
        exact wpIn_mono (codeF_ok hD hE k y r _ _ _ _ _ _ _ _ hl (hrd.mono h2.goes.le) h2.good h2.fr) fun e a₃ w₃ h3 => Runs.trans h2 h3
      · rename_i hne
        refine wpIn_mono (codeF_ok hD hE k x₁ r _ _ _ _ _ _ _ _ hl hrd g fr) fun e a₂ w₂ h2 => ?_
        have h3 := h2
        obtain ⟨rfl, _⟩ := h2
        cases x with
        | normal => exact absurd hl (hne _ _)
        | _ => exact h3
    | cond c₀ x₁ y =>
      simp only [codeF] at hl
      split at hl
      · rename_i hc
        exact wpIn_cond_true ((fr.ev g.rel _ _ hc).eq_of_dat rfl) (codeF_ok hD hE k x₁ r _ _ _ _ _ _ _ _ hl hrd g fr)
      · rename_i hc
        exact wpIn_cond_false ((fr.ev g.rel _ _ hc).eq_of_dat rfl) (codeF_ok hD hE k y r _ _ _ _ _ _ _ _ hl hrd g fr)
      · cases hl
    | block id b =>
      simp only [codeF] at hl
      refine wpIn_block ?_
      split at hl
      · rename_i id' R₁ S₁ hs
        refine wpIn_mono (codeF_ok hD hE k b r _ _ _ _ _ _ _ _ hs hrd g fr) fun e a₂ w₂ h2 => ?_
        obtain ⟨rfl, h2⟩ := h2
        simp only [toExit, Exit.inBlock]
        split at hl
        · rename_i hid
          cases hl
          rw [if_pos hid]
          exact ⟨rfl, h2⟩
        · rename_i hid
          cases hl
          rw [if_neg hid]
          exact ⟨rfl, h2⟩
      · rename_i hne
        refine wpIn_mono (codeF_ok hD hE k b r _ _ _ _ _ _ _ _ hl hrd g fr) fun e a₂ w₂ h2 => ?_
        have h3 := h2
        obtain ⟨rfl, _⟩ := h2
        cases x with
        | exit id' => exact absurd hl (hne _ _ _)
        | _ => exact h3
    | loop b =>
      simp only [codeF] at hl
      exact loopF_ok (codeF_ok hD hE k b) 100000 r x R S R' S' μ a w hl hrd g fr
    | scope b =>
      simp only [codeF] at hl
      exact wpIn_scope (scopeF_ok (fun c => codeF_ok hD hE k c) 100000 b r x R S R' S' μ a w hl hrd g fr)
    | rangeFunc g₀ ps assign body =>
      simp only [codeF] at hl
      split at hl
      · rename_i f₀ first captured hg₀
        split at hl
        · rename_i hok
          split at hl
          · rename_i l F₁ S₁ hent
            split at hl
            · rename_i u S₂ hcall
              refine wpIn_rangeFunc fun fn _ => ?_
              obtain ⟨μ₁, p, mark, w₁, hen, hp, past⟩ := enterF_ok (P := P) hent hrd g fr fn
              obtain ⟨xs', ys', hval, hxs, hys⟩ : ∃ xs' ys' : List Value, a.eval g₀ = .func (.func f₀) ⟨xs'⟩ ⟨ys'⟩ ∧ VRs μ first.toList xs' ∧ VRs μ captured.toList ys' := by
                have hfv := fr.ev g.rel _ _ hg₀
                generalize a.eval g₀ = fv at hfv
                cases hfv with
                | dat hd => simp [dat] at hd
                | func _ h1 h2 => exact ⟨_, _, rfl, h1, h2⟩
              have hargs : VRs μ₁ (first.toList ++ [.func (.yield l) #[] #[]] ++ captured.toList) (xs' ++ [.func (.yield p.blk) #[] #[]] ++ ys') :=
                ((hxs.mono past.goes.le).append (.cons (.yield hp) .nil)).append (hys.mono past.goes.le)
              refine ⟨p.blk, mark, w₁, { target := .fn (.func f₀) ⟨ys'⟩, args := (xs' ++ [Value.func (.yield p.blk) #[] #[]]).toArray }, w₁, f₀, (xs' ++ [Value.func (.yield p.blk) #[] #[]] ++ ys').toArray, w₁, hen, ?_, fun _ _ => trivial, ?_, fun hd => (by cases hd), ?_⟩
              · have hcst : a.eval (.const (.func (.yield p.blk) #[] #[])) = .func (.yield p.blk) #[] #[] := rfl
                simp [resolve, rangeCall, hval, Deferred.ofValue, hcst]
              · simp [invoke, enterOk_run hok]
              · refine CallsIn.mono (hE.call _ _ _ _ _ hcall μ₁ w₁ _ past.good hargs) fun e w' he => ?_
                obtain ⟨v', μ₂, rfl, _, hg₂, hgo, hnx⟩ := he
                split at hl
                · rename_i S₃ hend
                  cases hl
                  obtain ⟨w₄, k1, k2, k3, k4⟩ := endF_ok (P := P) hend hg₂ (hgo.le _ _ hp)
                  refine ⟨none, w₄, k1, rfl, μ₂, ?_⟩
                  exact past.trans ⟨k2, (past.fr.mono hgo.le).mono (Mu.le_refl _), hgo.trans (k3.mono hnx (.inr hnx)), Nat.le_trans hnx k4⟩
                · rename_i c₁ S₃ hend
                  obtain ⟨w₄, k1, k2, k3, k4⟩ := endF_ok (P := P) hend hg₂ (hgo.le _ _ hp)
                  refine ⟨some c₁, w₄, k1, ?_⟩
                  have past₃ : Past μ S w n μ₂ F₁ S₃ { a with defers := mark ++ a.defers } w₄ := past.trans ⟨k2, past.fr.mono hgo.le, hgo.trans (k3.mono hnx (.inr hnx)), Nat.le_trans hnx k4⟩
                  exact wpIn_mono (codeF_ok hD hE k c₁ r _ _ _ _ _ _ _ _ hl (hrd.mono past₃.goes.le) past₃.good past₃.fr) fun e a₃ w₃ h3 => Runs.trans past₃ h3
                · cases hl
            · cases hl
          · cases hl
        · cases hl
      · cases hl
    | refuse _ => simp only [codeF] at hl; cases hl

theorem argsR_get : ∀ (vs : List Value) (i : Nat) (R : T Value) (t : Nat), i + vs.length ≤ 1024 → t < 1024 → T.get 10 (argsR vs i R) t = if i ≤ t ∧ t < i + vs.length then vs[t - i]? else T.get 10 R t
  | [], i, R, t, _, _ => by
    simp only [argsR, List.length_nil, Nat.add_zero]
    rw [if_neg (by omega)]
  | v :: vs, i, R, t, h1, h2 => by
    simp only [List.length_cons] at h1
    simp only [argsR]
    rw [argsR_get vs (i + 1) _ t (by omega) h2, T.get_put 10 R i t (some v) (by omega) h2]
    simp only [List.length_cons]
    by_cases h : i + 1 ≤ t ∧ t < i + 1 + vs.length
    · rw [if_pos h, if_pos (by omega)]
      rw [show t - i = (t - (i + 1)) + 1 by omega, List.getElem?_cons_succ]
    · rw [if_neg h]
      by_cases e : t = i
      · subst e
        rw [if_pos rfl, if_pos (by omega)]
        simp
      · rw [if_neg e, if_neg (by omega)]
theorem run_asAddr (p : Addr) (w : World) : (asAddr (.pointer (some p))).run P w = .ok p w := rfl
theorem aLoad_run {h : Heap} (r : Rel μ h w) {t : TypeId} {x x' v : Value} (ha : VR μ x x') (hl : aLoad P h t x = some v) : ∃ p v', x' = .pointer (some p) ∧ (loadVar t p).run P w = .ok v' w ∧ VR μ v v' := by
  unfold aLoad at hl
  split at hl
  · rename_i b o
    cases ha with
    | dat hd => simp [dat] at hd
    | ptr hp =>
      rename_i p
      split at hl
      · rename_i c e g hb
        split at hl
        · rename_i hu
          split at hl
          · rename_i i hi
            split at hl
            · rename_i hn
              obtain ⟨cs', hcl, hcr, hcc⟩ := r.span hb hp o i.size hn
              cases hl
              refine ⟨_, .agg ⟨cs'⟩, rfl, ?_, .agg hcr⟩
              have := run_loadCells_list (P := P) w ⟨p.blk, o + p.disp, none⟩ cs' hcc
              rw [hcl] at this
              simp [loadVar, run_isAggB hu, sizeOf, typeInfo, hi, this]
            · cases hl
          · cases hl
        · rename_i hu
          obtain ⟨c', fz, h1, hz, h2, _⟩ := r.cells hb hp
          obtain ⟨v', h3, h4⟩ := h2 o v hl
          refine ⟨_, v', rfl, ?_, h4⟩
          have hc : w.cell? ⟨p.blk, o + p.disp, none⟩ = some v' := by simp [World.cell?, h1, h3]
          simp [loadVar, run_isAggB hu, hc]
        · cases hl
      · rename_i id' c hb
        split at hl
        · rename_i hu
          split at hl
          · rename_i i hi
            split at hl
            · rename_i hn
              obtain ⟨rfl, hcl, hcr, hcc⟩ := r.tabSpan hb hp o i.size hn
              cases hl
              refine ⟨_, .agg ⟨(c.drop o).take i.size⟩, rfl, ?_, .agg hcr⟩
              have := run_loadCells_list (P := P) w ⟨id', o, none⟩ _ hcc
              rw [hcl] at this
              simp [loadVar, run_isAggB hu, sizeOf, typeInfo, hi, this]
            · cases hl
          · cases hl
        · rename_i hu
          obtain ⟨q, hq, rfl, c', e, fz, h1, h2⟩ : ∃ q, μ b = some q ∧ q = ⟨id', 0, 0, .nilFunc⟩ ∧ ∃ (c' : Array Value) (e : TypeId) (fz : Nat × Nat), w.heap[q.blk]? = some (.cells c' e fz) ∧ ∀ (i : Nat) (v : Value), c[i]? = some v → c'[i]? = some v ∧ dat v = true := r.live b _ hb
          rw [hp] at hq
          cases hq
          obtain ⟨h3, h4⟩ := h2 o v hl
          refine ⟨_, v, rfl, ?_, .dat h4⟩
          have hc : w.cell? ⟨id', o + 0, none⟩ = some v := by simp only [World.cell?, h1]; simpa using h3
          simp at hc
          simp [loadVar, run_isAggB hu, hc]
        · cases hl
      · cases hl
  · cases hl
theorem resF_run {h : Heap} (f : FrR μ R n D a) (r : Rel μ h w) : ∀ (rs : List ResultVar) (vs : List Value), resF P h R rs = some vs → ∃ vs', (rs.mapM (fun
    | .tmp t => pure (a.tmps.getD t undef)
    | .cell b t => do loadVar t (← asAddr (a.tmps.getD b undef)) : ResultVar → Sem Value)).run P w = .ok vs' w ∧ VRs μ vs vs'
  | [], vs, hl => by simp only [resF] at hl; cases hl; exact ⟨[], by simp, .nil⟩
  | .tmp t :: rs, vs, hl => by
    simp only [resF] at hl
    split at hl
    · rename_i v vs₁ hv hvs
      cases hl
      obtain ⟨vs', h1, h2⟩ := resF_run f r rs vs₁ hvs
      exact ⟨a.tmps.getD t undef :: vs', by simp only [List.mapM_cons, Sem.run_bind, Sem.run_pure, h1, Result.andThen_ok], .cons (f.reg t v hv) h2⟩
    · cases hl
  | .cell b t :: rs, vs, hl => by
    simp only [resF] at hl
    split at hl
    · rename_i x hx
      split at hl
      · rename_i v vs₁ hv hvs
        cases hl
        obtain ⟨vs', h1, h2⟩ := resF_run f r rs vs₁ hvs
        have hxr := f.reg b x hx
        obtain ⟨p, v', hp, hrun, hv'⟩ := aLoad_run (P := P) r hxr hv
        exact ⟨v' :: vs', by simp only [List.mapM_cons, Sem.run_bind, hp, run_asAddr, Sem.run_pure, hrun, h1, Result.andThen_ok], .cons hv' h2⟩
      · cases hl
    · cases hl

theorem leaveF_ok {fn : Func} {tmps : Array Value} {R : Ending → World → Prop} : ∀ (ds : List Nat) (xs : List Deferred) (μ : Mu) (S S' : AS) (w : World), DR μ ds xs → Good μ S w → leaveF ds S = some S' →
    (∀ w', Good μ S' w' → Goes S.nx S.nx μ S.h w μ S'.h w' → S.nx ≤ S'.nx → ∃ v, (results fn tmps).run P w' = .ok v w' ∧ R (.returned v) w') → LeavesInM (W none) 0 P fn tmps R xs .returning w
  | [], _, μ, S, S', w, .nil, g, hl, hR => by
    simp only [leaveF] at hl
    cases hl
    exact hR w g (Goes.refl _ _ _ _ _) (Nat.le_refl _)
  | d :: ds, _, μ, S, S', w, .cons (p := p) hp hds, g, hl, hR => by
    simp only [leaveF] at hl
    split at hl
    · rename_i hm
      have hob : w.heap[p.blk]? = some (.deferred (some [])) := by
        obtain ⟨p', hp', ho⟩ := g.rel.live d _ hm
        rw [hp] at hp'
        cases hp'
        exact ho
      obtain ⟨w', a, b, c⟩ := setObj_run (P := P) g.rel (o' := .spent) (ob := .deferred none) S.nx S.nx hm hp hob (fun _ _ _ => by simp) rfl
      refine ⟨by simp, .inl ⟨p.blk, w', rfl, ?_, ?_⟩⟩
      · have hg : (getObj p.blk).run P w = .ok (.deferred (some [])) w := by simp [getObj, Sem.run, hob]
        simp [Instr.takeDeferred, hg, a]
      · refine leaveF_ok ds _ μ ⟨S.h.set d (some .spent), S.nx⟩ S' w' hds ⟨b, g.dom⟩ hl fun w₂ h1 h2 h3 => hR w₂ h1 (c.trans h2) h3
    · cases hl

theorem callF_ok (hD : DrOk P dr) (hE : EvsOk P E) : ∀ f args S v S', callF P dr E f args S = some (v, S') → ∀ μ w args', Good μ S w → VRs μ args args' → CallsIn (W none) 0 P f args'.toArray w (Ends μ S w v S') := by
  intro f args S v S' hl μ w args' g ha
  unfold callF at hl
  split at hl
  · rename_i fn hfn
    split at hl
    · rename_i c hc
      split at hl
      · rename_i hlen
        have hal := ha.length
        refine callsIn_of_wp_marks hfn hc trivial ?_
        have hfr : FrR μ (argsR args 0 .leaf) (max args.length fn.ntmps) [] { tmps := args'.toArray ++ Array.replicate (fn.ntmps - args'.toArray.size) undef, defers := [] } := by
          refine ⟨by simp; omega, fun t u ht => ?_, .nil⟩
          unfold rget at ht
          split at ht
          · rename_i ht2
            rw [argsR_get args 0 .leaf t (by omega) ht2, T.get_leaf] at ht
            simp only [Nat.zero_le, true_and, Nat.zero_add, Nat.sub_zero] at ht
            by_cases h1 : t < args.length
            · rw [if_pos h1] at ht
              obtain ⟨v', k1, k2⟩ := ha.get t args[t] (List.getElem?_eq_getElem h1)
              rw [List.getElem?_eq_getElem h1] at ht
              simp at ht
              subst ht
              have : t < args'.length := by omega
              have k3 : args'[t] = v' := by
                rw [List.getElem?_eq_getElem this] at k1
                exact Option.some.inj k1
              simp only [Array.getD_eq_getD_getElem?]
              rw [Array.getElem?_append_left (by simpa using this)]
              simp [this, k3]
              exact k2
            · rw [if_neg h1] at ht
              simp at ht
              subst ht
              simp only [Array.getD_eq_getD_getElem?]
              rw [Array.getElem?_append_right (by simp; omega)]
              rw [Array.getElem?_replicate]
              split
              · exact undefVR
              · exact undefVR
          · cases ht
        have main : ∀ x F₁ S₁, codeF P dr E (max args.length fn.ntmps) none 200 c ⟨argsR args 0 .leaf, []⟩ S = some (x, F₁, S₁) → (x = .normal ∨ x = .ret) → (match leaveF F₁.D S₁ with
            | some S'' => match resF P S''.h F₁.R fn.results.toList with
              | some [v] => some (v, S'')
              | some vs => some (.tuple ⟨vs⟩, S'')
              | none => none
            | none => none : Option (Value × AS)) = some (v, S') →
            c.wpIn (W none) 0 P (bodyPostM (W none) 0 P fn (Ends μ S w v S')) { tmps := args'.toArray ++ Array.replicate (fn.ntmps - args'.toArray.size) undef, defers := [] } w := by
          intro x F₁ S₁ hb hx hres
          refine wpIn_mono (codeF_ok hD hE 200 c none _ _ _ _ _ _ _ _ hb (.inl ⟨rfl, rfl⟩) g hfr) fun e a₂ w₂ h2 => ?_
          obtain ⟨rfl, μ₂, h2⟩ := h2
          have post : LeavesInM (W none) 0 P fn a₂.tmps (Ends μ S w v S') a₂.defers .returning w₂ := by
            split at hres
            · rename_i S'' hleave
              refine leaveF_ok F₁.D _ μ₂ S₁ S'' w₂ h2.fr.dn h2.good hleave fun w₃ g₃ go₃ nx₃ => ?_
              cases hr : resF P S''.h F₁.R fn.results.toList with
              | none => rw [hr] at hres; cases hres
              | some vs =>
                rw [hr] at hres
                obtain ⟨vs', k1, k2⟩ := resF_run h2.fr g₃.rel _ _ hr
                have hmap : (fn.results.mapM (fun
                    | .tmp t => pure (a₂.tmps.getD t undef)
                    | .cell b t => do loadVar t (← asAddr (a₂.tmps.getD b undef)) : ResultVar → Sem Value)).run P w₃ = .ok vs'.toArray w₃ := by
                  rw [Array.mapM_eq_mapM_toList]
                  simp only [Sem.run_map, k1, Result.andThen_ok]
                have hrun : (results fn a₂.tmps).run P w₃ = .ok (if h : vs'.toArray.size = 1 then vs'.toArray[0] else .tuple vs'.toArray) w₃ := by
                  unfold results
                  simp only [Sem.run_bind, Sem.run_pure]
                  exact congrArg (fun r : Result (Array Value) => r.andThen fun a w' => Result.ok (if h : a.size = 1 then a[0] else .tuple a) w') hmap
                refine ⟨_, hrun, ?_⟩
                have hgo := h2.goes.trans (go₃.mono h2.nx (.inr h2.nx))
                have hnx := Nat.le_trans h2.nx nx₃
                have hkl := k2.length
                match vs, vs', k2, hres, hkl with
                | [u], [u'], .cons hu .nil, hres, _ => cases hres; exact ⟨_, μ₂, rfl, hu, g₃, hgo, hnx⟩
                | [], [], .nil, hres, _ => cases hres; exact ⟨_, μ₂, rfl, .tuple .nil, g₃, hgo, hnx⟩
                | u :: u2 :: us, u' :: u2' :: us', k2, hres, _ =>
                  cases hres
                  refine ⟨_, μ₂, rfl, ?_, g₃, hgo, hnx⟩
                  rw [dif_neg (by simp)]
                  exact .tuple k2
            · cases hres
          rcases hx with rfl | rfl
          · exact post
          · exact post
        split at hl
        · rename_i F₁ S₁ hb; exact main _ _ _ hb (.inl rfl) hl
        · rename_i F₁ S₁ hb; exact main _ _ _ hb (.inr rfl) hl
        · cases hl
      · cases hl
    · cases hl
  · cases hl

theorem roundR_ok : ∀ (ts : List Tmp) (vs vs' : List Value) (R R' : T Value) (tmps : Array Value), VRs μ vs vs' → FrR μ R n [] { tmps := tmps, defers := [] } → roundR n ts vs R = some R' →
    FrR μ R' n [] { tmps := (ts.zip vs').foldl (fun tmps (x : Tmp × Value) => tmps.setIfInBounds x.1 x.2) tmps, defers := [] } ∧ vs'.length = ts.length
  | [], _, _, R, R', tmps, .nil, f, hl => by simp only [roundR] at hl; cases hl; exact ⟨f, rfl⟩
  | [], _, _, R, R', tmps, .cons _ _, f, hl => by simp only [roundR] at hl; cases hl
  | t :: ts, _, _, R, R', tmps, .nil, f, hl => by simp only [roundR] at hl; cases hl
  | t :: ts, _, _, R, R', tmps, .cons hv hs, f, hl => by
    simp only [roundR] at hl
    split at hl
    · rename_i R₁ hR
      obtain ⟨h1, h2⟩ := roundR_ok ts _ _ R₁ R' _ hs (f.put hv hR) hl
      exact ⟨by simpa [Act.put] using h1, by simp [h2]⟩
    · cases hl

theorem roundF_ok (hD : DrOk P dr) (hE : EvsOk P E) : ∀ l args S v S', roundF P dr E l args S = some (v, S') → ∀ μ w p args', Good μ S w → μ l = some p → VRs μ args args' →
    ∃ f tmps assign body, (Instr.yield p.blk args'.toArray).run P w = .ok (.round p.blk f tmps assign body) w ∧ RoundIn (W none) 0 P p.blk f tmps assign body w (Ends μ S w v S') := by
  intro l args S v S' hl μ w p args' g hp ha
  unfold roundF at hl
  split at hl
  · rename_i lo hlo
    split at hl
    · rename_i R hR
      obtain ⟨_, fn, tmps', q, _, hget, _, hsz, hreg⟩ := getLoop_run (P := P) g hlo hp
      obtain ⟨hfr, hlen⟩ := roundR_ok lo.params.toList args args' lo.tmps R tmps' ha ⟨hsz, hreg, .nil⟩ hR
      refine ⟨fn, (lo.params.toList.zip args').foldl (fun tmps (x : Tmp × Value) => tmps.setIfInBounds x.1 x.2) tmps', lo.assign, lo.body, ?_, ?_⟩
      · have hs : ¬ args'.length ≠ lo.params.size := by simpa using hlen
        have hz : (lo.params.zip args'.toArray).foldl (fun tmps (x : Tmp × Value) => tmps.setIfInBounds x.1 x.2) tmps' = (lo.params.toList.zip args').foldl (fun tmps (x : Tmp × Value) => tmps.setIfInBounds x.1 x.2) tmps' := by
          rw [← Array.foldl_toList]
          congr 1
          simp
        simp only [Instr.yield, Sem.run_bind, hget, Result.andThen_ok, List.size_toArray]
        rw [if_neg hs]
        simp only [Sem.run_bind, Sem.run_pure, Result.andThen_ok]
        rw [← hz]
      · refine roundIn_of_wpIn trivial ?_
        split at hl
        · rename_i F₁ S₁ hassign
          refine wpIn_mono (codeF_ok (rd := some l) hD hE 200 lo.assign (some p.blk) _ _ _ _ _ _ _ _ hassign (.inr ⟨l, p, rfl, hp, rfl⟩) g hfr) fun e a₁ w₁ h1 => ?_
          obtain ⟨rfl, μ₁, h1⟩ := h1
          split at hl
          · rename_i lo₁ hlo₁
            split at hl
            · rename_i hst
              have hp₁ := h1.goes.le _ _ hp
              obtain ⟨fn₁, tmps₁, q₁, w₂, k1, k2, k3, k4⟩ := setLoop_run (P := P) h1.good hlo₁ hp₁ .busy lo₁.pending
              refine ⟨w₂, ?_, ?_⟩
              · rw [hst] at k1
                simp only [Instr.beginRound, Sem.run_bind, k1, Result.andThen_ok]
                simp only [k2, Result.andThen_ok, Sem.run_pure]
              · split at hl
                · rename_i x F₂ S₂ hbody
                  have past₂ : Past μ S w lo.n μ₁ F₁ ⟨S₁.h.set l (some (.loop { lo₁ with state := .busy })), S₁.nx⟩ a₁ w₂ := h1.trans ⟨k3, h1.fr, k4, Nat.le_refl _⟩
                  refine wpIn_mono (codeF_ok (rd := some l) hD hE 200 lo.body (some p.blk) _ _ _ _ _ _ _ _ hbody (.inr ⟨l, p, rfl, hp₁, rfl⟩) k3 h1.fr) fun e a₂ w₃ h3 => ?_
                  obtain ⟨rfl, μ₃, h3⟩ := h3
                  split at hl
                  · rename_i lo₂ hlo₂
                    cases hl
                    have hp₃ := h3.goes.le _ _ hp₁
                    obtain ⟨fn₂, tmps₂, q₂, w₄, m1, m2, m3, m4⟩ := setLoop_run (P := P) h3.good hlo₂ hp₃ (if (jumpOf x).isNone then .ready else .done) (jumpOf x)
                    have hends : Ends μ S w (.bool (jumpOf x).isNone) ⟨S₂.h.set l (some (.loop { lo₂ with state := if (jumpOf x).isNone then .ready else .done, pending := jumpOf x })), S₂.nx⟩ (.returned (.bool (jumpOf x).isNone)) w₄ := by
                      have past₄ := past₂.trans h3
                      exact ⟨_, μ₃, rfl, .dat rfl, m3, past₄.goes.trans (m4.mono past₄.nx (.inr past₄.nx)), past₄.nx⟩
                    have hend : (Instr.endRound p.blk (jumpOf x)).run P w₃ = .ok (.bool (jumpOf x).isNone) w₄ := by
                      simp only [Instr.endRound, Sem.run_bind, m1, Result.andThen_ok]
                      simp only [m2, Result.andThen_ok, Sem.run_pure]
                    cases x with
                    | normal => exact ⟨_, w₄, hend, hends⟩
                    | ret => exact ⟨_, w₄, hend, hends⟩
                    | exit id => exact ⟨_, w₄, hend, hends⟩
                    | goto l => exact ⟨_, w₄, hend, hends⟩
                  · cases hl
                · cases hl
            · cases hl
          · cases hl
        · cases hl
    · cases hl
  · cases hl

theorem lev_ok (hD : DrOk P dr) : ∀ k, EvsOk P (lev P dr k)
  | 0 => ⟨fun _ _ _ _ _ h => (by cases h), fun _ _ _ _ _ h => (by cases h)⟩
  | k + 1 => ⟨callF_ok hD (lev_ok hD k), roundF_ok hD (lev_ok hD k)⟩
end code
end
end Go.Ge

/-
  Evaluation of closed calls: what a step leaves alone; operations that change nothing that is there.
-/
namespace Go.Ge

/-! ### heaps as functions -/
structure RelF (μ : Mu) (f : Nat → Option AObj) (w : World) : Prop where
  live : ∀ i o, f i = some o → ∃ p, μ i = some p ∧ ObjR μ w.heap[p.blk]? p o
  inj : ∀ i j o o' p q, f i = some o → f j = some o' → μ i = some p → μ j = some q → p.blk = q.blk → i = j
def FreeF (μ : Mu) (f : Nat → Option AObj) (k : Nat) : Prop := ∀ j o p, f j = some o → o.isTab = false → μ j = some p → p.blk ≠ k
structure GoesF (nx : Nat) (μ : Mu) (h : Heap) (w : World) (μ' : Mu) (f : Nat → Option AObj) (w' : World) : Prop where
  le : μ.le μ'
  news : ∀ i p, μ' i = some p → μ i = some p ∨ w.heap.size ≤ p.blk ∨ ¬ Free μ h p.blk
  low : ∀ i, i < nx → μ' i = μ i ∧ (h.get i = none → f i = none)
  old : ∀ j p, μ j = some p → h.get j = none → f j = none
  tabs : ∀ j o, h.get j = some o → o.isTab = true → f j = some o
  frame : ∀ k, k < w.heap.size → Free μ h k → w'.heap[k]? = w.heap[k]?
  size : w.heap.size ≤ w'.heap.size
  os : w'.os = w.os
  tape : w'.tape = w.tape
  output : w'.output = w.output

section
variable {μ μ' : Mu} {h h' : Heap} {w w' : World} {f g : Nat → Option AObj} {id nx : Nat}
theorem Rel.toF (r : Rel μ h w) : RelF μ h.get w := ⟨r.live, r.inj⟩
theorem RelF.sub (r : RelF μ f w) (hs : ∀ i o, g i = some o → f i = some o) : RelF μ g w :=
  ⟨fun i o hi => r.live i o (hs i o hi), fun i j o o' p q hi hj => r.inj i j o o' p q (hs i o hi) (hs j o' hj)⟩
theorem RelF.toRel (r : RelF μ f w) (hs : ∀ i o, h.get i = some o → f i = some o) : Rel μ h w :=
  ⟨fun i o hi => r.live i o (hs i o hi), fun i j o o' p q hi hj => r.inj i j o o' p q (hs i o hi) (hs j o' hj)⟩
theorem RelF.blk_lt (r : RelF μ f w) {i : Nat} {o : AObj} {p : Place} (hi : f i = some o) (hp : μ i = some p) : p.blk < w.heap.size := by
  obtain ⟨q, hq, ho⟩ := r.live i o hi
  rw [hp] at hq
  cases hq
  have := ho.some
  rcases Nat.lt_or_ge p.blk w.heap.size with h | h
  · exact h
  · rw [Array.getElem?_eq_none h] at this; cases this
theorem GoesF.free {μ₀ : Mu} {h₀ : Heap} {w₀ : World} (g : GoesF nx μ₀ h₀ w₀ μ f w) {k : Nat} (hk : k < w₀.heap.size) (hf : Free μ₀ h₀ k) : FreeF μ f k := by
  intro j o p hj ht hp e
  rcases g.news j p hp with h1 | h1 | h1
  · cases ho : h₀.get j with
    | none => rw [g.old j p h1 ho] at hj; cases hj
    | some o' =>
      cases ht' : o'.isTab with
      | false => exact hf j o' p ho ht' h1 e
      | true => rw [g.tabs j o' ho ht'] at hj; cases hj; rw [ht] at ht'; cases ht'
  · omega
  · subst e; exact h1 hf
theorem GoesF.sub {μ₀ : Mu} {h₀ : Heap} {w₀ : World} (x : GoesF nx μ₀ h₀ w₀ μ f w) (hs : ∀ i o, g i = some o → f i = some o) (ht : ∀ j o, h₀.get j = some o → o.isTab = true → g j = some o) : GoesF nx μ₀ h₀ w₀ μ g w := by
  have hn : ∀ i, f i = none → g i = none := fun i hi => by
    cases hg : g i with
    | none => rfl
    | some o => rw [hs i o hg] at hi; cases hi
  exact ⟨x.le, x.news, fun i hi => ⟨(x.low i hi).1, fun h0 => hn i ((x.low i hi).2 h0)⟩, fun j p hp h0 => hn j (x.old j p hp h0), ht, x.frame, x.size, x.os, x.tape, x.output⟩

/-- a step on a part of the heap leaves the rest alone -/
theorem step_in {μ₀ : Mu} {h₀ : Heap} {w₀ : World} {nx₀ : Nat} (r : RelF μ f w) (x : GoesF nx₀ μ₀ h₀ w₀ μ f w) (hsub : ∀ i o, h.get i = some o → f i = some o)
    (gs : Goes id nx μ h w μ' h' w') (r' : Rel μ' h' w') (hex : ∀ j o, f j = some o → h.get j = none → j < nx ∧ j ≠ id) (h1 : nx₀ ≤ nx) (h2 : nx₀ ≤ id) :
    ∃ g, RelF μ' g w' ∧ GoesF nx₀ μ₀ h₀ w₀ μ' g w' ∧ (∀ i o, h'.get i = some o → g i = some o) ∧ (∀ i o, f i = some o → h.get i = none → g i = some o) ∧ (∀ i, g i ≠ none → f i ≠ none ∨ h'.get i ≠ none) := by
  have hfree : ∀ i o p, f i = some o → h.get i = none → μ i = some p → Free μ h p.blk := fun i o p hi hh hp j o' q hj _ hq e => by
    have := r.inj i j o o' p q hi (hsub j o' hj) hp hq e.symm
    subst this
    rw [hj] at hh; cases hh
  have hnew : ∀ i o, f i = some o → h.get i = none → h'.get i = none := fun i o hi hh => (gs.low i (hex i o hi hh).1 (hex i o hi hh).2).2 hh
  refine ⟨fun i => if (f i).isSome ∧ h.get i = none then f i else h'.get i, ⟨fun i o hi => ?_, fun i j o o' p q hi hj hp hq e => ?_⟩, ⟨Mu.le_trans x.le gs.le, fun i p hp => ?_, fun i hi => ⟨?_, fun h0 => ?_⟩, fun j p hp h0 => ?_, fun j o hj ht => ?_, fun k hk hf => ?_, Nat.le_trans x.size gs.size, gs.os.trans x.os, gs.tape.trans x.tape, gs.output.trans x.output⟩, fun i o hi => ?_, fun i o hi hh => ?_, fun i hi => ?_⟩
  · try dsimp only at hi
    split at hi
    · rename_i hc
      obtain ⟨p, hp, ho⟩ := r.live i o hi
      refine ⟨p, gs.le _ _ hp, ?_⟩
      rw [gs.frame p.blk (r.blk_lt hi hp) (hfree i o p hi hc.2 hp)]
      exact ho.mono gs.le
    · exact r'.live i o hi
  · try dsimp only at hi hj
    have mix : ∀ (i j : Nat) (o o' : AObj) (p q : Place), f i = some o → h.get i = none → h'.get j = some o' → μ' i = some p → μ' j = some q → p.blk = q.blk → False := by
      intro i j o o' p q hi hh hj hp hq e
      have hp' : μ i = some p := by rw [← (gs.low i (hex i o hi hh).1 (hex i o hi hh).2).1]; exact hp
      rcases gs.news j q hq with k1 | k1 | k1
      · cases hhj : h.get j with
        | none => rw [gs.old j q k1 hhj] at hj; cases hj
        | some o2 =>
          have := r.inj i j o o2 p q hi (hsub j o2 hhj) hp' k1 e
          subst this
          rw [hhj] at hh; cases hh
      · have := r.blk_lt hi hp'; omega
      · exact k1 (e ▸ hfree i o p hi hh hp')
    split at hi <;> split at hj
    · rename_i c1 c2
      have hp' : μ i = some p := by rw [← (gs.low i (hex i o hi c1.2).1 (hex i o hi c1.2).2).1]; exact hp
      have hq' : μ j = some q := by rw [← (gs.low j (hex j o' hj c2.2).1 (hex j o' hj c2.2).2).1]; exact hq
      exact r.inj i j o o' p q hi hj hp' hq' e
    · rename_i c1 c2; exact (mix i j o o' p q hi c1.2 hj hp hq e).elim
    · rename_i c1 c2; exact (mix j i o' o q p hj c2.2 hi hq hp e.symm).elim
    · exact r'.inj i j o o' p q hi hj hp hq e
  · rcases gs.news i p hp with k1 | k1 | k1
    · exact x.news i p k1
    · exact .inr (.inl (Nat.le_trans x.size k1))
    · rcases Nat.lt_or_ge p.blk w₀.heap.size with hk | hk
      · refine .inr (.inr fun hf => k1 fun j o q hj ht hq => x.free hk hf j o q (hsub j o hj) ht hq)
      · exact .inr (.inl hk)
  · rw [(gs.low i (by omega) (by omega)).1]; exact (x.low i hi).1
  · have hfi := (x.low i hi).2 h0
    try dsimp only
    rw [if_neg (by rw [hfi]; simp)]
    refine (gs.low i (by omega) (by omega)).2 ?_
    cases hg : h.get i with
    | none => rfl
    | some o => rw [hsub i o hg] at hfi; cases hfi
  · have hfi := x.old j p hp h0
    try dsimp only
    rw [if_neg (by rw [hfi]; simp)]
    refine gs.old j p (x.le _ _ hp) ?_
    cases hg : h.get j with
    | none => rfl
    | some o => rw [hsub j o hg] at hfi; cases hfi
  · have hfj := x.tabs j o hj ht
    try dsimp only
    cases hg : h.get j with
    | none => rw [if_pos ⟨by rw [hfj]; rfl, rfl⟩]; exact hfj
    | some o2 =>
      rw [if_neg (by simp)]
      have e := hsub j o2 hg
      rw [hfj] at e
      cases e
      exact gs.tabs j o hg ht
  · have hfr := x.free hk hf
    exact (gs.frame k (Nat.lt_of_lt_of_le hk x.size) fun j o q hj ht hq => hfr j o q (hsub j o hj) ht hq).trans (x.frame k hk hf)
  · try dsimp only
    split
    · rename_i c
      cases hfi : f i with
      | none => rw [hfi] at c; simp at c
      | some o' => rw [hnew i o' hfi c.2] at hi; cases hi
    · exact hi
  · try dsimp only
    rw [if_pos ⟨by rw [hi]; rfl, hh⟩]
    exact hi
  · try dsimp only at hi
    split at hi
    · exact .inl hi
    · exact .inr hi
end

/-! ### operations that change nothing that is there -/
def isBig : Op → Bool
  | .store .. | .mapUpdate .. | .insert .. | .mapEntry .. | .entryStore .. | .next .. => true
  | .call c => match c.callee with
    | .builtin .len | .builtin .min | .builtin .max => false
    | _ => true
  | _ => false
theorem keep_heap {h h' : Heap} {v : Option Value} {x : Value} (hl : keep h v = some (x, h')) : h' = h := (keep_eq hl).2
theorem set_other {h : Heap} {id : Nat} {o : Option AObj} (hlt : id < 65536) (j : Nat) (hj : j ≠ id) : (h.set id o).get j = h.get j := by
  rw [Heap.get_set _ _ _ _ hlt, if_neg hj]
theorem set_same {h : Heap} {b : Nat} {o : AObj} (hb : h.get b = some o) (j : Nat) : (h.set b (some o)).get j = h.get j := by
  rw [Heap.get_set _ _ _ _ (Heap.get_lt hb)]
  split
  · rename_i e; subst e; exact hb.symm
  · rfl
theorem small_only {P : Program} {id : Nat} {h h' : Heap} {ev : Operand → Option Value} {op : Op} {v : Value} (hb : isBig op = false) (hl : aop P id h ev op = some (v, h')) (j : Nat) (hj : j ≠ id) : h'.get j = h.get j := by
  cases op <;> simp only [isBig] at hb <;> try (cases hb; done)
  case alloc e =>
    simp only [aop] at hl
    split at hl
    · rename_i hlt
      unfold aAlloc at hl
      split at hl
      · cases hl; exact set_other hlt j hj
      · cases hl
    · cases hl
  case box e x =>
    simp only [aop] at hl
    split at hl
    · rename_i hlt
      split at hl
      · cases hl; exact set_other hlt j hj
      · cases hl
    · cases hl
  case buildSlice t n ps =>
    simp only [aop] at hl
    split at hl
    · rename_i hlt
      split at hl
      · unfold aBuildSlice at hl
        (repeat' split at hl) <;> first | (cases hl; done) | (cases hl; exact set_other hlt j hj)
      · cases hl
    · cases hl
  case makeMap t x =>
    simp only [aop] at hl
    split at hl
    · rename_i hlt
      split at hl
      · unfold aMakeMap at hl
        (repeat' split at hl) <;> first | (cases hl; done) | (cases hl; exact set_other hlt j hj)
      · cases hl
    · cases hl
  case makeSlice t a b =>
    simp only [aop] at hl
    split at hl
    · rename_i hlt
      split at hl
      · unfold aMakeSlice at hl
        (repeat' split at hl) <;> first | (cases hl; done) | (cases hl; exact set_other hlt j hj)
      · cases hl
    · cases hl
  case range t x =>
    simp only [aop] at hl
    split at hl
    · rename_i hlt
      split at hl
      · unfold aRange at hl
        (repeat' split at hl) <;> first | (cases hl; done) | (cases hl; exact set_other hlt j hj)
      · cases hl
    · cases hl
  case convert s d x =>
    simp only [aop] at hl
    split at hl
    · unfold aConvert at hl
      (repeat' split at hl) <;> first
        | (cases hl; done)
        | (cases hl; rfl)
        | (rename_i hc _ _ _ _; cases hl; exact set_other hc.2 j hj)
        | (rename_i hc; cases hl; exact set_other hc.2 j hj)
        | (rename_i hb
           cases hl
           exact set_same hb j)
    · cases hl
  case call c =>
    simp only [aop] at hl
    split at hl
    · rename_i b hc
      rw [hc] at hb
      cases b <;> simp only at hb <;> try (cases hb; done)
      all_goals
        split at hl
        · split at hl
          · simp only [aBuiltin] at hl
            split at hl
            · rw [keep_heap hl]
            · cases hl
          · cases hl
        · cases hl
    · cases hl
  all_goals
    simp only [aop] at hl
    first
      | (cases hl; done)
      | (rw [keep_heap hl]; done)
      | ((repeat' split at hl) <;> first | (cases hl; done) | (rw [keep_heap hl]; done) | (cases hl; rfl))
end Go.Ge

/-
  Evaluation of closed calls: regions that draw their order.
-/
namespace Go.Ge

/-! ### tests of sameness -/
def same1 : Value → Value → Bool
  | .bool a, .bool b => decide (a = b)
  | .int j a, .int k b => decide (j = k) && decide (a = b)
  | .string a, .string b => decide (a.data.toList = b.data.toList)
  | .pointer a, .pointer b => decide (a = b)
  | .slice a l c, .slice b m d => decide (a = b) && decide (l = m) && decide (c = d)
  | .map a, .map b => decide (a = b)
  | .chan a, .chan b => decide (a = b)
  | .nilFunc, .nilFunc => true
  | .nilIface, .nilIface => true
  | _, _ => false
theorem same1_eq {a b : Value} (h : same1 a b = true) : a = b := by
  unfold same1 at h
  split at h <;> simp at h
  · rw [h]
  · rw [h.1, h.2]
  · rename_i a b
    congr 1
    apply ByteArray.ext
    apply Array.ext'
    simpa using h
  · rw [h]
  · rw [h.1.1, h.1.2, h.2]
  · rw [h]
  · rw [h]
  · rfl
  · rfl
def sameL : List Value → List Value → Bool
  | [], [] => true
  | x :: xs, y :: ys => same1 x y && sameL xs ys
  | _, _ => false
theorem sameL_eq : ∀ {a b : List Value}, sameL a b = true → a = b
  | [], [], _ => rfl
  | x :: xs, y :: ys, h => by
    simp only [sameL, Bool.and_eq_true] at h
    rw [same1_eq h.1, sameL_eq h.2]
  | [], _ :: _, h => by simp [sameL] at h
  | _ :: _, [], h => by simp [sameL] at h
def sameV : Value → Value → Bool
  | .agg xs, .agg ys => sameL xs.toList ys.toList
  | .tuple xs, .tuple ys => sameL xs.toList ys.toList
  | .iface t v, .iface u x => decide (t = u) && same1 v x
  | .func (.func f) a b, .func (.func g) c d => decide (f = g) && sameL a.toList c.toList && sameL b.toList d.toList
  | .func (.yield f) a b, .func (.yield g) c d => decide (f = g) && sameL a.toList c.toList && sameL b.toList d.toList
  | a, b => same1 a b
theorem sameV_eq {a b : Value} (h : sameV a b = true) : a = b := by
  unfold sameV at h
  split at h
  · rw [Array.ext' (sameL_eq h)]
  · rw [Array.ext' (sameL_eq h)]
  · simp at h; rw [h.1, same1_eq h.2]
  · simp at h; rw [h.1.1, Array.ext' (sameL_eq h.1.2), Array.ext' (sameL_eq h.2)]
  · simp at h; rw [h.1.1, Array.ext' (sameL_eq h.1.2), Array.ext' (sameL_eq h.2)]
  · exact same1_eq h
def sameO : Option AObj → Option AObj → Bool
  | none, none => true
  | some (.cells c e g), some (.cells c' e' g') => sameL c c' && decide (e = e') && decide (g = g')
  | some (.map [] n), some (.map [] m) => decide (n = m)
  | _, _ => false
theorem sameO_eq {a b : Option AObj} (h : sameO a b = true) : a = b := by
  unfold sameO at h
  split at h
  · rfl
  · simp at h; rw [sameL_eq h.1.1, h.1.2, h.2]
  · simp at h; rw [h]
  · cases h

/-! ### who stands ahead of whom -/
def edgeMask (M : T Nat) : List Edge → Nat → Option Nat
  | [], _ => some 0
  | e :: es, i => match edgeMask M es i with
    | some s => if Region.binds .any e = true then (match T.get 10 M e.on with
      | some x => if e.on < i then some (s ||| (2 ^ e.on ||| x)) else none
      | none => none) else some s
    | none => none
def maskF : List Oper → Nat → T Nat → Option (T Nat)
  | [], _, M => some M
  | o :: os, i, M => match edgeMask M o.after.toList i with
    | some s => maskF os (i + 1) (T.put 10 M i (some s))
    | none => none
def msk (M : T Nat) (i : Nat) : Nat := (T.get 10 M i).getD 0

theorem edgeMask_bit {M : T Nat} {i x : Nat} : ∀ {es : List Edge} {s : Nat}, edgeMask M es i = some s → s.testBit x = true → ∃ e ∈ es, Region.binds .any e = true ∧ e.on < i ∧ (x = e.on ∨ (msk M e.on).testBit x = true)
  | [], s, h, hb => by simp only [edgeMask] at h; cases h; simp at hb
  | e :: es, s, h, hb => by
    simp only [edgeMask] at h
    split at h
    · rename_i s' hs'
      split at h
      · rename_i hbind
        split at h
        · rename_i y hy
          split at h
          · rename_i hlt
            cases h
            rw [Nat.testBit_or, Nat.testBit_or, Bool.or_eq_true, Bool.or_eq_true] at hb
            rcases hb with hb | hb | hb
            · obtain ⟨e', he', h1, h2, h3⟩ := edgeMask_bit hs' hb
              exact ⟨e', List.mem_cons_of_mem _ he', h1, h2, h3⟩
            · refine ⟨e, List.mem_cons_self .., hbind, hlt, .inl ?_⟩
              rw [Nat.testBit_two_pow] at hb
              simpa using (of_decide_eq_true hb).symm
            · refine ⟨e, List.mem_cons_self .., hbind, hlt, .inr ?_⟩
              unfold msk
              rw [hy]
              exact hb
          · cases h
        · cases h
      · cases h
        obtain ⟨e', he', h1, h2, h3⟩ := edgeMask_bit hs' hb
        exact ⟨e', List.mem_cons_of_mem _ he', h1, h2, h3⟩
    · cases h
/-- masks are made of edges -/
def Made (ops : Array Oper) (m : Nat) (M : T Nat) : Prop := ∀ i x, i < m → (msk M i).testBit x = true → ∃ o e, ops[i]? = some o ∧ e ∈ o.after ∧ Region.binds .any e = true ∧ e.on < i ∧ (x = e.on ∨ (msk M e.on).testBit x = true)
theorem maskF_made {ops : Array Oper} : ∀ (l : List Oper) (i : Nat) (M M' : T Nat), (∀ j, ops[i + j]? = l[j]?) → i + l.length ≤ 1024 → Made ops i M → maskF l i M = some M' → Made ops (i + l.length) M'
  | [], i, M, M', _, _, hm, h => by simp only [maskF] at h; cases h; simpa using hm
  | o :: os, i, M, M', hl, hn, hm, h => by
    simp only [maskF] at h
    split at h
    · rename_i s hs
      simp only [List.length_cons] at hn ⊢
      have hget : ∀ j, j < 1024 → msk (T.put 10 M i (some s)) j = if j = i then s else msk M j := fun j hj => by
        unfold msk
        rw [T.get_put 10 M i j (some s) (by omega) hj]
        split <;> rfl
      have := maskF_made (ops := ops) os (i + 1) _ M' (fun j => by have := hl (j + 1); simpa [Nat.add_assoc, Nat.add_comm 1 j] using this) (by omega) (by
        intro j x hj hb
        rw [hget j (by omega)] at hb
        by_cases e : j = i
        · subst e
          rw [if_pos rfl] at hb
          obtain ⟨e, he, h1, h2, h3⟩ := edgeMask_bit hs hb
          refine ⟨o, e, by have := hl 0; simpa using this, by simpa using he, h1, h2, ?_⟩
          rw [hget e.on (by omega), if_neg (by omega)]
          exact h3
        · rw [if_neg e] at hb
          obtain ⟨o', e', k1, k2, k3, k4, k5⟩ := hm j x (by omega) hb
          refine ⟨o', e', k1, k2, k3, k4, ?_⟩
          rw [hget e'.on (by omega), if_neg (by omega)]
          exact k5) h
      rw [show i + (os.length + 1) = i + 1 + os.length by omega]
      exact this
    · cases h
/-- what stands ahead is done, where each one's next ones ahead are -/
theorem Made.done {ops : Array Oper} {m : Nat} {M : T Nat} (hm : Made ops m M) {L : Nat → Prop} (hc : ∀ i o, i < m → L i → ops[i]? = some o → ∀ e ∈ o.after, Region.binds .any e = true → L e.on) :
    ∀ (i : Nat), i < m → (∀ o, ops[i]? = some o → ∀ e ∈ o.after, Region.binds .any e = true → L e.on) → ∀ x, (msk M i).testBit x = true → L x := by
  intro i
  induction i using Nat.strongRecOn with
  | _ i ih =>
    intro hi hp x hx
    obtain ⟨o, e, h1, h2, h3, h4, h5⟩ := hm i x hi hx
    have hL := hp o h1 e h2 h3
    rcases h5 with rfl | h5
    · exact hL
    · exact ih e.on h4 (by omega) (fun o' ho' => hc e.on o' (by omega) hL ho') x h5
end Go.Ge

/-
  Evaluation of closed calls: regions that draw their order: what is reckoned.
-/
namespace Go.Ge

def dstOf (ops : Array Oper) (i : Nat) : Option Tmp := (ops[i]?).bind (·.dst)
def wrF (ops : Array Oper) (t : Tmp) : List Nat → Option Nat
  | [] => none
  | i :: l => if dstOf ops i = some t then some i else wrF ops t l
theorem wrF_spec {ops : Array Oper} {t : Tmp} : ∀ {l : List Nat} {y : Nat}, wrF ops t l = some y → y ∈ l ∧ dstOf ops y = some t
  | [], y, h => by simp [wrF] at h
  | i :: l, y, h => by
    simp only [wrF] at h
    split at h
    · rename_i hd; cases h; exact ⟨List.mem_cons_self .., hd⟩
    · obtain ⟨h1, h2⟩ := wrF_spec h; exact ⟨List.mem_cons_of_mem _ h1, h2⟩
theorem wrF_none {ops : Array Oper} {t : Tmp} : ∀ {l : List Nat}, wrF ops t l = none → ∀ y ∈ l, dstOf ops y ≠ some t
  | [], h, y, hy => by cases hy
  | i :: l, h, y, hy => by
    simp only [wrF] at h
    split at h
    · cases h
    · rename_i hd
      rcases List.mem_cons.1 hy with rfl | hy
      · exact hd
      · exact wrF_none h y hy

def evD (ops : Array Oper) (M : T Nat) (V : T Value) (R0 : T Value) (h0 : Heap) (i : Nat) : Operand → Option Value
  | .tmp t => match wrF ops t (List.range ops.size) with
    | some y => if (msk M i).testBit y = true then T.get 10 V y else if y = i ∨ (msk M y).testBit i = true then rget R0 t else none
    | none => rget R0 t
  | x => aev R0 h0 x
def wantD (ops : Array Oper) (M : T Nat) (V : T Value) (i : Nat) (o : Oper) : Option Bool :=
  match o.guard with
  | none => some true
  | some (j, want) => match dstOf ops j with
    | some d => if (msk M i).testBit j = true then (match T.get 10 V j with
      | some (.bool b) => some (b == want)
      | some (.tuple ⟨[]⟩) => some false
      | _ => none) else none
    | none => none
def inD (M : T Nat) (pre : List Nat) (y : Nat) : Bool := pre.any fun d => (msk M d).testBit y
def live (M : T Nat) (pre rest : List Nat) (i : Nat) : Bool := (rest.all fun d => !(msk M i).testBit d) && !inD M pre i
def addO (base : Nat) (O : T AObj) (sel : Nat → Bool) : List Nat → Heap → Heap
  | [], h => h
  | y :: l, h => match T.get 10 O y with
    | some o => if sel y = true then addO base O sel l (h.set (base + y) (some o)) else addO base O sel l h
    | none => addO base O sel l h

section
variable (P : Program) (E : Evs) (ops : Array Oper) (M : T Nat) (base : Nat) (R0 : T Value) (h0 : Heap)
def selS (pre : List Nat) (i : Nat) (y : Nat) : Bool := (msk M i).testBit y && !inD M pre y
def heapAt (pre : List Nat) (O : T AObj) (h : Heap) (i : Nat) : Heap := addO base O (selS M pre i) (List.range ops.size) h
def smallR (pre : List Nat) (V : T Value) (O : T AObj) (h : Heap) (i : Nat) (o : Oper) : Option (Value × Option AObj) :=
  match wantD ops M V i o with
  | none => none
  | some true => match aop P (base + i) (heapAt ops M base pre O h i) (evD ops M V R0 h0 i) o.op with
    | some (v, h') => some (v, h'.get (base + i))
    | none => none
  | some false => some (undef, none)
def smallsF (pre rest : List Nat) (h : Heap) : List Nat → T Value → T AObj → Option (T Value × T AObj)
  | [], V, O => some (V, O)
  | i :: l, V, O => match ops[i]? with
    | none => none
    | some o =>
      if isBig o.op = true then smallsF pre rest h l V O else
      if live M pre rest i = false then smallsF pre rest h l V O else
      match smallR P ops M base R0 h0 pre V O h i o with
      | some (v, ob) => match T.get 10 V i with
        | none => smallsF pre rest h l (T.put 10 V i (some v)) (T.put 10 O i ob)
        | some v0 => if sameV v0 v = true ∧ sameO (T.get 10 O i) ob = true then smallsF pre rest h l V O else none
      | none => none
def bigR (pre : List Nat) (V : T Value) (O : T AObj) (H : AS) (d : Nat) (o : Oper) : Option (Value × AS) :=
  match wantD ops M V d o with
  | none => none
  | some true => opStep P E (evD ops M V R0 h0 d) (base + d) o ⟨heapAt ops M base pre O H.h d, H.nx⟩
  | some false => some (undef, ⟨heapAt ops M base pre O H.h d, H.nx⟩)
def phF : List Nat → List Nat → AS → T Value → T AObj → Option (T Value × T AObj × AS)
  | [], pre, H, V, O => match smallsF P ops M base R0 h0 pre [] H.h (List.range ops.size) V O with
    | some (V', O') => some (V', O', H)
    | none => none
  | d :: rest, pre, H, V, O => match smallsF P ops M base R0 h0 pre (d :: rest) H.h (List.range ops.size) V O with
    | some (V', O') => match ops[d]?, T.get 10 V' d with
      | some o, none => match bigR P E ops M base R0 h0 pre V' O' H d o with
        | some (v, H') => phF rest (pre ++ [d]) H' (T.put 10 V' d (some v)) O'
        | none => none
      | _, _ => none
    | none => none
end
def finR (ops : Array Oper) (n : Nat) (V : T Value) : List Nat → T Value → Option (T Value)
  | [], R => some R
  | i :: l, R => match T.get 10 V i with
    | some v => match rput R n (dstOf ops i) v with
      | some R' => finR ops n V l R'
      | none => none
    | none => none
def chainOk (M : T Nat) : List Nat → Bool
  | [] => true
  | d :: l => (l.all fun i => (msk M i).testBit d) && chainOk M l
def dstsOk (ops : Array Oper) (n : Nat) : Bool := (List.range ops.size).all fun i => match dstOf ops i with
  | some d => decide (d < n) && decide (d < 1024) && (wrF ops d (List.range ops.size) == some i)
  | none => true
def bigs (ops : Array Oper) : List Nat := (List.range ops.size).filter fun i => match ops[i]? with
  | some o => isBig o.op
  | none => false
def drawF (P : Program) : Drawn := fun E ops n R S =>
  if P.follows .mixedOrders = true ∧ ops.size ≤ 1000 ∧ S.nx + ops.size < 65536 ∧ dstsOk ops n = true then
    match maskF ops.toList 0 .leaf with
    | some M =>
      if chainOk M (bigs ops) = true then
        match phF P E ops M S.nx R S.h (bigs ops) [] ⟨S.h, S.nx + ops.size⟩ .leaf .leaf with
        | some (V, O, H) => match finR ops n V (List.range ops.size) R with
          | some R' => some (R', ⟨addO S.nx O (fun y => !inD M (bigs ops) y) (List.range ops.size) H.h, H.nx⟩)
          | none => none
        | none => none
      else none
    | none => none
  else none

/-! ### the facts that it gives -/
def Le2 (V : T Value) (O : T AObj) (V' : T Value) (O' : T AObj) : Prop := ∀ i v, i < 1024 → T.get 10 V i = some v → T.get 10 V' i = some v ∧ T.get 10 O' i = T.get 10 O i
def Al (V : T Value) (O : T AObj) : Prop := ∀ i, i < 1024 → T.get 10 V i = none → T.get 10 O i = none
theorem Le2.refl (V : T Value) (O : T AObj) : Le2 V O V O := fun _ _ _ h => ⟨h, rfl⟩
theorem Le2.trans {V V' V'' : T Value} {O O' O'' : T AObj} (a : Le2 V O V' O') (b : Le2 V' O' V'' O'') : Le2 V O V'' O'' := fun i v hi h => by
  obtain ⟨h1, h2⟩ := a i v hi h
  obtain ⟨h3, h4⟩ := b i v hi h1
  exact ⟨h3, h4.trans h2⟩
theorem Le2.obj {V V' : T Value} {O O' : T AObj} (a : Le2 V O V' O') (al : Al V O) {i : Nat} {o : AObj} (hi : i < 1024) (h : T.get 10 O i = some o) : T.get 10 O' i = some o := by
  cases hv : T.get 10 V i with
  | none => rw [al i hi hv] at h; cases h
  | some v => rw [(a i v hi hv).2]; exact h
theorem Le2.put {V : T Value} {O : T AObj} {i : Nat} {v : Value} {ob : Option AObj} (hi : i < 1024) (hn : T.get 10 V i = none) : Le2 V O (T.put 10 V i (some v)) (T.put 10 O i ob) := fun j u hj h => by
  have hne : j ≠ i := by rintro rfl; rw [hn] at h; cases h
  rw [T.get_put 10 V i j _ (by omega) (by omega), if_neg hne, T.get_put 10 O i j _ (by omega) (by omega), if_neg hne]
  exact ⟨h, rfl⟩
theorem Al.put {V : T Value} {O : T AObj} {i : Nat} {v : Value} {ob : Option AObj} (hi : i < 1024) (al : Al V O) : Al (T.put 10 V i (some v)) (T.put 10 O i ob) := fun j hj h => by
  rw [T.get_put 10 V i j _ (by omega) (by omega)] at h
  split at h
  · cases h
  · rename_i hne
    rw [T.get_put 10 O i j _ (by omega) (by omega), if_neg hne]
    exact al j hj h
theorem Al.putV {V : T Value} {O : T AObj} {i : Nat} {v : Value} (hi : i < 1024) (al : Al V O) : Al (T.put 10 V i (some v)) O := fun j hj h => by
  rw [T.get_put 10 V i j _ (by omega) (by omega)] at h
  split at h
  · cases h
  · exact al j hj h
theorem Le2.putV {V : T Value} {O : T AObj} {i : Nat} {v : Value} (hi : i < 1024) (hn : T.get 10 V i = none) : Le2 V O (T.put 10 V i (some v)) O := fun j u hj h => by
  have hne : j ≠ i := by rintro rfl; rw [hn] at h; cases h
  rw [T.get_put 10 V i j _ (by omega) (by omega), if_neg hne]
  exact ⟨h, rfl⟩

section
variable {P : Program} {E : Evs} {ops : Array Oper} {M : T Nat} {base : Nat} {R0 : T Value} {h0 : Heap}
def SmallFact (P : Program) (ops : Array Oper) (M : T Nat) (base : Nat) (R0 : T Value) (h0 : Heap) (Vf : T Value) (Of : T AObj) (pre : List Nat) (h : Heap) (i : Nat) : Prop :=
  ∃ V O o v, Le2 V O Vf Of ∧ Al V O ∧ ops[i]? = some o ∧ smallR P ops M base R0 h0 pre V O h i o = some (v, T.get 10 Of i) ∧ T.get 10 Vf i = some v
def PhaseFact (P : Program) (ops : Array Oper) (M : T Nat) (base : Nat) (R0 : T Value) (h0 : Heap) (Vf : T Value) (Of : T AObj) (pre rest : List Nat) (h : Heap) : Prop :=
  ∀ i o, i < ops.size → ops[i]? = some o → isBig o.op = false → live M pre rest i = true → SmallFact P ops M base R0 h0 Vf Of pre h i
theorem SmallFact.mono {V V' : T Value} {O O' : T AObj} {pre : List Nat} {h : Heap} {i : Nat} (hi : i < 1024) (x : SmallFact P ops M base R0 h0 V O pre h i) (hl : Le2 V O V' O') : SmallFact P ops M base R0 h0 V' O' pre h i := by
  obtain ⟨V0, O0, o, v, h1, h2, h3, h4, h5⟩ := x
  obtain ⟨h6, h7⟩ := hl i v hi h5
  exact ⟨V0, O0, o, v, h1.trans hl, h2, h3, by rw [h7]; exact h4, h6⟩
theorem smallsF_ok {pre rest : List Nat} {h : Heap} (hsz : ops.size ≤ 1000) : ∀ (l : List Nat) (V : T Value) (O : T AObj) (V' : T Value) (O' : T AObj), (∀ i ∈ l, i < 1024) → Al V O → smallsF P ops M base R0 h0 pre rest h l V O = some (V', O') →
    Le2 V O V' O' ∧ Al V' O' ∧ ∀ i ∈ l, ∀ o, ops[i]? = some o → isBig o.op = false → live M pre rest i = true → SmallFact P ops M base R0 h0 V' O' pre h i
  | [], V, O, V', O', _, al, hl => by simp only [smallsF] at hl; cases hl; exact ⟨Le2.refl _ _, al, fun i hi => by cases hi⟩
  | i :: l, V, O, V', O', hlt, al, hl => by
    have hi : i < 1024 := hlt i (List.mem_cons_self ..)
    have hlt' : ∀ j ∈ l, j < 1024 := fun j hj => hlt j (List.mem_cons_of_mem _ hj)
    simp only [smallsF] at hl
    split at hl
    · cases hl
    · rename_i o ho
      split at hl
      · rename_i hbig
        obtain ⟨h1, h2, h3⟩ := smallsF_ok hsz l V O V' O' hlt' al hl
        refine ⟨h1, h2, fun j hj o' ho' hb hv => ?_⟩
        rcases List.mem_cons.1 hj with rfl | hj
        · rw [ho] at ho'; cases ho'; rw [hbig] at hb; cases hb
        · exact h3 j hj o' ho' hb hv
      · split at hl
        · rename_i hlive
          obtain ⟨h1, h2, h3⟩ := smallsF_ok hsz l V O V' O' hlt' al hl
          refine ⟨h1, h2, fun j hj o' ho' hb hv => ?_⟩
          rcases List.mem_cons.1 hj with rfl | hj
          · rw [hlive] at hv; cases hv
          · exact h3 j hj o' ho' hb hv
        · split at hl
          · rename_i v ob hr
            split at hl
            · rename_i hn
              obtain ⟨h1, h2, h3⟩ := smallsF_ok hsz l _ _ V' O' hlt' (al.put hi) hl
              have hle : Le2 V O (T.put 10 V i (some v)) (T.put 10 O i ob) := Le2.put hi hn
              refine ⟨hle.trans h1, h2, fun j hj o' ho' hb hv => ?_⟩
              rcases List.mem_cons.1 hj with rfl | hj
              · rw [ho] at ho'
                cases ho'
                have k1 : T.get 10 (T.put 10 V j (some v)) j = some v := by rw [T.get_put 10 V j j _ (by omega) (by omega), if_pos rfl]
                have k2 : T.get 10 (T.put 10 O j ob) j = ob := by rw [T.get_put 10 O j j _ (by omega) (by omega), if_pos rfl]
                obtain ⟨k3, k4⟩ := h1 j v hi k1
                exact ⟨V, O, o, v, hle.trans h1, al, ho, by rw [k4, k2]; exact hr, k3⟩
              · exact h3 j hj o' ho' hb hv
            · rename_i v0 hv0
              split at hl
              · rename_i hs
                obtain ⟨h1, h2, h3⟩ := smallsF_ok hsz l V O V' O' hlt' al hl
                refine ⟨h1, h2, fun j hj o' ho' hb hv => ?_⟩
                rcases List.mem_cons.1 hj with rfl | hj
                · rw [ho] at ho'
                  cases ho'
                  have e1 := sameV_eq hs.1
                  have e2 := sameO_eq hs.2
                  obtain ⟨k3, k4⟩ := h1 j v0 hi hv0
                  exact ⟨V, O, o, v, h1, al, ho, by rw [k4, e2]; exact hr, by rw [← e1]; exact k3⟩
                · exact h3 j hj o' ho' hb hv
              · cases hl
          · cases hl

def BigFact (P : Program) (E : Evs) (ops : Array Oper) (M : T Nat) (base : Nat) (R0 : T Value) (h0 : Heap) (Vf : T Value) (Of : T AObj) (pre : List Nat) (H : AS) (d : Nat) (H' : AS) : Prop :=
  ∃ V O o v, Le2 V O Vf Of ∧ Al V O ∧ ops[d]? = some o ∧ bigR P E ops M base R0 h0 pre V O H d o = some (v, H') ∧ T.get 10 Vf d = some v ∧ T.get 10 Of d = none
def Facts (P : Program) (E : Evs) (ops : Array Oper) (M : T Nat) (base : Nat) (R0 : T Value) (h0 : Heap) (Vf : T Value) (Of : T AObj) (HK : AS) : List Nat → List Nat → AS → Prop
  | [], pre, H => PhaseFact P ops M base R0 h0 Vf Of pre [] H.h ∧ H = HK
  | d :: rest, pre, H => PhaseFact P ops M base R0 h0 Vf Of pre (d :: rest) H.h ∧ ∃ H', BigFact P E ops M base R0 h0 Vf Of pre H d H' ∧ Facts P E ops M base R0 h0 Vf Of HK rest (pre ++ [d]) H'
theorem phF_ok (hsz : ops.size ≤ 1000) : ∀ (rest pre : List Nat) (H : AS) (V : T Value) (O : T AObj) (Vf : T Value) (Of : T AObj) (HK : AS), (∀ d ∈ rest, d < 1024) → Al V O → phF P E ops M base R0 h0 rest pre H V O = some (Vf, Of, HK) →
    Le2 V O Vf Of ∧ Al Vf Of ∧ Facts P E ops M base R0 h0 Vf Of HK rest pre H
  | [], pre, H, V, O, Vf, Of, HK, _, al, hl => by
    simp only [phF] at hl
    split at hl
    · rename_i V' O' hs
      cases hl
      obtain ⟨h1, h2, h3⟩ := smallsF_ok hsz _ V O _ _ (fun i hi => by have := List.mem_range.1 hi; omega) al hs
      exact ⟨h1, h2, fun i o hi ho hb hv => h3 i (List.mem_range.2 hi) o ho hb hv, rfl⟩
    · cases hl
  | d :: rest, pre, H, V, O, Vf, Of, HK, hlt, al, hl => by
    have hd : d < 1024 := hlt d (List.mem_cons_self ..)
    simp only [phF] at hl
    split at hl
    · rename_i V' O' hs
      obtain ⟨h1, h2, h3⟩ := smallsF_ok hsz _ V O _ _ (fun i hi => by have := List.mem_range.1 hi; omega) al hs
      split at hl
      · rename_i o ho hn
        split at hl
        · rename_i v H' hb
          obtain ⟨k1, k2, k3⟩ := phF_ok hsz rest (pre ++ [d]) H' _ O' Vf Of HK (fun x hx => hlt x (List.mem_cons_of_mem _ hx)) (h2.putV hd) hl
          have hle : Le2 V' O' (T.put 10 V' d (some v)) O' := Le2.putV hd hn
          have hget : T.get 10 (T.put 10 V' d (some v)) d = some v := by rw [T.get_put 10 V' d d _ (by omega) (by omega), if_pos rfl]
          obtain ⟨k4, k5⟩ := k1 d v hd hget
          refine ⟨h1.trans (hle.trans k1), k2, fun i o hi ho hb hv => (h3 i (List.mem_range.2 hi) o ho hb hv).mono (by omega) (hle.trans k1), H', ⟨V', O', o, v, hle.trans k1, h2, ho, hb, k4, ?_⟩, k3⟩
          rw [k5]
          exact h2 d hd hn
        · cases hl
      · cases hl
    · cases hl

theorem addO_get {O : T AObj} {sel : Nat → Bool} : ∀ (l : List Nat) (h : Heap) (j : Nat) (o : AObj), (∀ y ∈ l, base + y < 65536) → (addO base O sel l h).get j = some o → (∃ y ∈ l, j = base + y ∧ sel y = true ∧ T.get 10 O y = some o) ∨ h.get j = some o
  | [], h, j, o, _, hl => .inr hl
  | y :: l, h, j, o, hlt, hl => by
    have hlt' : ∀ z ∈ l, base + z < 65536 := fun z hz => hlt z (List.mem_cons_of_mem _ hz)
    have up : ((∃ z ∈ l, j = base + z ∧ sel z = true ∧ T.get 10 O z = some o) → ∃ z ∈ y :: l, j = base + z ∧ sel z = true ∧ T.get 10 O z = some o) := fun ⟨z, h1, h2⟩ => ⟨z, List.mem_cons_of_mem _ h1, h2⟩
    simp only [addO] at hl
    split at hl
    · rename_i o' ho'
      split at hl
      · rename_i hs
        rcases addO_get l _ j o hlt' hl with h1 | h1
        · exact .inl (up h1)
        · rw [Heap.get_set _ _ _ _ (hlt y (List.mem_cons_self ..))] at h1
          split at h1
          · rename_i e; cases h1; exact .inl ⟨y, List.mem_cons_self .., e, hs, ho'⟩
          · exact .inr h1
      · rcases addO_get l _ j o hlt' hl with h1 | h1
        · exact .inl (up h1)
        · exact .inr h1
    · rcases addO_get l _ j o hlt' hl with h1 | h1
      · exact .inl (up h1)
      · exact .inr h1
theorem addO_keep {O : T AObj} {sel : Nat → Bool} : ∀ (l : List Nat) (h : Heap) (j : Nat) (o : AObj), (∀ y ∈ l, base + y < 65536) → (∀ y ∈ l, j ≠ base + y) → h.get j = some o → (addO base O sel l h).get j = some o
  | [], h, j, o, _, _, hj => hj
  | y :: l, h, j, o, hlt, hne, hj => by
    have hlt' : ∀ z ∈ l, base + z < 65536 := fun z hz => hlt z (List.mem_cons_of_mem _ hz)
    have hne' : ∀ z ∈ l, j ≠ base + z := fun z hz => hne z (List.mem_cons_of_mem _ hz)
    simp only [addO]
    split
    · split
      · refine addO_keep l _ j o hlt' hne' ?_
        rw [Heap.get_set _ _ _ _ (hlt y (List.mem_cons_self ..)), if_neg (hne y (List.mem_cons_self ..))]
        exact hj
      · exact addO_keep l _ j o hlt' hne' hj
    · exact addO_keep l _ j o hlt' hne' hj
theorem addO_none {O : T AObj} {sel : Nat → Bool} : ∀ (l : List Nat) (h : Heap) (j : Nat), (∀ y ∈ l, base + y < 65536) → h.get j = none → (∀ y ∈ l, j = base + y → sel y = false) → (addO base O sel l h).get j = none := by
  intro l h j hlt hj hs
  cases hg : (addO base O sel l h).get j with
  | none => rfl
  | some o =>
    rcases addO_get l h j o hlt hg with ⟨y, h1, h2, h3, _⟩ | h1
    · rw [hs y h1 h2] at h3; cases h3
    · rw [hj] at h1; cases h1

theorem finR_get {n : Nat} {V : T Value} : ∀ (l : List Nat) (R R' : T Value), finR ops n V l R = some R' → ∀ t v, rget R' t = some v → (∃ y ∈ l, dstOf ops y = some t ∧ T.get 10 V y = some v) ∨ ((∀ y ∈ l, dstOf ops y ≠ some t) ∧ rget R t = some v)
  | [], R, R', hl, t, v, hv => by simp only [finR] at hl; cases hl; exact .inr ⟨fun y hy => (by cases hy), hv⟩
  | i :: l, R, R', hl, t, v, hv => by
    simp only [finR] at hl
    split at hl
    · rename_i u hu
      split at hl
      · rename_i R₁ hR
        rcases finR_get l R₁ R' hl t v hv with ⟨y, h1, h2⟩ | ⟨h1, h2⟩
        · exact .inl ⟨y, List.mem_cons_of_mem _ h1, h2⟩
        · by_cases e : dstOf ops i = some t
          · refine .inl ⟨i, List.mem_cons_self .., e, ?_⟩
            rw [e] at hR
            simp only [rput] at hR
            split at hR
            · rename_i hd
              cases hR
              unfold rget at h2
              rw [if_pos hd.2, T.get_put 10 R t t _ hd.2 hd.2, if_pos rfl] at h2
              simp at h2
              rw [hu, h2]
            · cases hR
          · refine .inr ⟨fun y hy => ?_, ?_⟩
            · rcases List.mem_cons.1 hy with rfl | hy
              · exact e
              · exact h1 y hy
            · cases hd : dstOf ops i with
              | none => rw [hd] at hR; simp only [rput] at hR; cases hR; exact h2
              | some d =>
                rw [hd] at hR
                simp only [rput] at hR
                split at hR
                · rename_i hlt
                  cases hR
                  have hne : t ≠ d := by rintro rfl; exact e hd
                  unfold rget at h2 ⊢
                  split at h2
                  · rename_i ht
                    rw [if_pos ht]
                    rw [T.get_put 10 R d t _ hlt.2 ht, if_neg hne] at h2
                    exact h2
                  · cases h2
                · cases hR
      · cases hl
    · cases hl
theorem chainOk_pair : ∀ {l : List Nat}, chainOk M l = true → l.Pairwise fun d i => (msk M i).testBit d = true
  | [], _ => .nil
  | d :: l, h => by
    simp only [chainOk, Bool.and_eq_true, List.all_eq_true] at h
    exact .cons (fun i hi => h.1 i hi) (chainOk_pair h.2)
end
end Go.Ge

