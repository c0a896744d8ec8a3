/-
  Evaluation of closed calls: code and calls do what was reckoned.
-/
import Derived.Test.YtcganjggdkcfhaaGe13
set_option linter.unusedVariables false
set_option linter.unusedSimpArgs false
namespace Go.Ge

section
variable {P : Program} {μ : Mu} {w : World} {R R' : T Value} {F F' : Fs} {n : Nat} {D : List Nat} {a : Act} {S S' : AS}

def toExit : AX → Exit
  | .normal => .normal
  | .exit id => .exit id
  | .goto l => .goto l
  | .ret => .ret
/-- a piece of code ends so -/
def Runs (μ : Mu) (S : AS) (w : World) (n : Nat) (x : AX) (R' : Fs) (S' : AS) : Exit → Act → World → Prop := fun e a' w' => e = toExit x ∧ ∃ μ', Past μ S w n μ' R' S' a' w'

def DrOk (P : Program) (dr : Drawn) : Prop := ∀ E, EvsOk P E → ∀ r id ops n R S R' S', dr E ops n R S = some (R', S') → ∀ μ w D a, Good μ S w → FrR μ R n D a →
  (Code.region id ops true).wpIn (W r) 0 P (Runs μ S w n .normal ⟨R', D⟩ S') a w

theorem least (p : Nat → Prop) (h : ∃ m, p m) : ∃ m, p m ∧ ∀ k, p k → m ≤ k := by
  obtain ⟨m, hm⟩ := h
  induction m using Nat.strongRecOn with
  | _ m ih =>
    by_cases hk : ∃ k, k < m ∧ p k
    · obtain ⟨k, h1, h2⟩ := hk; exact ih k h1 h2
    · exact ⟨m, hm, fun k hp => Nat.le_of_not_lt fun hlt => hk ⟨k, hlt, hp⟩⟩
theorem wpIn_loop_n {F : Fence} {c : Code} {Q : Exit → Act → World → Prop} (J : Nat → Act → World → Prop) (hs : ∀ m a w, J m a w → ∃ m', m = m' + 1 ∧ c.wpIn F 0 P (Exit.then (J m') Q) a w) {m : Nat} {a : Act} {w : World} (h : J m a w) : (Code.loop c).wpIn F 0 P Q a w := by
  classical
  let ν : Act → World → Nat := fun a w => if h : ∃ m, J m a w then Classical.choose (least _ h) else 0
  have hν : ∀ a w, (∃ m, J m a w) → J (ν a w) a w ∧ ∀ k, J k a w → ν a w ≤ k := fun a w h => by
    simp only [ν, dif_pos h]
    exact Classical.choose_spec (least _ h)
  refine wpIn_loop (I := fun a w => ∃ m, J m a w) ν ⟨m, h⟩ fun a w hI => ?_
  obtain ⟨m', e, hw⟩ := hs _ _ _ (hν a w hI).1
  refine wpIn_mono hw fun x a' w' hx => ?_
  cases x <;> try exact hx
  exact ⟨⟨m', hx⟩, by have := (hν a' w' ⟨m', hx⟩).2 m' hx; omega⟩

theorem stepR_scope {b : Frame} {k : List Item} {cs : List Frame} {c : Code} : step P (lone (b.atR a (.code (.scope c) :: k)) cs w) = .next (lone (b.atR a (.code c :: .inScope c :: k)) cs w) :=
  step_lone_go (by simp [stepG, stepG.exec, Frame.atR])
theorem stepR_inScope {b : Frame} {k : List Item} {cs : List Frame} {c : Code} : step P (lone (b.atR a (.inScope c :: k)) cs w) = .next (lone (b.atR a k) cs w) :=
  step_lone_go (by simp [stepG, stepG.exec, Frame.atR])

/-- code within a scope -/
def inScopeWp (F : Fence) (P : Program) (body c : Code) (Q : Exit → Act → World → Prop) (a : Act) (w : World) : Prop :=
  ∀ (b : Frame) (k : List Item) (cs : List Frame), b.roundOf = F.round → F.fn b.fn → F.room (cs.length + 1 + 0) →
    ∃ e a' w', Q e a' w' ∧ ArrivesIn (Machine.fenced P F) P (lone (b.atR a (.code c :: .inScope body :: k)) cs w) b k cs e a' w'
theorem wpIn_scope {F : Fence} {body : Code} {Q : Exit → Act → World → Prop} (h : inScopeWp F P body body Q a w) : (Code.scope body).wpIn F 0 P Q a w := by
  intro b k cs hro hb hr
  obtain ⟨e, a', w', hq, harr⟩ := h b k cs hro hb hr
  exact ⟨e, a', w', hq, .of_steps (.one (fenced_calm hb hr rfl) stepR_scope) harr⟩
theorem inScope_of {F : Fence} {body c : Code} {Q : Exit → Act → World → Prop}
    (h : c.wpIn F 0 P (fun e a' w' => match e with
      | .goto l => match findLabel body l with
        | some rest => inScopeWp F P body rest Q a' w'
        | none => Q (.goto l) a' w'
      | e => Q e a' w') a w) : inScopeWp F P body c Q a w := by
  intro b k cs hro hb hr
  obtain ⟨e, a', w', hq, harr⟩ := h b (.inScope body :: k) cs hro hb hr
  cases e with
  | normal => exact ⟨.normal, a', w', hq, StepsIn.trans harr (.one (fenced_calm hb hr rfl) stepR_inScope)⟩
  | exit id =>
    have hx : exitTo id (.inScope body :: k) = exitTo id k := by simp [exitTo]
    exact ⟨_, a', w', hq, fun k' hk => harr.1 k' (by rw [hx]; exact hk), fun hr' hk => harr.2 hr' (by rw [hx]; exact hk)⟩
  | goto l =>
    dsimp only at hq
    cases hf : findLabel body l with
    | none =>
      rw [hf] at hq
      have hx : gotoIn l (.inScope body :: k) = gotoIn l k := by simp [gotoIn, hf]
      exact ⟨_, a', w', hq, fun k' hk => harr.1 k' (by rw [hx]; exact hk), fun hr' hk => harr.2 hr' (by rw [hx]; exact hk)⟩
    | some rest =>
      rw [hf] at hq
      have hx : gotoIn l (.inScope body :: k) = some (.code rest :: .inScope body :: k) := by simp [gotoIn, hf]
      obtain ⟨e₂, a₂, w₂, hq₂, harr₂⟩ := hq b k cs hro hb hr
      exact ⟨e₂, a₂, w₂, hq₂, .of_steps (harr.1 _ hx) harr₂⟩
  | ret => exact ⟨_, a', w', hq, harr⟩
  | panic ch => exact ⟨_, a', w', hq, harr⟩
  | outgrown => exact ⟨_, a', w', hq, harr⟩

theorem Runs.trans {μ₁ : Mu} {S₁ S₂ : AS} {R₁ R₂ : Fs} {a₁ : Act} {w₁ : World} {x : AX} {e : Exit} {a₂ : Act} {w₂ : World} (h : Past μ S w n μ₁ R₁ S₁ a₁ w₁) (h2 : Runs μ₁ S₁ w₁ n x R₂ S₂ e a₂ w₂) : Runs μ S w n x R₂ S₂ e a₂ w₂ := by
  obtain ⟨e1, μ', h3⟩ := h2
  exact ⟨e1, μ', h.trans h3⟩

section code
variable {dr : Drawn} {E : Evs}
/-- the loop of whose rounds the frame is -/
def RdR (μ : Mu) (rd r : Option Nat) : Prop := (rd = none ∧ r = none) ∨ ∃ l p, rd = some l ∧ μ l = some p ∧ r = some p.blk
theorem RdR.mono {ν : Mu} {rd r : Option Nat} (h : μ.le ν) (x : RdR μ rd r) : RdR ν rd r := by
  rcases x with x | ⟨l, p, h1, h2, h3⟩
  · exact .inl x
  · exact .inr ⟨l, p, h1, h _ _ h2, h3⟩
/-- a reckoner of code is right -/
def CodeOk (P : Program) (n : Nat) (rd : Option Nat) (c : Code) (f : Fs → AS → Option (AX × Fs × AS)) : Prop := ∀ r x (F : Fs) S F' S' μ a w, f F S = some (x, F', S') → RdR μ rd r → Good μ S w → FrR μ F.R n F.D a → c.wpIn (W r) 0 P (Runs μ S w n x F' S') a w

theorem loopF_ok {rd : Option Nat} {c : Code} {f : Fs → AS → Option (AX × Fs × AS)} (hf : CodeOk P n rd c f) (m : Nat) : CodeOk P n rd (.loop c) (loopF f m) := by
  intro r x R S R' S' μ a w hl hrd g fr
  refine wpIn_loop_n (J := fun m a₁ w₁ => ∃ μ₁ R₁ S₁, loopF f m R₁ S₁ = some (x, R', S') ∧ Past μ S w n μ₁ R₁ S₁ a₁ w₁) (fun m a₁ w₁ hJ => ?_) ⟨μ, R, S, hl, g, fr, Goes.refl _ _ _ _ _, Nat.le_refl _⟩
  obtain ⟨μ₁, R₁, S₁, hl₁, hp⟩ := hJ
  cases m with
  | zero => simp only [loopF] at hl₁; cases hl₁
  | succ m =>
    refine ⟨m, rfl, ?_⟩
    simp only [loopF] at hl₁
    split at hl₁
    · rename_i R₂ S₂ hb
      refine wpIn_mono (hf r _ _ _ _ _ _ _ _ hb (hrd.mono hp.goes.le) hp.good hp.fr) fun e a₂ w₂ h2 => ?_
      obtain ⟨rfl, μ₂, h2⟩ := h2
      exact ⟨μ₂, R₂, S₂, hl₁, hp.trans h2⟩
    · rename_i hne
      refine wpIn_mono (hf r _ _ _ _ _ _ _ _ hl₁ (hrd.mono hp.goes.le) hp.good hp.fr) fun e a₂ w₂ h2 => ?_
      have h3 := Runs.trans hp h2
      obtain ⟨rfl, _⟩ := h2
      cases x with
      | normal => exact absurd hl₁ (hne _ _)
      | _ => exact h3

theorem scopeF_ok {rd : Option Nat} {body : Code} {f : Code → Fs → AS → Option (AX × Fs × AS)} (hf : ∀ c, CodeOk P n rd c (f c)) : ∀ (m : Nat) (c : Code) (r : Option Nat) (x : AX) (R : Fs) (S : AS) (R' : Fs) (S' : AS) (μ : Mu) (a : Act) (w : World),
    scopeF f body m c R S = some (x, R', S') → RdR μ rd r → Good μ S w → FrR μ R.R n R.D a → inScopeWp (W r) P body c (Runs μ S w n x R' S') a w
  | 0, c, r, x, R, S, R', S', μ, a, w, hl, hrd, g, fr => by simp only [scopeF] at hl; cases hl
  | m + 1, c, r, x, R, S, R', S', μ, a, w, hl, hrd, g, fr => by
    simp only [scopeF] at hl
    refine inScope_of ?_
    split at hl
    · rename_i l R₁ S₁ hb
      refine wpIn_mono (hf c r _ _ _ _ _ _ _ _ hb hrd g fr) fun e a₂ w₂ h2 => ?_
      obtain ⟨rfl, μ₂, h2⟩ := h2
      simp only [toExit]
      split at hl
      · rename_i rest hrest
        rw [hrest]
        have := scopeF_ok hf m rest r x R₁ S₁ R' S' μ₂ a₂ w₂ hl (hrd.mono h2.goes.le) h2.good h2.fr
        intro b k cs h1 h3 h4
        obtain ⟨e, a', w', hq, harr⟩ := this b k cs h1 h3 h4
        exact ⟨e, a', w', Runs.trans h2 hq, harr⟩
      · rename_i hrest
        rw [hrest]
        cases hl
        exact ⟨rfl, μ₂, h2⟩
    · rename_i hne
      refine wpIn_mono (hf c r _ _ _ _ _ _ _ _ hl hrd g fr) fun e a₂ w₂ h2 => ?_
      have h3 := h2
      obtain ⟨rfl, _⟩ := h2
      cases x with
      | goto l => exact absurd hl (hne _ _ _)
      | _ => exact h3

/-- an object that is no row is put in place of one that is none, names and all as they were -/
theorem setObj_run {h : Heap} (r : Rel μ h w) {b : Nat} {o o' : AObj} {p : Place} {x ob : Obj} (id nx : Nat) (hb : h.get b = some o) (hp : μ b = some p) (hx : w.heap[p.blk]? = some x) (hnc : ∀ c e f, x ≠ .cells c e f) (hob : ObjR μ (some ob) p o') :
    ∃ w', (setObj p.blk ob).run P w = .ok () w' ∧ Rel μ (h.set b (some o')) w' ∧ Goes id nx μ h w μ (h.set b (some o')) w' := by
  have hlt : p.blk < w.heap.size := (Array.getElem?_eq_some_iff.1 hx).1
  have hnt : o.isTab = false := by
    cases o <;> first | rfl | skip
    obtain ⟨q, hq, _, c', e, fz, h1, _⟩ := r.live b _ hb
    rw [hp] at hq
    cases hq
    rw [hx] at h1
    exact absurd (Option.some.inj h1) (hnc _ _ _)
  obtain ⟨h1, h2⟩ := write r (o' := o') (w' := { w with heap := w.heap.setIfInBounds p.blk ob }) id nx hb hnt hp (by simp) (by
    show ObjR μ (w.heap.setIfInBounds p.blk ob)[p.blk]? p o'
    rw [Array.getElem?_setIfInBounds, if_pos rfl, if_pos hlt]
    exact hob) (fun k hk => by
    show (w.heap.setIfInBounds p.blk ob)[k]? = _
    rw [Array.getElem?_setIfInBounds, if_neg (fun e => hk e.symm)]) rfl rfl rfl
  refine ⟨_, ?_, h1, h2⟩
  cases x <;> first
    | (exact absurd rfl (hnc _ _ _))
    | (simp only [setObj, Sem.run, hx])
theorem getLoop_run (g : Good μ S w) {l : Nat} {lo : ALoop} {p : Place} (hl : S.h.get l = some (.loop lo)) (hp : μ l = some p) :
    p.disp = 0 ∧ ∃ (fn : FuncId) (tmps' : Array Value) (q : Place), w.heap[p.blk]? = some (.loop { state := lo.state, pending := lo.pending, fn := fn, tmps := tmps', params := lo.params, assign := lo.assign, body := lo.body, defers := q.blk }) ∧
      (Instr.getLoop p.blk).run P w = .ok { state := lo.state, pending := lo.pending, fn := fn, tmps := tmps', params := lo.params, assign := lo.assign, body := lo.body, defers := q.blk } w ∧ μ lo.defers = some q ∧ lo.n ≤ tmps'.size ∧ ∀ t v, rget lo.tmps t = some v → VR μ v (tmps'.getD t undef) := by
  obtain ⟨p', hp', h0, fn, tmps', q, h1, h2, h3, h4⟩ := g.rel.live l _ hl
  rw [hp] at hp'
  cases hp'
  exact ⟨h0, fn, tmps', q, h1, by simp [Instr.getLoop, getObj, Sem.run, h1], h2, h3, h4⟩
/-- a loop's record is written -/
theorem setLoop_run (g : Good μ S w) {l : Nat} {lo : ALoop} {p : Place} (hl : S.h.get l = some (.loop lo)) (hp : μ l = some p) (st : LoopState) (jump : Option Code) :
    ∃ (fn : FuncId) (tmps' : Array Value) (q : Place) (w' : World), (Instr.getLoop p.blk).run P w = .ok { state := lo.state, pending := lo.pending, fn := fn, tmps := tmps', params := lo.params, assign := lo.assign, body := lo.body, defers := q.blk } w ∧
      (setObj p.blk (.loop { state := st, pending := jump, fn := fn, tmps := tmps', params := lo.params, assign := lo.assign, body := lo.body, defers := q.blk })).run P w = .ok () w' ∧
      Good μ ⟨S.h.set l (some (.loop { lo with state := st, pending := jump })), S.nx⟩ w' ∧ Goes S.nx S.nx μ S.h w μ (S.h.set l (some (.loop { lo with state := st, pending := jump }))) w' := by
  obtain ⟨h0, fn, tmps', q, h1, h2, h3, h4, h5⟩ := getLoop_run (P := P) g hl hp
  obtain ⟨w', a, b, c⟩ := setObj_run (P := P) g.rel (o' := .loop { lo with state := st, pending := jump }) (ob := .loop { state := st, pending := jump, fn := fn, tmps := tmps', params := lo.params, assign := lo.assign, body := lo.body, defers := q.blk }) S.nx S.nx hl hp h1 (fun _ _ _ => by simp) ⟨h0, fn, tmps', q, rfl, h3, h4, h5⟩
  exact ⟨fn, tmps', q, w', h2, a, ⟨b, g.dom⟩, c⟩
theorem endF_ok {l : Nat} {jump : Option Code} {p : Place} (he : endF l S = some (jump, S')) (g : Good μ S w) (hp : μ l = some p) :
    ∃ w', (Instr.endLoop p.blk).run P w = .ok jump w' ∧ Good μ S' w' ∧ Goes S.nx S.nx μ S.h w μ S'.h w' ∧ S.nx ≤ S'.nx := by
  unfold endF at he
  split at he
  · rename_i lo hl
    split at he
    · cases he
    · rename_i hb
      cases he
      obtain ⟨fn, tmps', q, w', h1, h2, h3, h4⟩ := setLoop_run (P := P) g hl hp .exhausted lo.pending
      refine ⟨w', ?_, h3, h4, Nat.le_refl _⟩
      have hb' : (lo.state == LoopState.busy) = false := by simpa using hb
      simp only [Instr.endLoop, Sem.run_bind, h1, Result.andThen_ok, hb', Bool.false_eq_true, if_false, h2, Sem.run_pure]
  · cases he
theorem enterF_ok {r rd : Option Nat} {ps : Array Tmp} {assign body : Code} {l : Nat} {F₁ : Fs} {S₁ : AS} (he : enterF n rd ps assign body F S = some (l, F₁, S₁)) (hrd : RdR μ rd r) (g : Good μ S w) (fr : FrR μ F.R n F.D a) (fn : FuncId) :
    ∃ μ₁ p mark w₁, (Instr.enterLoop fn a.tmps ps assign body r).run P w = .ok (p.blk, mark) w₁ ∧ μ₁ l = some p ∧ Past μ S w n μ₁ F₁ S₁ { a with defers := mark ++ a.defers } w₁ := by
  have hnone : ∀ i, μ i = none → S.h.get i = none := fun i hi => by
    cases hg : S.h.get i with
    | none => rfl
    | some o => obtain ⟨p, hp, _⟩ := g.rel.live i o hg; rw [hi] at hp; cases hp
  unfold enterF at he
  rcases hrd with ⟨rfl, rfl⟩ | ⟨l₀, p₀, rfl, hp₀, rfl⟩
  · simp only at he
    split at he
    · rename_i hlt
      cases he
      have d0 := g.dom S.nx (Nat.le_refl _) (by omega)
      have d1 := g.dom (S.nx + 1) (by omega) hlt
      obtain ⟨r1, g1⟩ := make g.rel (o := .mark) (ob := .deferred (some [])) S.nx 0 (by omega) d0 (hnone _ d0) rfl
      have e1 : (μ.put S.nx ⟨w.heap.size, 0, 0, .nilFunc⟩) (S.nx + 1) = none := by simp [Mu.put, d1]
      have e2 : (S.h.set S.nx (some .mark)).get (S.nx + 1) = none := by rw [Heap.get_set _ _ _ _ (by omega), if_neg (by omega)]; exact hnone _ d1
      have hle1 := Mu.le_put (p := ⟨w.heap.size, 0, 0, .nilFunc⟩) d0
      have hle2 := Mu.le_put (p := ⟨(w.alloc (.deferred (some []))).heap.size, 0, 0, .nilFunc⟩) e1
      obtain ⟨r2, g2⟩ := make r1 (o := .loop { state := .ready, pending := none, tmps := F.R, n, params := ps, assign, body, defers := S.nx }) (ob := .loop { state := .ready, pending := none, fn := fn, tmps := a.tmps, params := ps, assign, body, defers := w.heap.size }) S.nx 0 hlt e1 e2
        ⟨rfl, fn, a.tmps, ⟨w.heap.size, 0, 0, .nilFunc⟩, rfl, hle2 _ _ (Mu.put_self _ _ _), fr.sz, fun t v ht => ((fr.reg t v ht).mono hle1).mono hle2⟩
      refine ⟨_, ⟨(w.alloc (.deferred (some []))).heap.size, 0, 0, .nilFunc⟩, [{ target := .collected w.heap.size, args := #[] }], _, ?_, Mu.put_self _ _ _, ⟨⟨r2, fun i h1 h2 => ?_⟩, ⟨fr.sz, fun t v ht => ((fr.reg t v ht).mono hle1).mono hle2, ?_⟩, g1.trans (g2.mono (Nat.le_refl _) (.inr (by omega))), by simp⟩⟩
      · simp [Instr.enterLoop]
      · dsimp only at h1
        have := g.dom i (by omega) h2
        simp only [Mu.put]
        rw [if_neg (by omega), if_neg (by omega)]
        exact this
      · exact .cons (p := ⟨w.heap.size, 0, 0, .nilFunc⟩) (hle2 _ _ (Mu.put_self _ _ _)) ((fr.dn.mono hle1).mono hle2)
    · cases he
  · simp only at he
    split at he
    · rename_i lo hl
      split at he
      · rename_i hlt
        cases he
        have d0 := g.dom S.nx (Nat.le_refl _) hlt
        have hle1 := Mu.le_put (p := ⟨w.heap.size, 0, 0, .nilFunc⟩) d0
        obtain ⟨_, fn', tmps', q, _, h2, h3, _⟩ := getLoop_run (P := P) g hl hp₀
        obtain ⟨r2, g2⟩ := make g.rel (o := .loop { state := .ready, pending := none, tmps := F.R, n, params := ps, assign, body, defers := lo.defers }) (ob := .loop { state := .ready, pending := none, fn := fn, tmps := a.tmps, params := ps, assign, body, defers := q.blk }) S.nx 0 hlt d0 (hnone _ d0)
          ⟨rfl, fn, a.tmps, q, rfl, hle1 _ _ h3, fr.sz, fun t v ht => (fr.reg t v ht).mono hle1⟩
        refine ⟨_, ⟨w.heap.size, 0, 0, .nilFunc⟩, [], _, ?_, Mu.put_self _ _ _, ⟨⟨r2, fun i h1 h2 => ?_⟩, ⟨fr.sz, fun t v ht => (fr.reg t v ht).mono hle1, by simpa using fr.dn.mono hle1⟩, g2, by simp⟩⟩
        · simp [Instr.enterLoop, h2]
        · dsimp only at h1
          have := g.dom i (by omega) h2
          simp only [Mu.put]
          rw [if_neg (by omega)]
          exact this
      · cases he
    · cases he

theorem codeF_ok {rd : Option Nat} (hD : DrOk P dr) (hE : EvsOk P E) : ∀ (k : Nat) (c : Code), CodeOk P n rd c (codeF P dr E n rd k c)
  | 0, c => by intro r x R S R' S' μ a w hl; simp only [codeF] at hl; cases hl
  | k + 1, c => by
    intro r x R S R' S' μ a w hl hrd g fr
    have still : ∀ {R₁ : Fs} {S₁ : AS}, R₁ = R → S₁ = S → ∃ μ', Past μ S w n μ' R₁ S₁ a w := fun e1 e2 => by subst e1 e2; exact ⟨μ, g, fr, Goes.refl _ _ _ _ _, Nat.le_refl _⟩
    cases c with
    | skip => simp only [codeF] at hl; cases hl; exact wpIn_skip ⟨rfl, still rfl rfl⟩
    | label l => simp only [codeF] at hl; cases hl; exact wpIn_label ⟨rfl, still rfl rfl⟩
    | exit id => simp only [codeF] at hl; cases hl; exact wpIn_exit ⟨rfl, still rfl rfl⟩
    | goto l => simp only [codeF] at hl; cases hl; exact wpIn_goto ⟨rfl, still rfl rfl⟩
    | ret => simp only [codeF] at hl; cases hl; exact wpIn_ret ⟨rfl, still rfl rfl⟩
    | region id ops draw =>
      cases draw with
      | false =>
        simp only [codeF] at hl
        split at hl
        · rename_i R₁ S₁ hs
          cases hl
          exact wpIn_region (seqOps_wp hE _ _ _ _ _ _ _ _ g fr hs fun μ' a' w' h => ⟨rfl, μ', h⟩)
        · cases hl
      | true =>
        simp only [codeF] at hl
        split at hl
        · rename_i R₁ S₁ hs
          cases hl
          exact hD E hE r id ops n R.R S _ _ hs μ w R.D a g fr
        · cases hl
    | seq x₁ y =>
      simp only [codeF] at hl
      refine wpIn_seq ?_
      split at hl
      · rename_i R₁ S₁ hs
        refine wpIn_mono (codeF_ok hD hE k x₁ r _ _ _ _ _ _ _ _ hs hrd g fr) fun e a₂ w₂ h2 => ?_
        obtain ⟨rfl, μ₂, h2⟩ := h2
        exact wpIn_mono (codeF_ok hD hE k y r _ _ _ _ _ _ _ _ hl (hrd.mono h2.goes.le) h2.good h2.fr) fun e a₃ w₃ h3 => Runs.trans h2 h3
      · rename_i hne
        refine wpIn_mono (codeF_ok hD hE k x₁ r _ _ _ _ _ _ _ _ hl hrd g fr) fun e a₂ w₂ h2 => ?_
        have h3 := h2
        obtain ⟨rfl, _⟩ := h2
        cases x with
        | normal => exact absurd hl (hne _ _)
        | _ => exact h3
    | cond c₀ x₁ y =>
      simp only [codeF] at hl
      split at hl
      · rename_i hc
        exact wpIn_cond_true ((fr.ev g.rel _ _ hc).eq_of_dat rfl) (codeF_ok hD hE k x₁ r _ _ _ _ _ _ _ _ hl hrd g fr)
      · rename_i hc
        exact wpIn_cond_false ((fr.ev g.rel _ _ hc).eq_of_dat rfl) (codeF_ok hD hE k y r _ _ _ _ _ _ _ _ hl hrd g fr)
      · cases hl
    | block id b =>
      simp only [codeF] at hl
      refine wpIn_block ?_
      split at hl
      · rename_i id' R₁ S₁ hs
        refine wpIn_mono (codeF_ok hD hE k b r _ _ _ _ _ _ _ _ hs hrd g fr) fun e a₂ w₂ h2 => ?_
        obtain ⟨rfl, h2⟩ := h2
        simp only [toExit, Exit.inBlock]
        split at hl
        · rename_i hid
          cases hl
          rw [if_pos hid]
          exact ⟨rfl, h2⟩
        · rename_i hid
          cases hl
          rw [if_neg hid]
          exact ⟨rfl, h2⟩
      · rename_i hne
        refine wpIn_mono (codeF_ok hD hE k b r _ _ _ _ _ _ _ _ hl hrd g fr) fun e a₂ w₂ h2 => ?_
        have h3 := h2
        obtain ⟨rfl, _⟩ := h2
        cases x with
        | exit id' => exact absurd hl (hne _ _ _)
        | _ => exact h3
    | loop b =>
      simp only [codeF] at hl
      exact loopF_ok (codeF_ok hD hE k b) 100000 r x R S R' S' μ a w hl hrd g fr
    | scope b =>
      simp only [codeF] at hl
      exact wpIn_scope (scopeF_ok (fun c => codeF_ok hD hE k c) 100000 b r x R S R' S' μ a w hl hrd g fr)
    | rangeFunc g₀ ps assign body =>
      simp only [codeF] at hl
      split at hl
      · rename_i f₀ first captured hg₀
        split at hl
        · rename_i hok
          split at hl
          · rename_i l F₁ S₁ hent
            split at hl
            · rename_i u S₂ hcall
              refine wpIn_rangeFunc fun fn _ => ?_
              obtain ⟨μ₁, p, mark, w₁, hen, hp, past⟩ := enterF_ok (P := P) hent hrd g fr fn
              obtain ⟨xs', ys', hval, hxs, hys⟩ : ∃ xs' ys' : List Value, a.eval g₀ = .func (.func f₀) ⟨xs'⟩ ⟨ys'⟩ ∧ VRs μ first.toList xs' ∧ VRs μ captured.toList ys' := by
                have hfv := fr.ev g.rel _ _ hg₀
                generalize a.eval g₀ = fv at hfv
                cases hfv with
                | dat hd => simp [dat] at hd
                | func _ h1 h2 => exact ⟨_, _, rfl, h1, h2⟩
              have hargs : VRs μ₁ (first.toList ++ [.func (.yield l) #[] #[]] ++ captured.toList) (xs' ++ [.func (.yield p.blk) #[] #[]] ++ ys') :=
                ((hxs.mono past.goes.le).append (.cons (.yield hp) .nil)).append (hys.mono past.goes.le)
              refine ⟨p.blk, mark, w₁, { target := .fn (.func f₀) ⟨ys'⟩, args := (xs' ++ [Value.func (.yield p.blk) #[] #[]]).toArray }, w₁, f₀, (xs' ++ [Value.func (.yield p.blk) #[] #[]] ++ ys').toArray, w₁, hen, ?_, fun _ _ => trivial, ?_, fun hd => (by cases hd), ?_⟩
              · have hcst : a.eval (.const (.func (.yield p.blk) #[] #[])) = .func (.yield p.blk) #[] #[] := rfl
                simp [resolve, rangeCall, hval, Deferred.ofValue, hcst]
              · simp [invoke, enterOk_run hok]
              · refine CallsIn.mono (hE.call _ _ _ _ _ hcall μ₁ w₁ _ past.good hargs) fun e w' he => ?_
                obtain ⟨v', μ₂, rfl, _, hg₂, hgo, hnx⟩ := he
                split at hl
                · rename_i S₃ hend
                  cases hl
                  obtain ⟨w₄, k1, k2, k3, k4⟩ := endF_ok (P := P) hend hg₂ (hgo.le _ _ hp)
                  refine ⟨none, w₄, k1, rfl, μ₂, ?_⟩
                  exact past.trans ⟨k2, (past.fr.mono hgo.le).mono (Mu.le_refl _), hgo.trans (k3.mono hnx (.inr hnx)), Nat.le_trans hnx k4⟩
                · rename_i c₁ S₃ hend
                  obtain ⟨w₄, k1, k2, k3, k4⟩ := endF_ok (P := P) hend hg₂ (hgo.le _ _ hp)
                  refine ⟨some c₁, w₄, k1, ?_⟩
                  have past₃ : Past μ S w n μ₂ F₁ S₃ { a with defers := mark ++ a.defers } w₄ := past.trans ⟨k2, past.fr.mono hgo.le, hgo.trans (k3.mono hnx (.inr hnx)), Nat.le_trans hnx k4⟩
                  exact wpIn_mono (codeF_ok hD hE k c₁ r _ _ _ _ _ _ _ _ hl (hrd.mono past₃.goes.le) past₃.good past₃.fr) fun e a₃ w₃ h3 => Runs.trans past₃ h3
                · cases hl
            · cases hl
          · cases hl
        · cases hl
      · cases hl
    | refuse _ => simp only [codeF] at hl; cases hl

theorem argsR_get : ∀ (vs : List Value) (i : Nat) (R : T Value) (t : Nat), i + vs.length ≤ 1024 → t < 1024 → T.get 10 (argsR vs i R) t = if i ≤ t ∧ t < i + vs.length then vs[t - i]? else T.get 10 R t
  | [], i, R, t, _, _ => by
    simp only [argsR, List.length_nil, Nat.add_zero]
    rw [if_neg (by omega)]
  | v :: vs, i, R, t, h1, h2 => by
    simp only [List.length_cons] at h1
    simp only [argsR]
    rw [argsR_get vs (i + 1) _ t (by omega) h2, T.get_put 10 R i t (some v) (by omega) h2]
    simp only [List.length_cons]
    by_cases h : i + 1 ≤ t ∧ t < i + 1 + vs.length
    · rw [if_pos h, if_pos (by omega)]
      rw [show t - i = (t - (i + 1)) + 1 by omega, List.getElem?_cons_succ]
    · rw [if_neg h]
      by_cases e : t = i
      · subst e
        rw [if_pos rfl, if_pos (by omega)]
        simp
      · rw [if_neg e, if_neg (by omega)]
theorem run_asAddr (p : Addr) (w : World) : (asAddr (.pointer (some p))).run P w = .ok p w := rfl
theorem aLoad_run {h : Heap} (r : Rel μ h w) {t : TypeId} {x x' v : Value} (ha : VR μ x x') (hl : aLoad P h t x = some v) : ∃ p v', x' = .pointer (some p) ∧ (loadVar t p).run P w = .ok v' w ∧ VR μ v v' := by
  unfold aLoad at hl
  split at hl
  · rename_i b o
    cases ha with
    | dat hd => simp [dat] at hd
    | ptr hp =>
      rename_i p
      split at hl
      · rename_i c e g hb
        split at hl
        · rename_i hu
          split at hl
          · rename_i i hi
            split at hl
            · rename_i hn
              obtain ⟨cs', hcl, hcr, hcc⟩ := r.span hb hp o i.size hn
              cases hl
              refine ⟨_, .agg ⟨cs'⟩, rfl, ?_, .agg hcr⟩
              have := run_loadCells_list (P := P) w ⟨p.blk, o + p.disp, none⟩ cs' hcc
              rw [hcl] at this
              simp [loadVar, run_isAggB hu, sizeOf, typeInfo, hi, this]
            · cases hl
          · cases hl
        · rename_i hu
          obtain ⟨c', fz, h1, hz, h2, _⟩ := r.cells hb hp
          obtain ⟨v', h3, h4⟩ := h2 o v hl
          refine ⟨_, v', rfl, ?_, h4⟩
          have hc : w.cell? ⟨p.blk, o + p.disp, none⟩ = some v' := by simp [World.cell?, h1, h3]
          simp [loadVar, run_isAggB hu, hc]
        · cases hl
      · rename_i id' c hb
        split at hl
        · rename_i hu
          obtain ⟨q, hq, rfl, c', e, fz, h1, h2⟩ : ∃ q, μ b = some q ∧ q = ⟨id', 0, 0, .nilFunc⟩ ∧ ∃ (c' : Array Value) (e : TypeId) (fz : Nat × Nat), w.heap[q.blk]? = some (.cells c' e fz) ∧ ∀ (i : Nat) (v : Value), c[i]? = some v → c'[i]? = some v ∧ dat v = true := r.live b _ hb
          rw [hp] at hq
          cases hq
          obtain ⟨h3, h4⟩ := h2 o v hl
          refine ⟨_, v, rfl, ?_, .dat h4⟩
          have hc : w.cell? ⟨id', o + 0, none⟩ = some v := by simp only [World.cell?, h1]; simpa using h3
          simp at hc
          simp [loadVar, run_isAggB hu, hc]
        · cases hl
      · cases hl
  · cases hl
theorem resF_run {h : Heap} (f : FrR μ R n D a) (r : Rel μ h w) : ∀ (rs : List ResultVar) (vs : List Value), resF P h R rs = some vs → ∃ vs', (rs.mapM (fun
    | .tmp t => pure (a.tmps.getD t undef)
    | .cell b t => do loadVar t (← asAddr (a.tmps.getD b undef)) : ResultVar → Sem Value)).run P w = .ok vs' w ∧ VRs μ vs vs'
  | [], vs, hl => by simp only [resF] at hl; cases hl; exact ⟨[], by simp, .nil⟩
  | .tmp t :: rs, vs, hl => by
    simp only [resF] at hl
    split at hl
    · rename_i v vs₁ hv hvs
      cases hl
      obtain ⟨vs', h1, h2⟩ := resF_run f r rs vs₁ hvs
      exact ⟨a.tmps.getD t undef :: vs', by simp only [List.mapM_cons, Sem.run_bind, Sem.run_pure, h1, Result.andThen_ok], .cons (f.reg t v hv) h2⟩
    · cases hl
  | .cell b t :: rs, vs, hl => by
    simp only [resF] at hl
    split at hl
    · rename_i x hx
      split at hl
      · rename_i v vs₁ hv hvs
        cases hl
        obtain ⟨vs', h1, h2⟩ := resF_run f r rs vs₁ hvs
        have hxr := f.reg b x hx
        obtain ⟨p, v', hp, hrun, hv'⟩ := aLoad_run (P := P) r hxr hv
        exact ⟨v' :: vs', by simp only [List.mapM_cons, Sem.run_bind, hp, run_asAddr, Sem.run_pure, hrun, h1, Result.andThen_ok], .cons hv' h2⟩
      · cases hl
    · cases hl

theorem leaveF_ok {fn : Func} {tmps : Array Value} {R : Ending → World → Prop} : ∀ (ds : List Nat) (xs : List Deferred) (μ : Mu) (S S' : AS) (w : World), DR μ ds xs → Good μ S w → leaveF ds S = some S' →
    (∀ w', Good μ S' w' → Goes S.nx S.nx μ S.h w μ S'.h w' → S.nx ≤ S'.nx → ∃ v, (results fn tmps).run P w' = .ok v w' ∧ R (.returned v) w') → LeavesInM (W none) 0 P fn tmps R xs .returning w
  | [], _, μ, S, S', w, .nil, g, hl, hR => by
    simp only [leaveF] at hl
    cases hl
    exact hR w g (Goes.refl _ _ _ _ _) (Nat.le_refl _)
  | d :: ds, _, μ, S, S', w, .cons (p := p) hp hds, g, hl, hR => by
    simp only [leaveF] at hl
    split at hl
    · rename_i hm
      have hob : w.heap[p.blk]? = some (.deferred (some [])) := by
        obtain ⟨p', hp', ho⟩ := g.rel.live d _ hm
        rw [hp] at hp'
        cases hp'
        exact ho
      obtain ⟨w', a, b, c⟩ := setObj_run (P := P) g.rel (o' := .spent) (ob := .deferred none) S.nx S.nx hm hp hob (fun _ _ _ => by simp) rfl
      refine ⟨by simp, .inl ⟨p.blk, w', rfl, ?_, ?_⟩⟩
      · have hg : (getObj p.blk).run P w = .ok (.deferred (some [])) w := by simp [getObj, Sem.run, hob]
        simp [Instr.takeDeferred, hg, a]
      · refine leaveF_ok ds _ μ ⟨S.h.set d (some .spent), S.nx⟩ S' w' hds ⟨b, g.dom⟩ hl fun w₂ h1 h2 h3 => hR w₂ h1 (c.trans h2) h3
    · cases hl

theorem callF_ok (hD : DrOk P dr) (hE : EvsOk P E) : ∀ f args S v S', callF P dr E f args S = some (v, S') → ∀ μ w args', Good μ S w → VRs μ args args' → CallsIn (W none) 0 P f args'.toArray w (Ends μ S w v S') := by
  intro f args S v S' hl μ w args' g ha
  unfold callF at hl
  split at hl
  · rename_i fn hfn
    split at hl
    · rename_i c hc
      split at hl
      · rename_i hlen
        have hal := ha.length
        refine callsIn_of_wp_marks hfn hc trivial ?_
        have hfr : FrR μ (argsR args 0 .leaf) (max args.length fn.ntmps) [] { tmps := args'.toArray ++ Array.replicate (fn.ntmps - args'.toArray.size) undef, defers := [] } := by
          refine ⟨by simp; omega, fun t u ht => ?_, .nil⟩
          unfold rget at ht
          split at ht
          · rename_i ht2
            rw [argsR_get args 0 .leaf t (by omega) ht2, T.get_leaf] at ht
            simp only [Nat.zero_le, true_and, Nat.zero_add, Nat.sub_zero] at ht
            by_cases h1 : t < args.length
            · rw [if_pos h1] at ht
              obtain ⟨v', k1, k2⟩ := ha.get t args[t] (List.getElem?_eq_getElem h1)
              rw [List.getElem?_eq_getElem h1] at ht
              simp at ht
              subst ht
              have : t < args'.length := by omega
              have k3 : args'[t] = v' := by
                rw [List.getElem?_eq_getElem this] at k1
                exact Option.some.inj k1
              simp only [Array.getD_eq_getD_getElem?]
              rw [Array.getElem?_append_left (by simpa using this)]
              simp [this, k3]
              exact k2
            · rw [if_neg h1] at ht
              simp at ht
              subst ht
              simp only [Array.getD_eq_getD_getElem?]
              rw [Array.getElem?_append_right (by simp; omega)]
              rw [Array.getElem?_replicate]
              split
              · exact undefVR
              · exact undefVR
          · cases ht
        have main : ∀ x F₁ S₁, codeF P dr E (max args.length fn.ntmps) none 200 c ⟨argsR args 0 .leaf, []⟩ S = some (x, F₁, S₁) → (x = .normal ∨ x = .ret) → (match leaveF F₁.D S₁ with
            | some S'' => match resF P S''.h F₁.R fn.results.toList with
              | some [v] => some (v, S'')
              | some vs => some (.tuple ⟨vs⟩, S'')
              | none => none
            | none => none : Option (Value × AS)) = some (v, S') →
            c.wpIn (W none) 0 P (bodyPostM (W none) 0 P fn (Ends μ S w v S')) { tmps := args'.toArray ++ Array.replicate (fn.ntmps - args'.toArray.size) undef, defers := [] } w := by
          intro x F₁ S₁ hb hx hres
          refine wpIn_mono (codeF_ok hD hE 200 c none _ _ _ _ _ _ _ _ hb (.inl ⟨rfl, rfl⟩) g hfr) fun e a₂ w₂ h2 => ?_
          obtain ⟨rfl, μ₂, h2⟩ := h2
          have post : LeavesInM (W none) 0 P fn a₂.tmps (Ends μ S w v S') a₂.defers .returning w₂ := by
            split at hres
            · rename_i S'' hleave
              refine leaveF_ok F₁.D _ μ₂ S₁ S'' w₂ h2.fr.dn h2.good hleave fun w₃ g₃ go₃ nx₃ => ?_
              cases hr : resF P S''.h F₁.R fn.results.toList with
              | none => rw [hr] at hres; cases hres
              | some vs =>
                rw [hr] at hres
                obtain ⟨vs', k1, k2⟩ := resF_run h2.fr g₃.rel _ _ hr
                have hmap : (fn.results.mapM (fun
                    | .tmp t => pure (a₂.tmps.getD t undef)
                    | .cell b t => do loadVar t (← asAddr (a₂.tmps.getD b undef)) : ResultVar → Sem Value)).run P w₃ = .ok vs'.toArray w₃ := by
                  rw [Array.mapM_eq_mapM_toList]
                  simp only [Sem.run_map, k1, Result.andThen_ok]
                have hrun : (results fn a₂.tmps).run P w₃ = .ok (if h : vs'.toArray.size = 1 then vs'.toArray[0] else .tuple vs'.toArray) w₃ := by
                  unfold results
                  simp only [Sem.run_bind, Sem.run_pure]
                  exact congrArg (fun r : Result (Array Value) => r.andThen fun a w' => Result.ok (if h : a.size = 1 then a[0] else .tuple a) w') hmap
                refine ⟨_, hrun, ?_⟩
                have hgo := h2.goes.trans (go₃.mono h2.nx (.inr h2.nx))
                have hnx := Nat.le_trans h2.nx nx₃
                have hkl := k2.length
                match vs, vs', k2, hres, hkl with
                | [u], [u'], .cons hu .nil, hres, _ => cases hres; exact ⟨_, μ₂, rfl, hu, g₃, hgo, hnx⟩
                | [], [], .nil, hres, _ => cases hres; exact ⟨_, μ₂, rfl, .tuple .nil, g₃, hgo, hnx⟩
                | u :: u2 :: us, u' :: u2' :: us', k2, hres, _ =>
                  cases hres
                  refine ⟨_, μ₂, rfl, ?_, g₃, hgo, hnx⟩
                  rw [dif_neg (by simp)]
                  exact .tuple k2
            · cases hres
          rcases hx with rfl | rfl
          · exact post
          · exact post
        split at hl
        · rename_i F₁ S₁ hb; exact main _ _ _ hb (.inl rfl) hl
        · rename_i F₁ S₁ hb; exact main _ _ _ hb (.inr rfl) hl
        · cases hl
      · cases hl
    · cases hl
  · cases hl

theorem roundR_ok : ∀ (ts : List Tmp) (vs vs' : List Value) (R R' : T Value) (tmps : Array Value), VRs μ vs vs' → FrR μ R n [] { tmps := tmps, defers := [] } → roundR n ts vs R = some R' →
    FrR μ R' n [] { tmps := (ts.zip vs').foldl (fun tmps (x : Tmp × Value) => tmps.setIfInBounds x.1 x.2) tmps, defers := [] } ∧ vs'.length = ts.length
  | [], _, _, R, R', tmps, .nil, f, hl => by simp only [roundR] at hl; cases hl; exact ⟨f, rfl⟩
  | [], _, _, R, R', tmps, .cons _ _, f, hl => by simp only [roundR] at hl; cases hl
  | t :: ts, _, _, R, R', tmps, .nil, f, hl => by simp only [roundR] at hl; cases hl
  | t :: ts, _, _, R, R', tmps, .cons hv hs, f, hl => by
    simp only [roundR] at hl
    split at hl
    · rename_i R₁ hR
      obtain ⟨h1, h2⟩ := roundR_ok ts _ _ R₁ R' _ hs (f.put hv hR) hl
      exact ⟨by simpa [Act.put] using h1, by simp [h2]⟩
    · cases hl

theorem roundF_ok (hD : DrOk P dr) (hE : EvsOk P E) : ∀ l args S v S', roundF P dr E l args S = some (v, S') → ∀ μ w p args', Good μ S w → μ l = some p → VRs μ args args' →
    ∃ f tmps assign body, (Instr.yield p.blk args'.toArray).run P w = .ok (.round p.blk f tmps assign body) w ∧ RoundIn (W none) 0 P p.blk f tmps assign body w (Ends μ S w v S') := by
  intro l args S v S' hl μ w p args' g hp ha
  unfold roundF at hl
  split at hl
  · rename_i lo hlo
    split at hl
    · rename_i R hR
      obtain ⟨_, fn, tmps', q, _, hget, _, hsz, hreg⟩ := getLoop_run (P := P) g hlo hp
      obtain ⟨hfr, hlen⟩ := roundR_ok lo.params.toList args args' lo.tmps R tmps' ha ⟨hsz, hreg, .nil⟩ hR
      refine ⟨fn, (lo.params.toList.zip args').foldl (fun tmps (x : Tmp × Value) => tmps.setIfInBounds x.1 x.2) tmps', lo.assign, lo.body, ?_, ?_⟩
      · have hs : ¬ args'.length ≠ lo.params.size := by simpa using hlen
        have hz : (lo.params.zip args'.toArray).foldl (fun tmps (x : Tmp × Value) => tmps.setIfInBounds x.1 x.2) tmps' = (lo.params.toList.zip args').foldl (fun tmps (x : Tmp × Value) => tmps.setIfInBounds x.1 x.2) tmps' := by
          rw [← Array.foldl_toList]
          congr 1
          simp
        simp only [Instr.yield, Sem.run_bind, hget, Result.andThen_ok, List.size_toArray]
        rw [if_neg hs]
        simp only [Sem.run_bind, Sem.run_pure, Result.andThen_ok]
        rw [← hz]
      · refine roundIn_of_wpIn trivial ?_
        split at hl
        · rename_i F₁ S₁ hassign
          refine wpIn_mono (codeF_ok (rd := some l) hD hE 200 lo.assign (some p.blk) _ _ _ _ _ _ _ _ hassign (.inr ⟨l, p, rfl, hp, rfl⟩) g hfr) fun e a₁ w₁ h1 => ?_
          obtain ⟨rfl, μ₁, h1⟩ := h1
          split at hl
          · rename_i lo₁ hlo₁
            split at hl
            · rename_i hst
              have hp₁ := h1.goes.le _ _ hp
              obtain ⟨fn₁, tmps₁, q₁, w₂, k1, k2, k3, k4⟩ := setLoop_run (P := P) h1.good hlo₁ hp₁ .busy lo₁.pending
              refine ⟨w₂, ?_, ?_⟩
              · rw [hst] at k1
                simp only [Instr.beginRound, Sem.run_bind, k1, Result.andThen_ok]
                simp only [k2, Result.andThen_ok, Sem.run_pure]
              · split at hl
                · rename_i x F₂ S₂ hbody
                  have past₂ : Past μ S w lo.n μ₁ F₁ ⟨S₁.h.set l (some (.loop { lo₁ with state := .busy })), S₁.nx⟩ a₁ w₂ := h1.trans ⟨k3, h1.fr, k4, Nat.le_refl _⟩
                  refine wpIn_mono (codeF_ok (rd := some l) hD hE 200 lo.body (some p.blk) _ _ _ _ _ _ _ _ hbody (.inr ⟨l, p, rfl, hp₁, rfl⟩) k3 h1.fr) fun e a₂ w₃ h3 => ?_
                  obtain ⟨rfl, μ₃, h3⟩ := h3
                  split at hl
                  · rename_i lo₂ hlo₂
                    cases hl
                    have hp₃ := h3.goes.le _ _ hp₁
                    obtain ⟨fn₂, tmps₂, q₂, w₄, m1, m2, m3, m4⟩ := setLoop_run (P := P) h3.good hlo₂ hp₃ (if (jumpOf x).isNone then .ready else .done) (jumpOf x)
                    have hends : Ends μ S w (.bool (jumpOf x).isNone) ⟨S₂.h.set l (some (.loop { lo₂ with state := if (jumpOf x).isNone then .ready else .done, pending := jumpOf x })), S₂.nx⟩ (.returned (.bool (jumpOf x).isNone)) w₄ := by
                      have past₄ := past₂.trans h3
                      exact ⟨_, μ₃, rfl, .dat rfl, m3, past₄.goes.trans (m4.mono past₄.nx (.inr past₄.nx)), past₄.nx⟩
                    have hend : (Instr.endRound p.blk (jumpOf x)).run P w₃ = .ok (.bool (jumpOf x).isNone) w₄ := by
                      simp only [Instr.endRound, Sem.run_bind, m1, Result.andThen_ok]
                      simp only [m2, Result.andThen_ok, Sem.run_pure]
                    cases x with
                    | normal => exact ⟨_, w₄, hend, hends⟩
                    | ret => exact ⟨_, w₄, hend, hends⟩
                    | exit id => exact ⟨_, w₄, hend, hends⟩
                    | goto l => exact ⟨_, w₄, hend, hends⟩
                  · cases hl
                · cases hl
            · cases hl
          · cases hl
        · cases hl
    · cases hl
  · cases hl

theorem lev_ok (hD : DrOk P dr) : ∀ k, EvsOk P (lev P dr k)
  | 0 => ⟨fun _ _ _ _ _ h => (by cases h), fun _ _ _ _ _ h => (by cases h)⟩
  | k + 1 => ⟨callF_ok hD (lev_ok hD k), roundF_ok hD (lev_ok hD k)⟩
end code
end
end Go.Ge
