/-
  Evaluation of closed calls: one operation, whichever.
-/
import Derived.Test.YtcganjggdkcfhaaGe10c
set_option linter.unusedVariables false
set_option linter.unusedSimpArgs false
namespace Go.Ge

section
variable {P : Program} {μ : Mu} {h : Heap} {w : World} {id nx : Nat}

def aBin (P : Program) (op : BinOp) (t : TypeId) (x y : Operand) (a b : Value) : Option Value :=
  if closed a = true ∧ closed b = true then aPure P (do eqGuard op t x y a b; binOp op t a b) else
  match op, aEq P t a b with
  | .eql, some q => some (.bool q)
  | .neq, some q => some (.bool !q)
  | _, _ => none
theorem aEq_guard {op : BinOp} {t : TypeId} {x y : Operand} {a a' b b' : Value} {q : Bool} (ha : VR μ a a') (hb : VR μ b b') (hl : aEq P t a b = some q) : (eqGuard op t x y a' b').run P w = .ok () w := by
  unfold aEq at hl
  split at hl <;> first | (cases hl; done) | skip
  all_goals (cases ha <;> cases hb <;> first | (rename_i h1 h2; simp [dat] at h1 h2; done) | (rename_i h1; simp [dat] at h1; done) | (rename_i h1 h2; simp [dat] at h1; done) | (rename_i h1 h2; simp [dat] at h2; done) | (unfold eqGuard; split <;> simp))
theorem aBin_sound (r : Rel μ h w) {op : BinOp} {t : TypeId} {x y : Operand} {a a' b b' v : Value} (ha : VR μ a a') (hb : VR μ b b') (hl : aBin P op t x y a b = some v) :
    Does P (do eqGuard op t x y a' b'; binOp op t a' b') id nx μ h w v h := by
  unfold aBin at hl
  split at hl
  · rename_i hc
    rw [ha.eq_of_closed hc.1, hb.eq_of_closed hc.2]
    exact aPure_sound r hl
  · split at hl
    · rename_i q hq
      cases hl
      have hg := aEq_guard (P := P) (w := w) (op := .eql) (x := x) (y := y) ha hb hq
      have he := aEq_sound r ha hb hq
      refine Does.still r (v' := .bool q) ?_ (.dat rfl)
      have hbin : binOp .eql t a' b' = (do pure (.bool (← Op.equal t a' b'))) := by
        unfold aEq at hq
        split at hq <;> first | (cases hq; done) | skip
        all_goals (cases ha <;> cases hb <;> first | rfl | (rename_i h1 h2; simp [dat] at h1 h2; done) | (rename_i h1; simp [dat] at h1; done) | (rename_i h1 h2; simp [dat] at h1; done) | (rename_i h1 h2; simp [dat] at h2; done))
      simp [hg, hbin, he]
    · rename_i q hq
      cases hl
      have hg := aEq_guard (P := P) (w := w) (op := .neq) (x := x) (y := y) ha hb hq
      have he := aEq_sound r ha hb hq
      refine Does.still r (v' := .bool !q) ?_ (.dat rfl)
      have hbin : binOp .neq t a' b' = (do pure (.bool (!(← Op.equal t a' b')))) := by
        unfold aEq at hq
        split at hq <;> first | (cases hq; done) | skip
        all_goals (cases ha <;> cases hb <;> first | rfl | (rename_i h1 h2; simp [dat] at h1 h2; done) | (rename_i h1; simp [dat] at h1; done) | (rename_i h1 h2; simp [dat] at h1; done) | (rename_i h1 h2; simp [dat] at h2; done))
      simp [hg, hbin, he]
    · cases hl

def keep (h : Heap) (v : Option Value) : Option (Value × Heap) := match v with | some v => some (v, h) | none => none
theorem keep_eq {v : Option Value} {x : Value} {h' : Heap} (hl : keep h v = some (x, h')) : v = some x ∧ h' = h := by
  unfold keep at hl
  split at hl
  · cases hl; exact ⟨rfl, rfl⟩
  · cases hl
def unit (h : Option Heap) : Option (Value × Heap) := match h with | some h => some (undef, h) | none => none
theorem unit_eq {x : Value} {h₀ : Option Heap} {h' : Heap} (hl : unit h₀ = some (x, h')) : h₀ = some h' ∧ x = undef := by
  unfold unit at hl
  split at hl
  · cases hl; exact ⟨rfl, rfl⟩
  · cases hl

def aNil (x : Value) : Option Value :=
  match x with
  | .pointer (some _) => some x
  | .func (.func _) _ _ => some x
  | .iface _ _ => some x
  | _ => none

def aBuiltin (P : Program) (id : Nat) (h : Heap) (b : Builtin) (ats : List TypeId) (args : List Value) : Option (Value × Heap) :=
  match b with
  | .append => aAppend P id h ats args
  | .copy => aCopy P h ats args
  | .len => match ats, args with
    | t :: _, x :: _ => keep h (aLenB P h t x)
    | _, _ => none
  | .clear => match ats, args with
    | t :: _, x :: _ => aClear P h t x
    | _, _ => none
  | .delete => match ats, args with
    | t :: _, [x, k] => aDelete P h t x k
    | _, _ => none
  | .min => if args.all dat = true then keep h (aPure P (Builtin.min_ #[] 0 args.toArray)) else none
  | .max => if args.all dat = true then keep h (aPure P (Builtin.max_ #[] 0 args.toArray)) else none
  | _ => none

/-- one operation that runs no code -/
def aop (P : Program) (id : Nat) (h : Heap) (ev : Operand → Option Value) (op : Op) : Option (Value × Heap) :=
  match op with
  | .move x | .assign x => keep h (ev x)
  | .pick c a b => match ev c with
    | some (.bool q) => keep h (if q = true then ev a else ev b)
    | _ => none
  | .alloc e => if id < 65536 then aAlloc P id h e else none
  | .box e x => if id < 65536 then (match ev x with | some v => some (aBox id h e v) | none => none) else none
  | .build t ps => match evP ev ps.toList with
    | some vs => keep h (aBuild P t vs)
    | none => none
  | .buildSlice t n ps => if id < 65536 then (match evP ev ps.toList with
    | some vs => aBuildSlice P id h t n vs
    | none => none) else none
  | .load t a => match ev a with
    | some v => keep h (aLoad P h t v)
    | none => none
  | .store t a x => match ev a, ev x with
    | some a, some v => unit (aStore P h t a v)
    | _, _ => none
  | .nilCheck x => match ev x with
    | some v => keep h (aNil v)
    | none => none
  | .binOp op t x y _ => match ev x, ev y with
    | some a, some b => keep h (aBin P op t x y a b)
    | _, _ => none
  | .unOp op _ x => match ev x with
    | some v => if closed v = true then keep h (aPure P (Op.unary op v)) else none
    | none => none
  | .convert s d x => match ev x with
    | some v => aConvert P id h s d v
    | none => none
  | .makeInterface t x => match ev x with
    | some v => keep h (aMakeI P t v)
    | none => none
  | .makeFunc fn fs cs => match fn, evL ev fs.toList, evL ev cs.toList with
    | .func f, some a, some b => some (.func (.func f) ⟨a⟩ ⟨b⟩, h)
    | _, _, _ => none
  | .makeMap t r => if id < 65536 then (match evO ev r with
    | some v => aMakeMap P id h t v
    | none => none) else none
  | .makeSlice t l c => if id < 65536 then (match ev l, ev c with
    | some a, some b => aMakeSlice P id h t a b
    | _, _ => none) else none
  | .slice t x lo hi mx => match ev x, evO ev lo, evO ev hi, evO ev mx with
    | some v, some a, some b, some c => keep h (aSlice P h t v a b c)
    | _, _, _, _ => none
  | .fieldAddr s x k => match ev x with
    | some v => keep h (aFieldAddr P s v k)
    | none => none
  | .field t x k => match ev x with
    | some v => keep h (aField P t v k)
    | none => none
  | .indexAddr t x i => match ev x, ev i with
    | some a, some b => keep h (aIndexAddr P t a b)
    | _, _ => none
  | .index t x i => match ev x, ev i with
    | some a, some b => keep h (aIndex P t a b)
    | _, _ => none
  | .lookup t x i ok => match ev x, ev i with
    | some a, some b => keep h (aLookup P h t a b ok)
    | _, _ => none
  | .mapUpdate t m k x | .insert t m k x => match ev m, ev k, ev x with
    | some a, some b, some c => unit (aMapUpdate P h t a b c)
    | _, _, _ => none
  | .mapEntry t m k => match ev m, ev k with
    | some a, some b => aMapEntry P h t a b
    | _, _ => none
  | .entryStore _ m s x => match ev m, ev s, ev x with
    | some a, some b, some c => unit (aEntryStore h a b c)
    | _, _, _ => none
  | .range t x => if id < 65536 then (match ev x with
    | some v => aRange P id h t v
    | none => none) else none
  | .next it str => match ev it with
    | some v => aNext h v str
    | none => none
  | .entry it => match ev it with
    | some v => keep h (aEntry h v)
    | none => none
  | .typeAssert x _ a ok => match ev x with
    | some v => keep h (aAssert P v a ok)
    | none => none
  | .extract x k => match ev x with
    | some v => keep h (aExtract v k)
    | none => none
  | .call c => match c.callee with
    | .builtin b => if id < 65536 then (match evL ev c.args.toList with
      | some vs => aBuiltin P id h b c.argTypes.toList vs
      | none => none) else none
    | _ => none
  | _ => none

theorem aop_sound (r : Rel μ h w) {ev : Operand → Option Value} {ρ : Operand → Value} (he : EvR μ ev ρ) {o : Oper} {v : Value} {h' : Heap} (hid : μ id = none) (hh : h.get id = none) (hl : aop P id h ev o.op = some (v, h')) :
    DoesOp P (execOp ρ o) id nx μ h w v h' := by
  unfold execOp
  have pureV : ∀ {a a' : Value}, VR μ a a' → DoesOp P (pure (.value a')) id nx μ h w a h := fun {a a'} ha => ⟨μ, a', w, .inl rfl, ha, r, Goes.refl _ _ _ _ _⟩
  cases hop : o.op with
  | move x => rw [hop] at hl; obtain ⟨h1, rfl⟩ := keep_eq hl; exact pureV (he _ _ h1)
  | assign x => rw [hop] at hl; obtain ⟨h1, rfl⟩ := keep_eq hl; exact pureV (he _ _ h1)
  | pick c a b =>
    rw [hop] at hl
    simp only [aop] at hl
    split at hl
    · rename_i q hq
      obtain ⟨h1, rfl⟩ := keep_eq hl
      have hc := (he _ _ hq).eq_of_dat rfl
      refine ⟨μ, ρ (if q = true then a else b), w, .inl ?_, ?_, r, Goes.refl _ _ _ _ _⟩
      · simp only [hc, asBool]
        cases q <;> simp
      · cases q <;> exact he _ _ h1
    · cases hl
  | alloc e =>
    rw [hop] at hl
    simp only [aop] at hl
    split at hl
    · rename_i hlt; exact (aAlloc_sound r hlt hid hh hl).op
    · cases hl
  | box e x =>
    rw [hop] at hl
    simp only [aop] at hl
    split at hl
    · rename_i hlt
      split at hl
      · rename_i u hu
        have := aBox_sound (P := P) (e := e) (nx := nx) r hlt hid hh (he _ _ hu)
        cases hl
        exact this.op
      · cases hl
    · cases hl
  | build t ps =>
    rw [hop] at hl
    simp only [aop] at hl
    split at hl
    · rename_i vs hvs
      obtain ⟨h1, rfl⟩ := keep_eq hl
      have := aBuild_sound (P := P) (id := id) (nx := nx) r (evP_rel he _ _ hvs) h1
      have e : (ps.map fun (i, x) => (i, ρ x)) = (ps.toList.map fun (i, x) => (i, ρ x)).toArray := Array.ext' (by simp)
      simp only [e]
      exact this.op
    · cases hl
  | buildSlice t n ps =>
    rw [hop] at hl
    simp only [aop] at hl
    split at hl
    · rename_i hlt
      split at hl
      · rename_i vs hvs
        have := aBuildSlice_sound (P := P) (nx := nx) r hlt hid hh (evP_rel he _ _ hvs) hl
        have e : (ps.map fun (i, x) => (i, ρ x)) = (ps.toList.map fun (i, x) => (i, ρ x)).toArray := Array.ext' (by simp)
        simp only [e]
        exact this.op
      · cases hl
    · cases hl
  | load t a =>
    rw [hop] at hl
    simp only [aop] at hl
    split at hl
    · rename_i u hu; obtain ⟨h1, rfl⟩ := keep_eq hl; exact (aLoad_sound r (he _ _ hu) h1).op
    · cases hl
  | store t a x =>
    rw [hop] at hl
    simp only [aop] at hl
    split at hl
    · rename_i u v hu hv; obtain ⟨h1, rfl⟩ := unit_eq hl; exact (aStore_sound r (he _ _ hu) (he _ _ hv) h1).op
    · cases hl
  | nilCheck x =>
    rw [hop] at hl
    simp only [aop] at hl
    split at hl
    · rename_i u hu
      obtain ⟨h1, rfl⟩ := keep_eq hl
      have hx := he _ _ hu
      dsimp only
      generalize ρ x = y at hx
      unfold aNil at h1
      split at h1
      · cases h1
        cases hx with
        | dat hd => simp [dat] at hd
        | ptr hp =>
          exact pureV (.ptr hp)
      · cases h1
        cases hx with
        | dat hd => simp [dat] at hd
        | func hf ha hb =>
          exact pureV (.func hf ha hb)
      · cases h1
        cases hx with
        | dat hd => simp [dat] at hd
        | iface ha =>
          exact pureV (.iface ha)
      · cases h1
    · cases hl
  | binOp op t x y yt =>
    rw [hop] at hl
    simp only [aop] at hl
    split at hl
    · rename_i a b ha hb; obtain ⟨h1, rfl⟩ := keep_eq hl; exact (aBin_sound r (he _ _ ha) (he _ _ hb) h1).op
    · cases hl
  | unOp op t x =>
    rw [hop] at hl
    simp only [aop] at hl
    split at hl
    · rename_i u hu
      split at hl
      · rename_i hc
        obtain ⟨h1, rfl⟩ := keep_eq hl
        have hx := (he _ _ hu).eq_of_closed hc
        dsimp only
        rw [hx]
        exact (aPure_sound r h1).op
      · cases hl
    · cases hl
  | convert s d x =>
    rw [hop] at hl
    simp only [aop] at hl
    split at hl
    · rename_i u hu; exact (aConvert_sound r hid hh (he _ _ hu) hl).op
    · cases hl
  | makeInterface t x =>
    rw [hop] at hl
    simp only [aop] at hl
    split at hl
    · rename_i u hu; obtain ⟨h1, rfl⟩ := keep_eq hl; exact (aMakeI_sound r (he _ _ hu) h1).op
    · cases hl
  | makeFunc fn fs cs =>
    rw [hop] at hl
    simp only [aop] at hl
    split at hl
    · rename_i f a b ha hb
      cases hl
      have h1 := evL_rel he _ _ ha
      have h2 := evL_rel he _ _ hb
      refine ⟨μ, .func (.func f) (fs.map ρ) (cs.map ρ), w, .inl (by simp [Instr.makeFunc]), ?_, r, Goes.refl _ _ _ _ _⟩
      have e1 : fs.map ρ = ⟨fs.toList.map ρ⟩ := Array.ext' (by simp)
      have e2 : cs.map ρ = ⟨cs.toList.map ρ⟩ := Array.ext' (by simp)
      rw [e1, e2]
      exact .func (fun _ => by simp) h1 h2
    · cases hl
  | makeMap t x =>
    rw [hop] at hl
    simp only [aop] at hl
    split at hl
    · rename_i hlt
      split at hl
      · rename_i u hu; exact (aMakeMap_sound r hlt hid hh (evO_rel he hu) hl).op
      · cases hl
    · cases hl
  | makeSlice t a b =>
    rw [hop] at hl
    simp only [aop] at hl
    split at hl
    · rename_i hlt
      split at hl
      · rename_i u v hu hv; exact (aMakeSlice_sound r hlt hid hh (he _ _ hu) (he _ _ hv) hl).op
      · cases hl
    · cases hl
  | slice t x lo hi mx =>
    rw [hop] at hl
    simp only [aop] at hl
    split at hl
    · rename_i u a b c hu ha hb hc; obtain ⟨h1, rfl⟩ := keep_eq hl; exact (aSlice_sound r (he _ _ hu) (evO_rel he ha) (evO_rel he hb) (evO_rel he hc) h1).op
    · cases hl
  | fieldAddr s x k =>
    rw [hop] at hl
    simp only [aop] at hl
    split at hl
    · rename_i u hu; obtain ⟨h1, rfl⟩ := keep_eq hl; exact (aFieldAddr_sound r (he _ _ hu) h1).op
    · cases hl
  | field t x k =>
    rw [hop] at hl
    simp only [aop] at hl
    split at hl
    · rename_i u hu; obtain ⟨h1, rfl⟩ := keep_eq hl; exact (aField_sound r (he _ _ hu) h1).op
    · cases hl
  | indexAddr t x i =>
    rw [hop] at hl
    simp only [aop] at hl
    split at hl
    · rename_i a b ha hb; obtain ⟨h1, rfl⟩ := keep_eq hl; exact (aIndexAddr_sound r (he _ _ ha) (he _ _ hb) h1).op
    · cases hl
  | index t x i =>
    rw [hop] at hl
    simp only [aop] at hl
    split at hl
    · rename_i a b ha hb; obtain ⟨h1, rfl⟩ := keep_eq hl; exact (aIndex_sound r (he _ _ ha) (he _ _ hb) h1).op
    · cases hl
  | lookup t x i ok =>
    rw [hop] at hl
    simp only [aop] at hl
    split at hl
    · rename_i a b ha hb; obtain ⟨h1, rfl⟩ := keep_eq hl; exact (aLookup_sound r (he _ _ ha) (he _ _ hb) h1).op
    · cases hl
  | mapUpdate t m k x =>
    rw [hop] at hl
    simp only [aop] at hl
    split at hl
    · rename_i a b c ha hb hc; obtain ⟨h1, rfl⟩ := unit_eq hl; exact (aMapUpdate_sound r (he _ _ ha) (he _ _ hb) (he _ _ hc) h1).op
    · cases hl
  | insert t m k x =>
    rw [hop] at hl
    simp only [aop] at hl
    split at hl
    · rename_i a b c ha hb hc; obtain ⟨h1, rfl⟩ := unit_eq hl; exact (aMapUpdate_sound r (he _ _ ha) (he _ _ hb) (he _ _ hc) h1).op
    · cases hl
  | mapEntry t m k =>
    rw [hop] at hl
    simp only [aop] at hl
    split at hl
    · rename_i a b ha hb; exact (aMapEntry_sound r (he _ _ ha) (he _ _ hb) hl).op
    · cases hl
  | entryStore t m s x =>
    rw [hop] at hl
    simp only [aop] at hl
    split at hl
    · rename_i a b c ha hb hc; obtain ⟨h1, rfl⟩ := unit_eq hl; exact (aEntryStore_sound r (he _ _ ha) (he _ _ hb) (he _ _ hc) h1).op
    · cases hl
  | range t x =>
    rw [hop] at hl
    simp only [aop] at hl
    split at hl
    · rename_i hlt
      split at hl
      · rename_i u hu; exact (aRange_sound r hlt hid hh (he _ _ hu) hl).op
      · cases hl
    · cases hl
  | next it str =>
    rw [hop] at hl
    simp only [aop] at hl
    split at hl
    · rename_i u hu; exact (aNext_sound r (he _ _ hu) hl).op
    · cases hl
  | entry it =>
    rw [hop] at hl
    simp only [aop] at hl
    split at hl
    · rename_i u hu; obtain ⟨h1, rfl⟩ := keep_eq hl; exact (aEntry_sound r (he _ _ hu) h1).op
    · cases hl
  | typeAssert x t a ok =>
    rw [hop] at hl
    simp only [aop] at hl
    split at hl
    · rename_i u hu; obtain ⟨h1, rfl⟩ := keep_eq hl; exact (aAssert_sound r (he _ _ hu) h1).op
    · cases hl
  | extract x k =>
    rw [hop] at hl
    simp only [aop] at hl
    split at hl
    · rename_i u hu; obtain ⟨h1, rfl⟩ := keep_eq hl; exact (aExtract_sound r (he _ _ hu) h1).op
    · cases hl
  | call c =>
    rw [hop] at hl
    simp only [aop] at hl
    split at hl
    · rename_i b hb
      split at hl
      · rename_i hlt
        split at hl
        · rename_i vs hvs
          have hargs := evL_rel he _ _ hvs
          have e1 : c.args.map ρ = (c.args.toList.map ρ).toArray := Array.ext' (by simp)
          have hcall : ∀ s : Sem Value, (∀ consts, builtin b c.argTypes o.type consts (c.args.map ρ) = (do pure (.value (← s)))) → Does P s id nx μ h w v h' → DoesOp P (do let d ← resolve ρ c o.type; invoke d.target d.args) id nx μ h w v h' := by
            intro s hs hd
            obtain ⟨μ', v', w', k1, k2⟩ := hd
            refine ⟨μ', v', w', .inl ?_, k2⟩
            simp [resolve, hb, invoke, hs, k1]
          cases b <;> simp only [aBuiltin] at hl <;> try (cases hl; done)
          case append =>
            refine hcall (Builtin.append_ c.argTypes o.type (c.args.map ρ)) (fun _ => rfl) ?_
            have := aAppend_sound (P := P) (nx := nx) (ty := o.type) r hlt hid hh hargs hl
            rw [e1]
            simpa using this
          case copy =>
            refine hcall (Builtin.copy_ c.argTypes o.type (c.args.map ρ)) (fun _ => rfl) ?_
            have := aCopy_sound (P := P) (id := id) (nx := nx) (ty := o.type) r hargs hl
            rw [e1]
            simpa using this
          case len =>
            refine hcall (Builtin.len_ c.argTypes o.type (c.args.map ρ)) (fun _ => rfl) ?_
            split at hl
            · rename_i t ts x xs ht
              obtain ⟨h1, rfl⟩ := keep_eq hl
              cases hxs : c.args.toList.map ρ with
              | nil => rw [hxs] at hargs; cases hargs
              | cons x' xs' =>
                rw [hxs] at hargs
                cases hargs with
                | cons hx hxs' =>
                  have := aLenB_sound (P := P) (id := id) (nx := nx) (ty := o.type) (rest := ts) (rest' := xs') r hx h1
                  rw [e1, hxs]
                  have e2 : c.argTypes = (t :: ts).toArray := Array.ext' (by simpa using ht)
                  rw [e2]
                  exact this
            · cases hl
          case clear =>
            refine hcall (Builtin.clear_ c.argTypes o.type (c.args.map ρ)) (fun _ => rfl) ?_
            split at hl
            · rename_i t ts x xs ht
              cases hxs : c.args.toList.map ρ with
              | nil => rw [hxs] at hargs; cases hargs
              | cons x' xs' =>
                rw [hxs] at hargs
                cases hargs with
                | cons hx hxs' =>
                  have := aClear_sound (P := P) (id := id) (nx := nx) (ty := o.type) (rest := ts) (rest' := xs') r hx hl
                  rw [e1, hxs]
                  have e2 : c.argTypes = (t :: ts).toArray := Array.ext' (by simpa using ht)
                  rw [e2]
                  exact this
            · cases hl
          case delete =>
            refine hcall (Builtin.delete_ c.argTypes o.type (c.args.map ρ)) (fun _ => rfl) ?_
            split at hl
            · rename_i t ts x k ht
              cases hxs : c.args.toList.map ρ with
              | nil => rw [hxs] at hargs; cases hargs
              | cons x' xs' =>
                rw [hxs] at hargs
                cases hargs with
                | cons hx hxs' =>
                  cases hxs' with
                  | cons hk hn =>
                    cases hn
                    have := aDelete_sound (P := P) (id := id) (nx := nx) (ty := o.type) (rest := ts) r hx hk hl
                    rw [e1, hxs]
                    have e2 : c.argTypes = (t :: ts).toArray := Array.ext' (by simpa using ht)
                    rw [e2]
                    exact this
            · cases hl
          case min =>
            refine hcall (Builtin.min_ c.argTypes o.type (c.args.map ρ)) (fun _ => rfl) ?_
            split at hl
            · rename_i hd
              obtain ⟨h1, rfl⟩ := keep_eq hl
              rw [e1, VRs.eq_of_dats hargs hd]
              exact aPure_sound r h1
            · cases hl
          case max =>
            refine hcall (Builtin.max_ c.argTypes o.type (c.args.map ρ)) (fun _ => rfl) ?_
            split at hl
            · rename_i hd
              obtain ⟨h1, rfl⟩ := keep_eq hl
              rw [e1, VRs.eq_of_dats hargs hd]
              exact aPure_sound r h1
            · cases hl
        · cases hl
      · cases hl
    · cases hl
  | _ => rw [hop] at hl; simp only [aop] at hl; cases hl
end
end Go.Ge
