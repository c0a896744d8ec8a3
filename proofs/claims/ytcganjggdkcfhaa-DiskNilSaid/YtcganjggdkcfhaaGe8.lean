/-
  Evaluation of closed calls: len, copy, maps.
-/
import Derived.Test.YtcganjggdkcfhaaGe7
set_option linter.unusedVariables false
set_option linter.unusedSimpArgs false
namespace Go.Ge

section
variable {P : Program} {μ : Mu} {h : Heap} {w : World} {id nx : Nat}

def ap (a : Addr) : Option Addr := some a
def aCopy (P : Program) (h : Heap) (ats : List TypeId) (args : List Value) : Option (Value × Heap) :=
  match ats, args with
  | dt :: _, [d, x] =>
    match P.underlying dt with
    | some (.slice e) =>
      match P.info? e, aLen x, d with
      | some ie, some m, .slice none dl _ => (match aCells h ie.size (Nat.min m dl) x with | some _ => some (goInt (Nat.min m dl), h) | none => none)
      | some ie, some m, .slice (some ⟨b, o, sp⟩) dl cap =>
        match aCells h ie.size (Nat.min m dl) x with
        | some new =>
          if new = [] ∧ Nat.min m dl * ie.size = 0 then some (goInt (Nat.min m dl), h) else
          match h.get b with
          | some (.cells c e' g) => if (sp = none ∨ cap = 0) ∧ o + new.length ≤ c.length ∧ new.all one = true then some (goInt (Nat.min m dl), h.set b (some (.cells (splice c o new) e' g))) else none
          | _ => none
        | none => none
      | _, _, _ => none
    | _ => none
  | _, _ => none
theorem aCopy_sound (r : Rel μ h w) {ats : List TypeId} {args args' : List Value} {v : Value} {ty : TypeId} {h' : Heap}
    (ha : VRs μ args args') (hl : aCopy P h ats args = some (v, h')) : Does P (Builtin.copy_ ats.toArray ty args'.toArray) id nx μ h w v h' := by
  unfold aCopy at hl
  split at hl
  · rename_i dt rest d x
    cases ha with | cons hd ha => cases ha with | cons hx ha => cases ha with | nil =>
    rename_i d' x'
    split at hl
    · rename_i e hu
      split at hl
      · rename_i ie m dl dc hie hm
        cases hd.eq_of_dat rfl
        have hlen := aLen_run (P := P) hx hm w
        split at hl
        · rename_i cs hc
          cases hl
          obtain ⟨cs', h1, h2⟩ := aCells_run (P := P) r hx hc
          refine Does.still r ?_ (.dat rfl) (v' := goInt (Nat.min m dl))
          simp [Builtin.copy_, run_underlying hu, hlen, sizeOf, typeInfo, hie, h1]
        · cases hl
      · rename_i ie m b o sp dl cap hie hm
        have hlen := aLen_run (P := P) hx hm w
        split at hl
        · rename_i new hc
          obtain ⟨new', h1, h2⟩ := aCells_run (P := P) r hx hc
          split at hl
          · rename_i hn
            cases hl
            obtain ⟨rfl, _⟩ := hn
            cases h2
            refine Does.still r ?_ (.dat rfl) (v' := goInt (Nat.min m dl))
            cases hd with
            | dat hd => simp [dat] at hd
            | sliceE =>
              have h1' : (Builtin.firstCells ie.size 0 x').run P w = .ok #[] w := by simpa using h1
              simp [Builtin.copy_, run_underlying hu, hlen, sizeOf, typeInfo, hie, h1', storeCells]
            | _ => simp [Builtin.copy_, run_underlying hu, hlen, sizeOf, typeInfo, hie, h1, storeCells]
          · split at hl
            · rename_i c e' g hb
              split at hl
              · rename_i hn
                cases hl
                have main : ∀ (p : Place) (cap' : Nat), μ b = some p → Does P (Builtin.copy_ (dt :: rest).toArray ty ([.slice (some ⟨p.blk, o + p.disp, none⟩) dl cap', x'] : List Value).toArray) id nx μ h w (goInt (Nat.min m dl)) (h.set b (some (.cells (splice c o new) e' g))) := by
                  intro p cap' hp
                  obtain ⟨μ', w', k1, k2, k3⟩ := storeCells_sound (P := P) (id := id) (nx := nx) r hb hp h2 hn.2.1 hn.2.2
                  refine ⟨μ', goInt (Nat.min m dl), w', ?_, .dat rfl, k2, k3⟩
                  simp [Builtin.copy_, run_underlying hu, hlen, sizeOf, typeInfo, hie, h1, k1]
                cases hd with
                | dat hd => simp [dat] at hd
                | slice hp => exact main _ _ hp
                | sliceG hp => exact main _ _ hp
                | sliceE => simp at hn
              · cases hl
            · cases hl
        · cases hl
      · cases hl
    · cases hl
  · cases hl

def aLenB (P : Program) (h : Heap) (t : TypeId) (x : Value) : Option Value :=
  match P.underlying t, x with
  | some .string, .string s => some (goInt s.size)
  | some (.array n _), _ => some (goInt n)
  | some (.slice _), .slice _ n _ => some (goInt n)
  | some (.map _ _), .map none => some (goInt 0)
  | some (.map _ _), .map (some r) => match h.get r with
    | some (.map es _) => some (goInt es.length)
    | _ => none
  | _, _ => none
theorem ESR.length : ∀ {xs ys : List MapEntry}, ESR μ xs ys → xs.length = ys.length
  | _, _, .nil => rfl
  | _, _, .cons _ _ c => by simp [ESR.length c]
theorem getObj_map (r : Rel μ h w) {b : Nat} {es : List MapEntry} {clock : Nat} {p : Place} (hb : h.get b = some (.map es clock)) (hp : μ b = some p) :
    ∃ es', w.heap[p.blk]? = some (.map ⟨es'⟩ clock) ∧ ESR μ es es' := by
  obtain ⟨q, hq, ho⟩ := r.live b _ hb
  rw [hp] at hq
  cases hq
  exact ho
theorem run_getObj_map {b clock : Nat} {es : Array MapEntry} (hb : w.heap[b]? = some (.map es clock)) : (getObj b).run P w = .ok (.map es clock) w := by
  simp [getObj, Sem.run, hb]
theorem aLenB_sound (r : Rel μ h w) {t : TypeId} {x x' v : Value} {ty : TypeId} {rest : List TypeId} {rest' : List Value} (hx : VR μ x x') (hl : aLenB P h t x = some v) :
    Does P (Builtin.len_ (t :: rest).toArray ty (x' :: rest').toArray) id nx μ h w v h := by
  unfold aLenB at hl
  split at hl
  · rename_i s hu
    cases hx.eq_of_dat rfl
    cases hl
    refine Does.still r ?_ (.dat rfl) (v' := goInt s.size)
    simp [Builtin.len_, run_underlying hu]
  · rename_i n e hu
    cases hl
    refine Does.still r ?_ (.dat rfl) (v' := goInt n)
    simp [Builtin.len_, run_underlying hu]
  · rename_i e a n c hu
    cases hl
    refine Does.still r ?_ (.dat rfl) (v' := goInt n)
    cases hx <;> simp [Builtin.len_, run_underlying hu]
  · rename_i k e hu
    cases hx.eq_of_dat rfl
    cases hl
    refine Does.still r ?_ (.dat rfl) (v' := goInt 0)
    simp [Builtin.len_, run_underlying hu]
  · rename_i k e b hu
    split at hl
    · rename_i es clock hb
      cases hl
      cases hx with
      | dat hd => simp [dat] at hd
      | map hp =>
        obtain ⟨es', h1, h2⟩ := getObj_map r hb hp
        refine Does.still r ?_ (.dat rfl) (v' := goInt es.length)
        simp [Builtin.len_, run_underlying hu, run_getObj_map h1, h2.length]
    · cases hl
  · cases hl

/-! ### maps -/
def aMakeMap (P : Program) (id : Nat) (h : Heap) (t : TypeId) (hint : Option Value) : Option (Value × Heap) :=
  match hint with
  | none => some (.map (some id), h.set id (some (.map [] 0)))
  | some (.int _ _) => match P.underlying t with
    | some (.map _ _) => some (.map (some id), h.set id (some (.map [] 0)))
    | _ => none
  | _ => none
theorem aMakeMap_sound (r : Rel μ h w) {t : TypeId} {hint hint' : Option Value} {v : Value} {h' : Heap} (hlt : id < 65536) (hb : μ id = none) (hh : h.get id = none) (hr : OR μ hint hint') (hl : aMakeMap P id h t hint = some (v, h')) :
    Does P (Instr.makeMap t hint') id nx μ h w v h' := by
  have main : Does P (Instr.makeMap t none) id nx μ h w (.map (some id)) (h.set id (some (.map [] 0))) := by
    obtain ⟨h1, h2⟩ := make r (o := .map [] 0) (ob := .map #[] 0) nx 0 hlt hb hh ⟨[], rfl, .nil⟩
    exact ⟨_, .map (some w.heap.size), _, by simp [Instr.makeMap], .map (Mu.put_self _ _ _), h1, h2⟩
  unfold aMakeMap at hl
  split at hl
  · cases hl
    cases hr
    exact main
  · rename_i k n
    split at hl
    · rename_i kt et hu
      cases hl
      cases hr with
      | some hv =>
        cases hv.eq_of_dat rfl
        obtain ⟨μ', v', w', a, b⟩ := main
        refine ⟨μ', v', w', ?_, b⟩
        simp [Instr.makeMap] at a
        simp [Instr.makeMap, run_underlying hu, asInt, asIntOf, a]
    · cases hl
  · cases hl

def plainKind : TypeDesc → Bool
  | .int _ | .string | .bool => true
  | _ => false
def aFindNow (kd : TypeDesc) (k : Value) : List MapEntry → Nat → Option (Option (Nat × Value))
  | [], _ => some none
  | e :: es, i => if dat e.key = true then (match Instr.sameNow kd k e.key with
    | some true => some (some (i, e.val))
    | some false => aFindNow kd k es (i + 1)
    | none => none) else none
def aFindAsk (P : Program) (kt : TypeId) (k : Value) : List MapEntry → Nat → Option (Option (Nat × Value))
  | [], _ => some none
  | e :: es, i => if closed e.key = true then (match pev P (Op.equal kt k e.key) with
    | some true => some (some (i, e.val))
    | some false => aFindAsk P kt k es (i + 1)
    | none => none) else none
def aFind (P : Program) (kt : TypeId) (k : Value) (es : List MapEntry) : Option (Option (Nat × Value)) :=
  match P.underlying kt with
  | some kd => if plainKind kd = true then aFindNow kd k es 0 else aFindAsk P kt k es 0
  | none => none
/-- what is found in both -/
inductive FR (μ : Mu) : Option (Nat × Value) → Option (Nat × Value) → Prop
  | none : FR μ none none
  | some {i : Nat} {v v' : Value} : VR μ v v' → FR μ (some (i, v)) (some (i, v'))
theorem findNow_rel {kd : TypeDesc} {k : Value} : ∀ {es es' : List MapEntry}, ESR μ es es' → ∀ (i : Nat) {r : Option (Nat × Value)}, aFindNow kd k es i = some r → ∃ r', Instr.findNow kd k es' i = some r' ∧ FR μ r r'
  | _, _, .nil, i, r, hl => by simp only [aFindNow] at hl; cases hl; exact ⟨none, rfl, .none⟩
  | _, _, .cons (k := k₀) hk hv hs, i, r, hl => by
    simp only [aFindNow] at hl
    split at hl
    · rename_i hd
      cases hk.eq_of_dat hd
      simp only [Instr.findNow]
      cases hsn : Instr.sameNow kd k k₀ with
      | none => rw [hsn] at hl; cases hl
      | some b =>
        rw [hsn] at hl
        cases b with
        | true => cases hl; exact ⟨_, rfl, .some hv⟩
        | false => exact findNow_rel hs (i + 1) hl
    · cases hl
theorem findAsk_rel {kt : TypeId} {k : Value} : ∀ {es es' : List MapEntry}, ESR μ es es' → ∀ (i : Nat) {r : Option (Nat × Value)}, aFindAsk P kt k es i = some r → ∃ r', (∀ w, (Instr.findAsking kt k es' i).run P w = .ok r' w) ∧ FR μ r r'
  | _, _, .nil, i, r, hl => by simp only [aFindAsk] at hl; cases hl; exact ⟨none, fun w => rfl, .none⟩
  | _, _, .cons (k := k₀) hk hv hs, i, r, hl => by
    simp only [aFindAsk] at hl
    split at hl
    · rename_i hd
      cases hk.eq_of_closed hd
      cases hsn : pev P (Op.equal kt k k₀) with
      | none => rw [hsn] at hl; cases hl
      | some b =>
        rw [hsn] at hl
        have hrun := pev_run _ _ hsn
        cases b with
        | true => cases hl; exact ⟨_, fun w => by simp [Instr.findAsking, hrun], .some hv⟩
        | false =>
          obtain ⟨r', h1, h2⟩ := findAsk_rel hs (i + 1) hl
          exact ⟨r', fun w => by simp [Instr.findAsking, hrun, h1], h2⟩
    · cases hl
theorem sameNow_none {kd : TypeDesc} (hk : plainKind kd = false) (a b : Value) : Instr.sameNow kd a b = none := by
  cases kd <;> first | rfl | (simp [plainKind] at hk)
theorem find_rel {kt : TypeId} {k : Value} {es es' : List MapEntry} {r : Option (Nat × Value)} (he : ESR μ es es') (hl : aFind P kt k es = some r) : ∃ r', (∀ w, (Instr.findKey kt k es').run P w = .ok r' w) ∧ FR μ r r' := by
  unfold aFind at hl
  split at hl
  · rename_i kd hu
    split at hl
    · obtain ⟨r', h1, h2⟩ := findNow_rel he 0 hl
      exact ⟨r', fun w => by simp [Instr.findKey, run_underlying hu, h1], h2⟩
    · rename_i hk
      have hk : plainKind kd = false := by simpa using hk
      obtain ⟨r', h1, h2⟩ := findAsk_rel he 0 hl
      refine ⟨r', fun w => ?_, h2⟩
      cases es' with
      | nil => 
        have := h1 w
        simp [Instr.findAsking] at this
        simp [Instr.findKey, run_underlying hu, Instr.findNow, this]
      | cons e es' => simp [Instr.findKey, run_underlying hu, Instr.findNow, sameNow_none hk, h1]
  · cases hl

def aMapOf (h : Heap) (x : Value) : Option (List MapEntry) :=
  match x with
  | .map none => some []
  | .map (some b) => match h.get b with
    | some (.map es _) => some es
    | _ => none
  | _ => none
theorem aMapOf_cases (r : Rel μ h w) {x x' : Value} {es : List MapEntry} (hx : VR μ x x') (hl : aMapOf h x = some es) :
    (x' = .map none ∧ es = []) ∨ ∃ (b clock : Nat) (es' : List MapEntry), x' = .map (some b) ∧ w.heap[b]? = some (.map ⟨es'⟩ clock) ∧ ESR μ es es' := by
  unfold aMapOf at hl
  split at hl
  · cases hl
    cases hx.eq_of_dat rfl
    exact .inl ⟨rfl, rfl⟩
  · split at hl
    · rename_i hb
      cases hl
      cases hx with
      | dat hd => simp [dat] at hd
      | map hp =>
        obtain ⟨es', h1, h2⟩ := getObj_map r hb hp
        exact .inr ⟨_, _, es', rfl, h1, h2⟩
    · cases hl
  · cases hl
def aLookup (P : Program) (h : Heap) (t : TypeId) (x k : Value) (ok : Bool) : Option Value :=
  match P.underlying t with
  | some (.map kt et) =>
    if closed k = true then
      match aMapOf h x with
      | some es =>
        match pev P (Instr.checkKey es.isEmpty 10000 kt k), aFind P kt k es with
        | some (), some (some (_, v)) => some (if ok then .tuple ⟨[v, .bool true]⟩ else v)
        | some (), some none => match aZero P et with
          | some z => if closed z = true then some (if ok then .tuple ⟨[z, .bool false]⟩ else z) else none
          | none => none
        | _, _ => none
      | none => none
    else none
  | _ => none
theorem aLookup_sound (r : Rel μ h w) {t : TypeId} {x x' k k' v : Value} {ok : Bool} (hx : VR μ x x') (hk : VR μ k k') (hl : aLookup P h t x k ok = some v) : Does P (Instr.lookup t x' k' ok) id nx μ h w v h := by
  unfold aLookup at hl
  split at hl
  · rename_i kt et hu
    split at hl
    · rename_i hc
      cases hk.eq_of_closed hc
      split at hl
      · rename_i es hes
        split at hl
        · rename_i i u hck hf
          cases hl
          have hck' := pev_run _ _ hck w
          rcases aMapOf_cases r hx hes with ⟨rfl, rfl⟩ | ⟨b, clock, es', rfl, h1, he⟩
          · simp [aFind, aFindNow, aFindAsk] at hf
            split at hf
            · cases hf
            · cases hf
          · obtain ⟨r', hr1, hr2⟩ := find_rel he hf
            cases hr2 with
            | some hv =>
              rename_i v'
              refine Does.still r (v' := if ok then .tuple ⟨[v', .bool true]⟩ else v') ?_ (by cases ok; exact hv; exact .tuple (.cons hv (.cons (.dat rfl) .nil)))
              have hemp : (⟨es'⟩ : Array MapEntry).isEmpty = es.isEmpty := by
                have := he.length
                cases es <;> cases es' <;> simp_all
              simp [Instr.lookup, run_underlying hu, run_getObj_map h1, hemp, hck', hr1]
        · rename_i hck hf
          have hck' := pev_run _ _ hck w
          split at hl
          · rename_i z hz
            split at hl
            · rename_i hcz
              cases hl
              refine Does.still r (v' := if ok then .tuple ⟨[z, .bool false]⟩ else z) ?_ (by cases ok; exact VR.of_closed hcz; exact .tuple (.cons (VR.of_closed hcz) (.cons (.dat rfl) .nil)))
              rcases aMapOf_cases r hx hes with ⟨rfl, rfl⟩ | ⟨b, clock, es', rfl, h1, he⟩
              · obtain ⟨r', hr1, hr2⟩ := find_rel (P := P) (.nil (μ := μ)) hf
                cases hr2 with
                | none =>
                  simp at hck'
                  simp [Instr.lookup, run_underlying hu, hck', hr1, aZero_run hz]
              · obtain ⟨r', hr1, hr2⟩ := find_rel he hf
                cases hr2 with
                | none =>
                  have hemp : (⟨es'⟩ : Array MapEntry).isEmpty = es.isEmpty := by
                    have := he.length
                    cases es <;> cases es' <;> simp_all
                  simp [Instr.lookup, run_underlying hu, run_getObj_map h1, hemp, hck', hr1, aZero_run hz]
            · cases hl
          · cases hl
        · cases hl
      · cases hl
    · cases hl
  · cases hl
end
end Go.Ge
