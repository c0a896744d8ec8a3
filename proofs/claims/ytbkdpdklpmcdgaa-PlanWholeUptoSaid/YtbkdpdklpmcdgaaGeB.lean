/-
  Evaluation of closed calls, part B.
-/
import Derived.Test.YtbkdpdklpmcdgaaGeA
import Derived.Laws.IdiomStrings
import Derived.RangeFuncLeaves
set_option linter.unusedVariables false
set_option linter.unusedSimpArgs false
/-
  Evaluation of closed calls: one operation.
-/
namespace Go.Ge

section
variable {P : Program} {μ : Mu} {h : Heap} {w : World} {id nx : Nat}

/-- what an operation that runs no code does -/
def DoesOp (P : Program) (s : Sem Next) (id nx : Nat) (μ : Mu) (h : Heap) (w : World) (v : Value) (h' : Heap) : Prop :=
  ∃ μ' v' w', (s.run P w = .ok (.value v') w' ∨ (s.run P w = .ok .skip w' ∧ v' = undef)) ∧ VR μ' v v' ∧ Rel μ' h' w' ∧ Goes id nx μ h w μ' h' w'
theorem Does.op {s : Sem Value} {v : Value} {h' : Heap} (hs : Does P s id nx μ h w v h') : DoesOp P (do pure (.value (← s))) id nx μ h w v h' := by
  obtain ⟨μ', v', w', h1, h2⟩ := hs
  exact ⟨μ', v', w', .inl (by simp [h1]), h2⟩
theorem undefVR : VR μ undef undef := .tuple .nil
theorem DoesU.op {s : Sem Unit} {h' : Heap} (hs : DoesU P s id nx μ h w h') : DoesOp P (do s; pure .skip) id nx μ h w undef h' := by
  obtain ⟨μ', w', h1, h2, h3⟩ := hs
  exact ⟨μ', undef, w', .inr ⟨by simp [h1], rfl⟩, undefVR, h2, h3⟩

/-- operands are what they are -/
def EvR (μ : Mu) (ev : Operand → Option Value) (ρ : Operand → Value) : Prop := ∀ x v, ev x = some v → VR μ v (ρ x)
def evL (ev : Operand → Option Value) : List Operand → Option (List Value)
  | [] => some []
  | x :: xs => match ev x with
    | some v => match evL ev xs with
      | some vs => some (v :: vs)
      | none => none
    | none => none
theorem evL_rel {ev : Operand → Option Value} {ρ : Operand → Value} (he : EvR μ ev ρ) : ∀ (xs : List Operand) (vs : List Value), evL ev xs = some vs → VRs μ vs (xs.map ρ)
  | [], vs, hl => by simp only [evL] at hl; cases hl; exact .nil
  | x :: xs, vs, hl => by
    simp only [evL] at hl
    split at hl
    · rename_i v hv
      split at hl
      · rename_i vs' hvs; cases hl; exact .cons (he _ _ hv) (evL_rel he xs vs' hvs)
      · cases hl
    · cases hl
def evP (ev : Operand → Option Value) : List (Nat × Operand) → Option (List (Nat × Value))
  | [] => some []
  | (i, x) :: xs => match ev x with
    | some v => match evP ev xs with
      | some vs => some ((i, v) :: vs)
      | none => none
    | none => none
theorem evP_rel {ev : Operand → Option Value} {ρ : Operand → Value} (he : EvR μ ev ρ) : ∀ (xs : List (Nat × Operand)) (vs : List (Nat × Value)), evP ev xs = some vs → PSR μ vs (xs.map fun (i, x) => (i, ρ x))
  | [], vs, hl => by simp only [evP] at hl; cases hl; exact .nil
  | (i, x) :: xs, vs, hl => by
    simp only [evP] at hl
    split at hl
    · rename_i v hv
      split at hl
      · rename_i vs' hvs; cases hl; exact .cons (he _ _ hv) (evP_rel he xs vs' hvs)
      · cases hl
    · cases hl
def evO (ev : Operand → Option Value) : Option Operand → Option (Option Value)
  | none => some none
  | some x => match ev x with
    | some v => some (some v)
    | none => none
theorem evO_rel {ev : Operand → Option Value} {ρ : Operand → Value} (he : EvR μ ev ρ) {x : Option Operand} {v : Option Value} (hl : evO ev x = some v) : OR μ v (x.map ρ) := by
  cases x with
  | none => simp only [evO] at hl; cases hl; exact .none
  | some x =>
    simp only [evO] at hl
    split at hl
    · rename_i v hv; cases hl; exact .some (he _ _ hv)
    · cases hl

/-- two values of which one is nil, or that are of unlike types -/
def aEq (P : Program) (t : TypeId) (a b : Value) : Option Bool :=
  match P.underlying t, a, b with
  | some (.pointer _), .pointer (some _), .pointer none => some false
  | some (.pointer _), .pointer none, .pointer (some _) => some false
  | some (.interface _), .iface _ _, .nilIface => some false
  | some (.interface _), .nilIface, .iface _ _ => some false
  | some (.interface _), .iface t _, .iface u _ => if t = u then none else some false
  | some (.slice _), .slice (some _) _ _, .slice none _ _ => some false
  | some (.slice _), .slice none _ _, .slice (some _) _ _ => some false
  | some (.map _ _), .map (some _), .map none => some false
  | some (.map _ _), .map none, .map (some _) => some false
  | some (.func _ _ _), .func _ _ _, .nilFunc => some false
  | some (.func _ _ _), .nilFunc, .func _ _ _ => some false
  | some (.pointer e), .pointer (some ⟨b, o, none⟩), .pointer (some ⟨b', o', none⟩) => match P.info? e with
    | some ie => if b = b' ∧ ie.size ≠ 0 then some (o == o') else none
    | none => none
  | _, _, _ => none
theorem run_eq_unfold {t : TypeId} {d : TypeDesc} {a b : Value} {x : Result Bool} (hu : P.underlying t = some d) (hx : (Op.equalIn (9999 + 1) t a b).run P w = x) : (Op.equal t a b).run P w = x := hx
theorem aEq_sound (r : Rel μ h w) {t : TypeId} {a a' b b' : Value} {q : Bool} (ha : VR μ a a') (hb : VR μ b b') (hl : aEq P t a b = some q) : (Op.equal t a' b').run P w = .ok q w := by
  unfold aEq at hl
  split at hl
  all_goals first
    | cases hl; done
    | skip
  all_goals rename_i hu
  all_goals refine run_eq_unfold hu ?_
  · cases hl; cases hb.eq_of_dat rfl; cases ha with
    | dat hd => simp [dat] at hd
    | ptr hp => rw [Op.equalIn]; simp [run_underlying hu]
  · cases hl; cases ha.eq_of_dat rfl; cases hb with
    | dat hd => simp [dat] at hd
    | ptr hp => rw [Op.equalIn]; simp [run_underlying hu]
  · cases hl; cases hb.eq_of_dat rfl; cases ha with
    | dat hd => simp [dat] at hd
    | iface hp => rw [Op.equalIn]; simp [run_underlying hu]
  · cases hl; cases ha.eq_of_dat rfl; cases hb with
    | dat hd => simp [dat] at hd
    | iface hp => rw [Op.equalIn]; simp [run_underlying hu]
  · split at hl
    · cases hl
    · rename_i hne
      cases hl
      cases ha with
      | dat hd => simp [dat] at hd
      | iface hp => cases hb with
        | dat hd => simp [dat] at hd
        | iface hq => rw [Op.equalIn]; simp [run_underlying hu, hne]
  · cases hl; cases hb.eq_of_dat rfl; cases ha <;> first | (rename_i hd; simp [dat] at hd; done) | (rw [Op.equalIn]; simp [run_underlying hu]; done)
  · cases hl; cases ha.eq_of_dat rfl; cases hb <;> first | (rename_i hd; simp [dat] at hd; done) | (rw [Op.equalIn]; simp [run_underlying hu]; done)
  · cases hl; cases hb.eq_of_dat rfl; cases ha with
    | dat hd => simp [dat] at hd
    | map hp => rw [Op.equalIn]; simp [run_underlying hu]
  · cases hl; cases ha.eq_of_dat rfl; cases hb with
    | dat hd => simp [dat] at hd
    | map hp => rw [Op.equalIn]; simp [run_underlying hu]
  · cases hl; cases hb.eq_of_dat rfl; cases ha <;> first | (rename_i hd; simp [dat] at hd; done) | (rw [Op.equalIn]; simp [run_underlying hu]; done)
  · cases hl; cases ha.eq_of_dat rfl; cases hb <;> first | (rename_i hd; simp [dat] at hd; done) | (rw [Op.equalIn]; simp [run_underlying hu]; done)
  · rename_i b o b2 o2 hx
    split at hl
    · rename_i ie hie
      split at hl
      · rename_i hc
        obtain ⟨rfl, hs⟩ := hc
        cases hl
        cases ha with
        | dat hd => simp [dat] at hd
        | ptr hp => cases hb with
          | dat hd => simp [dat] at hd
          | ptr hq =>
            rw [hp] at hq
            cases hq
            rw [Op.equalIn]; simp [run_underlying hu, sizeOf, typeInfo, hie, hs, sameAddr]
            rw [Bool.eq_iff_iff, beq_iff_eq, beq_iff_eq, Addr.mk.injEq]
            constructor
            · rintro ⟨_, he, _⟩
              omega
            · rintro rfl
              exact ⟨rfl, rfl, rfl⟩
      · cases hl
    · cases hl
end
end Go.Ge

/-
  Evaluation of closed calls: entries, clear, delete, min, max.
-/
namespace Go.Ge

section
variable {P : Program} {μ : Mu} {h : Heap} {w : World} {id nx : Nat}

def aEntry (h : Heap) (it : Value) : Option Value :=
  match it with
  | .pointer (some ⟨b, 0, none⟩) =>
    match h.get b with
    | some (.iterM (some m) _ seen stepped) =>
      match seen.back?, h.get m with
      | some stamp, some (.map es clock) => if clock = stepped then
          (match es.find? (fun e => e.born == stamp) with
            | some e => some (.tuple ⟨[e.key, e.val]⟩)
            | none => none) else none
      | _, _ => none
    | _ => none
  | _ => none
theorem find_ESR {p : Nat → Bool} : ∀ {es es' : List MapEntry}, ESR μ es es' → ∀ e, es.find? (fun e => p e.born) = some e → ∃ e', es'.find? (fun e => p e.born) = some e' ∧ VR μ e.key e'.key ∧ VR μ e.val e'.val
  | _, _, .nil, e, h => by simp at h
  | _, _, .cons (n := n) a b c, e, h => by
    simp only [List.find?_cons] at h ⊢
    cases hp : p n with
    | true => simp only [hp] at h ⊢; cases h; exact ⟨_, rfl, a, b⟩
    | false => simp only [hp] at h ⊢; exact find_ESR c e h
theorem aEntry_sound (r : Rel μ h w) {it it' v : Value} (hx : VR μ it it') (hl : aEntry h it = some v) : Does P (Instr.entry it') id nx μ h w v h := by
  unfold aEntry at hl
  split at hl
  · rename_i b
    cases hx with
    | dat hd => simp [dat] at hd
    | ptr hp =>
      rename_i p
      split at hl
      · rename_i m since seen stepped hb
        split at hl
        · rename_i stamp es clock hst hm
          split at hl
          · rename_i hcl
            split at hl
            · rename_i e he
              cases hl
              obtain ⟨q, hq, hd, m', ho, q2, hm1, hm2⟩ : ∃ q, μ b = some q ∧ q.disp = 0 ∧ ∃ m', w.heap[q.blk]? = some (.mapIter m' since seen stepped) ∧ ∃ q2, μ m = some q2 ∧ m' = some q2.blk := r.live b _ hb
              rw [hp] at hq
              cases hq
              subst hm2
              have hg : (getObj p.blk).run P w = .ok (.mapIter (some q2.blk) since seen stepped) w := by simp [getObj, Sem.run, ho]
              obtain ⟨es', h1, hes⟩ := getObj_map r hm hm1
              have hgm := run_getObj_map (P := P) h1
              obtain ⟨e', k1, k2, k3⟩ := find_ESR (p := fun n => n == stamp) hes e he
              refine Does.still r (v' := .tuple ⟨[e'.key, e'.val]⟩) ?_ (.tuple (.cons k2 (.cons k3 .nil)))
              have hfa : (⟨es'⟩ : Array MapEntry).find? (fun e => e.born == stamp) = some e' := by simpa using k1
              have hne : (clock != stepped) = false := by simpa using hcl
              unfold Instr.entry
              simp only [hd, Nat.zero_add, Sem.run_bind, hg, Result.andThen_ok, hst, hgm, hne, hfa]
              simp
            · cases hl
          · cases hl
        · cases hl
      · cases hl
  · cases hl

def aClear (P : Program) (h : Heap) (t : TypeId) (x : Value) : Option (Value × Heap) :=
  match P.underlying t, x with
  | some _, .map none => some (.tuple #[], h)
  | some _, .slice none _ _ => some (.tuple #[], h)
  | some _, .map (some b) => match h.get b with
    | some (.map _ clock) => some (.tuple #[], h.set b (some (.map [] clock)))
    | _ => none
  | _, _ => none
theorem aClear_sound (r : Rel μ h w) {t : TypeId} {x x' v : Value} {ty : TypeId} {rest : List TypeId} {rest' : List Value} {h' : Heap} (hx : VR μ x x') (hl : aClear P h t x = some (v, h')) :
    Does P (Builtin.clear_ (t :: rest).toArray ty (x' :: rest').toArray) id nx μ h w v h' := by
  unfold aClear at hl
  split at hl
  · rename_i d hu
    cases hx.eq_of_dat rfl
    cases hl
    refine Does.still r (v' := .tuple #[]) ?_ (.tuple .nil)
    cases d <;> simp [Builtin.clear_, run_underlying hu]
  · rename_i d n c hu
    cases hx.eq_of_dat rfl
    cases hl
    refine Does.still r (v' := .tuple #[]) ?_ (.tuple .nil)
    cases d <;> simp [Builtin.clear_, run_underlying hu]
  · rename_i d b hu
    split at hl
    · rename_i es clock hb
      cases hl
      cases hx with
      | dat hd => simp [dat] at hd
      | map hp =>
        obtain ⟨es', h1, he⟩ := getObj_map r hb hp
        obtain ⟨μ', w', a, b1, b2⟩ := setObj_sound (P := P) (id := id) (nx := nx) r (o' := .map [] clock) (ob := .map #[] clock) hb hp h1 (fun _ _ _ => by simp) ⟨[], rfl, .nil⟩
        refine ⟨μ', .tuple #[], w', ?_, .tuple .nil, b1, b2⟩
        cases d <;> simp [Builtin.clear_, run_underlying hu, run_getObj_map h1, a]
    · cases hl
  · cases hl

theorem min_any (ats : Array TypeId) (t u : TypeId) (args : Array Value) : Builtin.min_ ats t args = Builtin.min_ #[] 0 args := rfl
theorem max_any (ats : Array TypeId) (t u : TypeId) (args : Array Value) : Builtin.max_ ats t args = Builtin.max_ #[] 0 args := rfl
end
end Go.Ge

/-
  Evaluation of closed calls: bytes of texts and texts of bytes, a map's entry is deleted.
-/
namespace Go.Ge

section
variable {P : Program} {μ : Mu} {h : Heap} {w : World} {id nx : Nat}

theorem ESR.eraseIdx : ∀ {xs ys : List MapEntry}, ESR μ xs ys → ∀ (i : Nat), ESR μ (xs.eraseIdx i) (ys.eraseIdx i)
  | _, _, .nil, _ => .nil
  | _, _, .cons a b c, 0 => c
  | _, _, .cons a b c, i + 1 => .cons a b (ESR.eraseIdx c i)

def aDelete (P : Program) (h : Heap) (t : TypeId) (x k : Value) : Option (Value × Heap) :=
  match P.underlying t, x with
  | some (.map kt _), .map none => if closed k = true then (match pev P (Instr.checkKey true 10000 kt k) with
    | some () => some (.tuple #[], h)
    | none => none) else none
  | some (.map kt _), .map (some b) => match h.get b with
    | some (.map es clock) => if closed k = true then
        match pev P (Instr.checkKey es.isEmpty 10000 kt k), aFind P kt k es with
        | some (), some (some (i, _)) => some (.tuple #[], h.set b (some (.map (es.eraseIdx i) clock)))
        | some (), some none => some (.tuple #[], h.set b (some (.map es clock)))
        | _, _ => none
      else none
    | _ => none
  | _, _ => none
theorem arr_eraseIdx (es : List MapEntry) (i : Nat) : (⟨es⟩ : Array MapEntry).eraseIdxIfInBounds i = ⟨es.eraseIdx i⟩ := by
  apply Array.ext'
  simp
theorem aDelete_sound (r : Rel μ h w) {t : TypeId} {x x' k k' v : Value} {ty : TypeId} {rest : List TypeId} {h' : Heap} (hx : VR μ x x') (hk : VR μ k k') (hl : aDelete P h t x k = some (v, h')) :
    Does P (Builtin.delete_ (t :: rest).toArray ty [x', k'].toArray) id nx μ h w v h' := by
  unfold aDelete at hl
  split at hl
  · rename_i kt et hu
    split at hl
    · rename_i hc
      split at hl
      · rename_i u hck
        cases hl
        cases hx.eq_of_dat rfl
        cases hk.eq_of_closed hc
        have hck' := pev_run _ _ hck w
        refine Does.still r (v' := .tuple #[]) ?_ (.tuple .nil)
        simp [Builtin.delete_, run_underlying hu, hck']
      · cases hl
    · cases hl
  · rename_i kt et b hu
    split at hl
    · rename_i es clock hb
      split at hl
      · rename_i hc
        cases hk.eq_of_closed hc
        cases hx with
        | dat hd => simp [dat] at hd
        | map hp =>
          rename_i p
          obtain ⟨es', h1, he⟩ := getObj_map r hb hp
          have hemp : (⟨es'⟩ : Array MapEntry).isEmpty = es.isEmpty := by
            have := he.length
            cases es <;> cases es' <;> simp_all
          split at hl
          · rename_i i u hck hf
            have hck' := pev_run _ _ hck w
            obtain ⟨r', hr1, hr2⟩ := find_rel he hf
            cases hl
            cases hr2 with
            | some hv' =>
              obtain ⟨μ', w', a, b1, b2⟩ := setObj_sound (P := P) (id := id) (nx := nx) r (o' := .map (es.eraseIdx i) clock) (ob := .map ⟨es'.eraseIdx i⟩ clock) hb hp h1 (fun _ _ _ => by simp) ⟨_, rfl, he.eraseIdx i⟩
              refine ⟨μ', .tuple #[], w', ?_, .tuple .nil, b1, b2⟩
              simp [Builtin.delete_, run_underlying hu, run_getObj_map h1, hemp, hck', hr1, arr_eraseIdx, a]
          · rename_i hck hf
            have hck' := pev_run _ _ hck w
            obtain ⟨r', hr1, hr2⟩ := find_rel he hf
            cases hl
            cases hr2 with
            | none =>
              obtain ⟨μ', w', a, b1, b2⟩ := setObj_sound (P := P) (id := id) (nx := nx) r (o' := .map es clock) (ob := .map ⟨es'⟩ clock) hb hp h1 (fun _ _ _ => by simp) ⟨_, rfl, he⟩
              refine ⟨μ', .tuple #[], w', ?_, .tuple .nil, b1, b2⟩
              simp [Builtin.delete_, run_underlying hu, run_getObj_map h1, hemp, hck', hr1, a]
          · cases hl
      · cases hl
    · cases hl
  · cases hl

/-! ### conversions -/
def bytesOf : List Value → Option (List Int)
  | [] => some []
  | .int .u8 n :: vs => match bytesOf vs with
    | some ns => some (n :: ns)
    | none => none
  | _ => none
theorem bytesOf_eq : ∀ {cs : List Value} {ns : List Int}, bytesOf cs = some ns → cs = ns.map (Value.int .u8)
  | [], ns, hl => by simp only [bytesOf] at hl; cases hl; rfl
  | v :: vs, ns, hl => by
    cases v <;> try (simp [bytesOf] at hl; done)
    rename_i k n
    cases k <;> simp only [bytesOf] at hl <;> try (cases hl; done)
    split at hl
    · rename_i ns' h1
      cases hl
      rw [bytesOf_eq h1]
      rfl
    · cases hl
theorem bytes_dat (ns : List Int) : (ns.map (Value.int .u8)).all dat = true := by
  rw [List.all_eq_true]
  intro x hx
  obtain ⟨n, _, rfl⟩ := List.mem_map.1 hx
  rfl
def textOf (ns : List Int) : ByteArray := ⟨(ns.map fun n => UInt8.ofNat n.toNat).toArray⟩
theorem textOf_fold : ∀ (ns : List Int) (r : ByteArray), ns.foldl (fun r n => r.push (UInt8.ofNat n.toNat)) r = ⟨r.data ++ (ns.map fun n => UInt8.ofNat n.toNat).toArray⟩
  | [], r => by simp
  | n :: ns, r => by
    simp only [List.foldl_cons]
    rw [textOf_fold ns]
    simp [ByteArray.push]

def isU8 (P : Program) (e : TypeId) : Bool := match P.underlying e with | some (.int .u8) => true | _ => false
theorem isU8_eq {e : TypeId} (hu : isU8 P e = true) : P.underlying e = some (.int .u8) := by
  unfold isU8 at hu
  split at hu
  · assumption
  · cases hu
def aConvert (P : Program) (id : Nat) (h : Heap) (s d : TypeId) (x : Value) : Option (Value × Heap) :=
  match P.underlying s, P.underlying d, x with
  | some (.slice e), some .string, .slice (some ⟨b, o, sp⟩) len cap => if isU8 P e = true then
      (if len = 0 then some (.string ⟨#[]⟩, h) else
      match h.get b with
      | some (.cells c _ _) => if (sp = none ∨ cap = 0) ∧ o + len ≤ c.length then (match bytesOf ((c.drop o).take len) with
        | some ns => some (.string (textOf ns), h)
        | none => none) else none
      | _ => none) else none
  | some (.slice _), some (.slice e), .slice (some ⟨b, o, sp⟩) len cap => if s = d ∧ isU8 P e = true ∧ (sp = none ∨ cap = 0) then
      (match h.get b with
      | some (.cells c t g) => some (x, h.set b (some (.cells c t g)))
      | _ => none) else none
  | some .string, some (.slice e), .string bs => if isU8 P e = true ∧ id < 65536 then
      some (.slice (some ⟨id, 0, some 0⟩) bs.size 0, h.set id (some (.cells (bs.data.map fun b => .int .u8 b.toNat).toList e (some 1)))) else none
  | some _, some _, _ => if closed x = true then (match aPure P (convert s d x) with | some v => some (v, h) | none => none) else none
  | _, _, _ => none

/-- a row's mark is set -/
theorem mark_sound (r : Rel μ h w) {b o : Nat} {c : List Value} {t : TypeId} {g : Option Nat} {p : Place} (hb : h.get b = some (.cells c t g)) (hp : μ b = some p) :
    DoesU P (markStringish ⟨p.blk, o, none⟩) id nx μ h w (h.set b (some (.cells c t g))) := by
  obtain ⟨c', fz, h1, hz, h2, h3⟩ := r.cells hb hp
  have hlt : p.blk < w.heap.size := (Array.getElem?_eq_some_iff.1 h1).1
  have hval : w.heap[p.blk] = .cells c' t fz := (Array.getElem?_eq_some_iff.1 h1).2
  have hnew : (w.freeze ⟨p.blk, c'.size, none⟩ 1).heap[p.blk]? = some (.cells c' t (c'.size, c'.size + 1)) := by
    unfold World.freeze
    rw [if_neg (by decide)]
    show (w.heap.modify p.blk _)[p.blk]? = _
    rw [Array.getElem?_eq_getElem (by simpa using hlt), Array.getElem_modify]
    simp only [if_true, hval]
    rcases hz with rfl | rfl
    · simp
    · simp
  obtain ⟨a, b'⟩ := write r (o' := .cells c t g) (w' := w.freeze ⟨p.blk, c'.size, none⟩ 1) id nx hb rfl hp (by unfold World.freeze; rw [if_neg (by decide)]; simp) (by
      rw [hnew]
      exact ⟨c', _, rfl, .inr rfl, h2, h3⟩) (fun k hk => by
      unfold World.freeze
      rw [if_neg (by decide)]
      show (w.heap.modify p.blk _)[k]? = _
      rw [Array.getElem?_modify, if_neg (fun e => hk e.symm)]) (by simp [World.freeze]) (by simp [World.freeze]) (by simp [World.freeze])
  refine ⟨μ, _, ?_, a, b'⟩
  have hsh : w.shape? p.blk = some (t, c'.size) := by simp [World.shape?, h1]
  simp [markStringish, hsh]

theorem aConvert_sound (r : Rel μ h w) {s d : TypeId} {x x' v : Value} {h' : Heap} (hid : μ id = none) (hh : h.get id = none) (hx : VR μ x x') (hl : aConvert P id h s d x = some (v, h')) : Does P (convert s d x') id nx μ h w v h' := by
  unfold aConvert at hl
  split at hl
  · rename_i e b o sp len cap hs hd
    split at hl
    · rename_i he
      have he := isU8_eq he
      have main : ∀ (a : Addr) (cap' : Nat) (ns : List Int), x' = .slice (some a) len cap' → (loadCells a len).run P w = .ok (ns.map (Value.int .u8)).toArray w → (convert s d x').run P w = .ok (.string (textOf ns)) w := by
        rintro a cap' ns rfl hload
        rw [run_convert_bytes_string w s d e (some a) len cap' hs he hd, run_bytesToString w a len cap' ns hload, textOf_fold]
        have he0 : ByteArray.empty.data = #[] := rfl
        rw [he0]
        simp [textOf]
      split at hl
      · rename_i hlen
        cases hl
        subst hlen
        have h0 : ∀ a : Addr, (loadCells a 0).run P w = .ok (([] : List Int).map (Value.int .u8)).toArray w := fun a => by simp [loadCells, loadCellsFrom]
        refine Does.still r (v' := .string ⟨#[]⟩) ?_ (.dat rfl)
        cases hx with
        | dat hd => simp [dat] at hd
        | slice hp => exact main _ _ [] rfl (h0 _)
        | sliceG hp => exact main _ _ [] rfl (h0 _)
        | sliceE => exact main _ _ [] rfl (h0 _)
      · rename_i hlen
        split at hl
        · rename_i c e' g hb
          split at hl
          · rename_i hn
            split at hl
            · rename_i ns hns
              cases hl
              have hcs := bytesOf_eq hns
              have load : ∀ (p : Place), μ b = some p → (loadCells ⟨p.blk, o + p.disp, none⟩ len).run P w = .ok (ns.map (Value.int .u8)).toArray w := by
                intro p hp
                obtain ⟨cs', hcl, hcr, hcc⟩ := r.span hb hp o len hn.2
                rw [hcs] at hcr
                have := hcr.eq_of_dats (bytes_dat ns)
                subst this
                have := run_loadCells_list (P := P) w ⟨p.blk, o + p.disp, none⟩ (ns.map (Value.int .u8)) hcc
                rw [hcl] at this
                exact this
              refine Does.still r (v' := .string (textOf ns)) ?_ (.dat rfl)
              cases hx with
              | dat hd => simp [dat] at hd
              | slice hp => exact main _ _ _ rfl (load _ hp)
              | sliceG hp => exact main _ _ _ rfl (load _ hp)
              | sliceE => simp at hlen
            · cases hl
          · cases hl
        · cases hl
    · cases hl
  · rename_i e1 e b o sp len cap hs hd
    split at hl
    · rename_i hc
      obtain ⟨rfl, he, hcap⟩ := hc
      have he := isU8_eq he
      split at hl
      · rename_i c t g hb
        cases hl
        have main : ∀ (p : Place) (cap' : Nat), μ b = some p → x' = .slice (some ⟨p.blk, o + p.disp, none⟩) len cap' → Does P (convert s s x') id nx μ h w (.slice (some ⟨b, o, sp⟩) len cap) (h.set b (some (.cells c t g))) := by
          intro p cap' hp hxe
          obtain ⟨μ', w', h1, h2, h3⟩ := mark_sound (P := P) (id := id) (nx := nx) (o := o + p.disp) r hb hp
          refine ⟨μ', x', w', ?_, hx.mono h3.le, h2, h3⟩
          subst hxe
          have : e1 = e := by rw [hs] at hd; cases hd; rfl
          subst this
          simp [convert, run_underlying hs, run_underlying he, h1]
        cases hx with
        | dat hd => simp [dat] at hd
        | slice hp => exact main _ _ hp rfl
        | sliceG hp => exact main _ _ hp rfl
        | sliceE => simp at hcap
      · cases hl
    · cases hl
  · rename_i e bs hs hd
    split at hl
    · rename_i hc
      have he := isU8_eq hc.1
      cases hl
      cases hx.eq_of_dat rfl
      have hge : bs.size ≤ grownCap w bs.size 0 e := grownCap_ge w bs.size 0 e
      have hlen : (bytesRow bs (grownCap w bs.size 0 e)).toList = (bs.data.map fun b => (Value.int .u8 b.toNat)).toList ++ List.replicate (grownCap w bs.size 0 e - bs.size) (.int .u8 0) := by
        simp only [bytesRow, Array.toList_append, Array.toList_replicate]
      have hdl : (bs.data.map fun b => (Value.int .u8 b.toNat)).toList.length = bs.size := by
        rw [Array.length_toList, Array.size_map]
        rfl
      have hrl : (bytesRow bs (grownCap w bs.size 0 e)).toList.length = grownCap w bs.size 0 e * 1 := by
        rw [hlen, List.length_append, hdl, List.length_replicate]
        omega
      have hsz : (bytesRow bs (grownCap w bs.size 0 e)).size = (bytesRow bs (grownCap w bs.size 0 e)).toList.length := by rw [Array.length_toList]
      obtain ⟨μ', p1, p2, p3⟩ := made_row (nx := nx) (r.drew (w.drawn + 1)) e (c := (bs.data.map fun b => (Value.int .u8 b.toNat)).toList) (c' := (bytesRow bs (grownCap w bs.size 0 e)).toList) (s := 1) (m := grownCap w bs.size 0 e) hc.2 hid hh hrl (by rw [hdl]; omega)
        (by
          rw [hlen, List.take_left]
          exact VRs.dats (dats_bytes _)) ((bytesRow bs (grownCap w bs.size 0 e)).size, (bytesRow bs (grownCap w bs.size 0 e)).size + 1) (.inr (by rw [hsz]))
      refine ⟨μ', _, _, run_bytes_of_string w s d e bs hs hd he, ?_, by simpa using p2, by simpa using (Goes.drew (Goes.refl _ _ _ _ _) _).trans p3⟩
      have := VR.sliceG (o := 0) (e := 0) (len := bs.size) p1
      simpa using this
    · cases hl
  · rename_i hs hd _ _ _
    split at hl
    · rename_i hc
      split at hl
      · rename_i v hv
        cases hl
        rw [hx.eq_of_closed hc]
        exact aPure_sound r hv
      · cases hl
    · cases hl
  · cases hl
end
end Go.Ge

/-
  Evaluation of closed calls: one operation, whichever.
-/
namespace Go.Ge

section
variable {P : Program} {μ : Mu} {h : Heap} {w : World} {id nx : Nat}

def aBin (P : Program) (op : BinOp) (t : TypeId) (x y : Operand) (a b : Value) : Option Value :=
  if closed a = true ∧ closed b = true then aPure P (do eqGuard op t x y a b; binOp op t a b) else
  match op, aEq P t a b with
  | .eql, some q => some (.bool q)
  | .neq, some q => some (.bool !q)
  | _, _ => none
theorem aEq_guard {op : BinOp} {t : TypeId} {x y : Operand} {a a' b b' : Value} {q : Bool} (ha : VR μ a a') (hb : VR μ b b') (hl : aEq P t a b = some q) : (eqGuard op t x y a' b').run P w = .ok () w := by
  unfold aEq at hl
  split at hl <;> first | (cases hl; done) | skip
  all_goals (cases ha <;> cases hb <;> first | (rename_i h1 h2; simp [dat] at h1 h2; done) | (rename_i h1; simp [dat] at h1; done) | (rename_i h1 h2; simp [dat] at h1; done) | (rename_i h1 h2; simp [dat] at h2; done) | (unfold eqGuard; split <;> simp))
theorem aBin_sound (r : Rel μ h w) {op : BinOp} {t : TypeId} {x y : Operand} {a a' b b' v : Value} (ha : VR μ a a') (hb : VR μ b b') (hl : aBin P op t x y a b = some v) :
    Does P (do eqGuard op t x y a' b'; binOp op t a' b') id nx μ h w v h := by
  unfold aBin at hl
  split at hl
  · rename_i hc
    rw [ha.eq_of_closed hc.1, hb.eq_of_closed hc.2]
    exact aPure_sound r hl
  · split at hl
    · rename_i q hq
      cases hl
      have hg := aEq_guard (P := P) (w := w) (op := .eql) (x := x) (y := y) ha hb hq
      have he := aEq_sound r ha hb hq
      refine Does.still r (v' := .bool q) ?_ (.dat rfl)
      have hbin : binOp .eql t a' b' = (do pure (.bool (← Op.equal t a' b'))) := by
        unfold aEq at hq
        split at hq <;> first | (cases hq; done) | skip
        all_goals (cases ha <;> cases hb <;> first | rfl | (rename_i h1 h2; simp [dat] at h1 h2; done) | (rename_i h1; simp [dat] at h1; done) | (rename_i h1 h2; simp [dat] at h1; done) | (rename_i h1 h2; simp [dat] at h2; done))
      simp [hg, hbin, he]
    · rename_i q hq
      cases hl
      have hg := aEq_guard (P := P) (w := w) (op := .neq) (x := x) (y := y) ha hb hq
      have he := aEq_sound r ha hb hq
      refine Does.still r (v' := .bool !q) ?_ (.dat rfl)
      have hbin : binOp .neq t a' b' = (do pure (.bool (!(← Op.equal t a' b')))) := by
        unfold aEq at hq
        split at hq <;> first | (cases hq; done) | skip
        all_goals (cases ha <;> cases hb <;> first | rfl | (rename_i h1 h2; simp [dat] at h1 h2; done) | (rename_i h1; simp [dat] at h1; done) | (rename_i h1 h2; simp [dat] at h1; done) | (rename_i h1 h2; simp [dat] at h2; done))
      simp [hg, hbin, he]
    · cases hl

def keep (h : Heap) (v : Option Value) : Option (Value × Heap) := match v with | some v => some (v, h) | none => none
theorem keep_eq {v : Option Value} {x : Value} {h' : Heap} (hl : keep h v = some (x, h')) : v = some x ∧ h' = h := by
  unfold keep at hl
  split at hl
  · cases hl; exact ⟨rfl, rfl⟩
  · cases hl
def unit (h : Option Heap) : Option (Value × Heap) := match h with | some h => some (undef, h) | none => none
theorem unit_eq {x : Value} {h₀ : Option Heap} {h' : Heap} (hl : unit h₀ = some (x, h')) : h₀ = some h' ∧ x = undef := by
  unfold unit at hl
  split at hl
  · cases hl; exact ⟨rfl, rfl⟩
  · cases hl

def aNil (x : Value) : Option Value :=
  match x with
  | .pointer (some _) => some x
  | .func (.func _) _ _ => some x
  | .iface _ _ => some x
  | _ => none

def aBuiltin (P : Program) (id : Nat) (h : Heap) (b : Builtin) (ats : List TypeId) (args : List Value) : Option (Value × Heap) :=
  match b with
  | .append => aAppend P id h ats args
  | .copy => aCopy P h ats args
  | .len => match ats, args with
    | t :: _, x :: _ => keep h (aLenB P h t x)
    | _, _ => none
  | .clear => match ats, args with
    | t :: _, x :: _ => aClear P h t x
    | _, _ => none
  | .delete => match ats, args with
    | t :: _, [x, k] => aDelete P h t x k
    | _, _ => none
  | .min => if args.all dat = true then keep h (aPure P (Builtin.min_ #[] 0 args.toArray)) else none
  | .max => if args.all dat = true then keep h (aPure P (Builtin.max_ #[] 0 args.toArray)) else none
  | _ => none

/-- one operation that runs no code -/
def aop (P : Program) (id : Nat) (h : Heap) (ev : Operand → Option Value) (op : Op) : Option (Value × Heap) :=
  match op with
  | .move x | .assign x => keep h (ev x)
  | .pick c a b => match ev c with
    | some (.bool q) => keep h (if q = true then ev a else ev b)
    | _ => none
  | .alloc e => if id < 65536 then aAlloc P id h e else none
  | .box e x => if id < 65536 then (match ev x with | some v => some (aBox id h e v) | none => none) else none
  | .build t ps => match evP ev ps.toList with
    | some vs => keep h (aBuild P t vs)
    | none => none
  | .buildSlice t n ps => if id < 65536 then (match evP ev ps.toList with
    | some vs => aBuildSlice P id h t n vs
    | none => none) else none
  | .load t a => match ev a with
    | some v => keep h (aLoad P h t v)
    | none => none
  | .store t a x => match ev a, ev x with
    | some a, some v => unit (aStore P h t a v)
    | _, _ => none
  | .nilCheck x => match ev x with
    | some v => keep h (aNil v)
    | none => none
  | .binOp op t x y _ => match ev x, ev y with
    | some a, some b => keep h (aBin P op t x y a b)
    | _, _ => none
  | .unOp op _ x => match ev x with
    | some v => if closed v = true then keep h (aPure P (Op.unary op v)) else none
    | none => none
  | .convert s d x => match ev x with
    | some v => aConvert P id h s d v
    | none => none
  | .makeInterface t x => match ev x with
    | some v => keep h (aMakeI P t v)
    | none => none
  | .makeFunc fn fs cs => match fn, evL ev fs.toList, evL ev cs.toList with
    | .func f, some a, some b => some (.func (.func f) ⟨a⟩ ⟨b⟩, h)
    | _, _, _ => none
  | .makeMap t r => if id < 65536 then (match evO ev r with
    | some v => aMakeMap P id h t v
    | none => none) else none
  | .makeSlice t l c => if id < 65536 then (match ev l, ev c with
    | some a, some b => aMakeSlice P id h t a b
    | _, _ => none) else none
  | .slice t x lo hi mx => match ev x, evO ev lo, evO ev hi, evO ev mx with
    | some v, some a, some b, some c => keep h (aSlice P h t v a b c)
    | _, _, _, _ => none
  | .fieldAddr s x k => match ev x with
    | some v => keep h (aFieldAddr P s v k)
    | none => none
  | .field t x k => match ev x with
    | some v => keep h (aField P t v k)
    | none => none
  | .indexAddr t x i => match ev x, ev i with
    | some a, some b => keep h (aIndexAddr P t a b)
    | _, _ => none
  | .index t x i => match ev x, ev i with
    | some a, some b => keep h (aIndex P t a b)
    | _, _ => none
  | .lookup t x i ok => match ev x, ev i with
    | some a, some b => keep h (aLookup P h t a b ok)
    | _, _ => none
  | .mapUpdate t m k x | .insert t m k x => match ev m, ev k, ev x with
    | some a, some b, some c => unit (aMapUpdate P h t a b c)
    | _, _, _ => none
  | .mapEntry t m k => match ev m, ev k with
    | some a, some b => aMapEntry P h t a b
    | _, _ => none
  | .entryStore _ m s x => match ev m, ev s, ev x with
    | some a, some b, some c => unit (aEntryStore h a b c)
    | _, _, _ => none
  | .range t x => if id < 65536 then (match ev x with
    | some v => aRange P id h t v
    | none => none) else none
  | .next it str => match ev it with
    | some v => aNext h v str
    | none => none
  | .entry it => match ev it with
    | some v => keep h (aEntry h v)
    | none => none
  | .typeAssert x _ a ok => match ev x with
    | some v => keep h (aAssert P v a ok)
    | none => none
  | .extract x k => match ev x with
    | some v => keep h (aExtract v k)
    | none => none
  | .call c => match c.callee with
    | .builtin b => if id < 65536 then (match evL ev c.args.toList with
      | some vs => aBuiltin P id h b c.argTypes.toList vs
      | none => none) else none
    | _ => none
  | _ => none

theorem aop_sound (r : Rel μ h w) {ev : Operand → Option Value} {ρ : Operand → Value} (he : EvR μ ev ρ) {o : Oper} {v : Value} {h' : Heap} (hid : μ id = none) (hh : h.get id = none) (hl : aop P id h ev o.op = some (v, h')) :
    DoesOp P (execOp ρ o) id nx μ h w v h' := by
  unfold execOp
  have pureV : ∀ {a a' : Value}, VR μ a a' → DoesOp P (pure (.value a')) id nx μ h w a h := fun {a a'} ha => ⟨μ, a', w, .inl rfl, ha, r, Goes.refl _ _ _ _ _⟩
  cases hop : o.op with
  | move x => rw [hop] at hl; obtain ⟨h1, rfl⟩ := keep_eq hl; exact pureV (he _ _ h1)
  | assign x => rw [hop] at hl; obtain ⟨h1, rfl⟩ := keep_eq hl; exact pureV (he _ _ h1)
  | pick c a b =>
    rw [hop] at hl
    simp only [aop] at hl
    split at hl
    · rename_i q hq
      obtain ⟨h1, rfl⟩ := keep_eq hl
      have hc := (he _ _ hq).eq_of_dat rfl
      refine ⟨μ, ρ (if q = true then a else b), w, .inl ?_, ?_, r, Goes.refl _ _ _ _ _⟩
      · simp only [hc, asBool]
        cases q <;> simp
      · cases q <;> exact he _ _ h1
    · cases hl
  | alloc e =>
    rw [hop] at hl
    simp only [aop] at hl
    split at hl
    · rename_i hlt; exact (aAlloc_sound r hlt hid hh hl).op
    · cases hl
  | box e x =>
    rw [hop] at hl
    simp only [aop] at hl
    split at hl
    · rename_i hlt
      split at hl
      · rename_i u hu
        have := aBox_sound (P := P) (e := e) (nx := nx) r hlt hid hh (he _ _ hu)
        cases hl
        exact this.op
      · cases hl
    · cases hl
  | build t ps =>
    rw [hop] at hl
    simp only [aop] at hl
    split at hl
    · rename_i vs hvs
      obtain ⟨h1, rfl⟩ := keep_eq hl
      have := aBuild_sound (P := P) (id := id) (nx := nx) r (evP_rel he _ _ hvs) h1
      have e : (ps.map fun (i, x) => (i, ρ x)) = (ps.toList.map fun (i, x) => (i, ρ x)).toArray := Array.ext' (by simp)
      simp only [e]
      exact this.op
    · cases hl
  | buildSlice t n ps =>
    rw [hop] at hl
    simp only [aop] at hl
    split at hl
    · rename_i hlt
      split at hl
      · rename_i vs hvs
        have := aBuildSlice_sound (P := P) (nx := nx) r hlt hid hh (evP_rel he _ _ hvs) hl
        have e : (ps.map fun (i, x) => (i, ρ x)) = (ps.toList.map fun (i, x) => (i, ρ x)).toArray := Array.ext' (by simp)
        simp only [e]
        exact this.op
      · cases hl
    · cases hl
  | load t a =>
    rw [hop] at hl
    simp only [aop] at hl
    split at hl
    · rename_i u hu; obtain ⟨h1, rfl⟩ := keep_eq hl; exact (aLoad_sound r (he _ _ hu) h1).op
    · cases hl
  | store t a x =>
    rw [hop] at hl
    simp only [aop] at hl
    split at hl
    · rename_i u v hu hv; obtain ⟨h1, rfl⟩ := unit_eq hl; exact (aStore_sound r (he _ _ hu) (he _ _ hv) h1).op
    · cases hl
  | nilCheck x =>
    rw [hop] at hl
    simp only [aop] at hl
    split at hl
    · rename_i u hu
      obtain ⟨h1, rfl⟩ := keep_eq hl
      have hx := he _ _ hu
      dsimp only
      generalize ρ x = y at hx
      unfold aNil at h1
      split at h1
      · cases h1
        cases hx with
        | dat hd => simp [dat] at hd
        | ptr hp =>
          exact pureV (.ptr hp)
      · cases h1
        cases hx with
        | dat hd => simp [dat] at hd
        | func hf ha hb =>
          exact pureV (.func hf ha hb)
      · cases h1
        cases hx with
        | dat hd => simp [dat] at hd
        | iface ha =>
          exact pureV (.iface ha)
      · cases h1
    · cases hl
  | binOp op t x y yt =>
    rw [hop] at hl
    simp only [aop] at hl
    split at hl
    · rename_i a b ha hb; obtain ⟨h1, rfl⟩ := keep_eq hl; exact (aBin_sound r (he _ _ ha) (he _ _ hb) h1).op
    · cases hl
  | unOp op t x =>
    rw [hop] at hl
    simp only [aop] at hl
    split at hl
    · rename_i u hu
      split at hl
      · rename_i hc
        obtain ⟨h1, rfl⟩ := keep_eq hl
        have hx := (he _ _ hu).eq_of_closed hc
        dsimp only
        rw [hx]
        exact (aPure_sound r h1).op
      · cases hl
    · cases hl
  | convert s d x =>
    rw [hop] at hl
    simp only [aop] at hl
    split at hl
    · rename_i u hu; exact (aConvert_sound r hid hh (he _ _ hu) hl).op
    · cases hl
  | makeInterface t x =>
    rw [hop] at hl
    simp only [aop] at hl
    split at hl
    · rename_i u hu; obtain ⟨h1, rfl⟩ := keep_eq hl; exact (aMakeI_sound r (he _ _ hu) h1).op
    · cases hl
  | makeFunc fn fs cs =>
    rw [hop] at hl
    simp only [aop] at hl
    split at hl
    · rename_i f a b ha hb
      cases hl
      have h1 := evL_rel he _ _ ha
      have h2 := evL_rel he _ _ hb
      refine ⟨μ, .func (.func f) (fs.map ρ) (cs.map ρ), w, .inl (by simp [Instr.makeFunc]), ?_, r, Goes.refl _ _ _ _ _⟩
      have e1 : fs.map ρ = ⟨fs.toList.map ρ⟩ := Array.ext' (by simp)
      have e2 : cs.map ρ = ⟨cs.toList.map ρ⟩ := Array.ext' (by simp)
      rw [e1, e2]
      exact .func (fun _ => by simp) h1 h2
    · cases hl
  | makeMap t x =>
    rw [hop] at hl
    simp only [aop] at hl
    split at hl
    · rename_i hlt
      split at hl
      · rename_i u hu; exact (aMakeMap_sound r hlt hid hh (evO_rel he hu) hl).op
      · cases hl
    · cases hl
  | makeSlice t a b =>
    rw [hop] at hl
    simp only [aop] at hl
    split at hl
    · rename_i hlt
      split at hl
      · rename_i u v hu hv; exact (aMakeSlice_sound r hlt hid hh (he _ _ hu) (he _ _ hv) hl).op
      · cases hl
    · cases hl
  | slice t x lo hi mx =>
    rw [hop] at hl
    simp only [aop] at hl
    split at hl
    · rename_i u a b c hu ha hb hc; obtain ⟨h1, rfl⟩ := keep_eq hl; exact (aSlice_sound r (he _ _ hu) (evO_rel he ha) (evO_rel he hb) (evO_rel he hc) h1).op
    · cases hl
  | fieldAddr s x k =>
    rw [hop] at hl
    simp only [aop] at hl
    split at hl
    · rename_i u hu; obtain ⟨h1, rfl⟩ := keep_eq hl; exact (aFieldAddr_sound r (he _ _ hu) h1).op
    · cases hl
  | field t x k =>
    rw [hop] at hl
    simp only [aop] at hl
    split at hl
    · rename_i u hu; obtain ⟨h1, rfl⟩ := keep_eq hl; exact (aField_sound r (he _ _ hu) h1).op
    · cases hl
  | indexAddr t x i =>
    rw [hop] at hl
    simp only [aop] at hl
    split at hl
    · rename_i a b ha hb; obtain ⟨h1, rfl⟩ := keep_eq hl; exact (aIndexAddr_sound r (he _ _ ha) (he _ _ hb) h1).op
    · cases hl
  | index t x i =>
    rw [hop] at hl
    simp only [aop] at hl
    split at hl
    · rename_i a b ha hb; obtain ⟨h1, rfl⟩ := keep_eq hl; exact (aIndex_sound r (he _ _ ha) (he _ _ hb) h1).op
    · cases hl
  | lookup t x i ok =>
    rw [hop] at hl
    simp only [aop] at hl
    split at hl
    · rename_i a b ha hb; obtain ⟨h1, rfl⟩ := keep_eq hl; exact (aLookup_sound r (he _ _ ha) (he _ _ hb) h1).op
    · cases hl
  | mapUpdate t m k x =>
    rw [hop] at hl
    simp only [aop] at hl
    split at hl
    · rename_i a b c ha hb hc; obtain ⟨h1, rfl⟩ := unit_eq hl; exact (aMapUpdate_sound r (he _ _ ha) (he _ _ hb) (he _ _ hc) h1).op
    · cases hl
  | insert t m k x =>
    rw [hop] at hl
    simp only [aop] at hl
    split at hl
    · rename_i a b c ha hb hc; obtain ⟨h1, rfl⟩ := unit_eq hl; exact (aMapUpdate_sound r (he _ _ ha) (he _ _ hb) (he _ _ hc) h1).op
    · cases hl
  | mapEntry t m k =>
    rw [hop] at hl
    simp only [aop] at hl
    split at hl
    · rename_i a b ha hb; exact (aMapEntry_sound r (he _ _ ha) (he _ _ hb) hl).op
    · cases hl
  | entryStore t m s x =>
    rw [hop] at hl
    simp only [aop] at hl
    split at hl
    · rename_i a b c ha hb hc; obtain ⟨h1, rfl⟩ := unit_eq hl; exact (aEntryStore_sound r (he _ _ ha) (he _ _ hb) (he _ _ hc) h1).op
    · cases hl
  | range t x =>
    rw [hop] at hl
    simp only [aop] at hl
    split at hl
    · rename_i hlt
      split at hl
      · rename_i u hu; exact (aRange_sound r hlt hid hh (he _ _ hu) hl).op
      · cases hl
    · cases hl
  | next it str =>
    rw [hop] at hl
    simp only [aop] at hl
    split at hl
    · rename_i u hu; exact (aNext_sound r (he _ _ hu) hl).op
    · cases hl
  | entry it =>
    rw [hop] at hl
    simp only [aop] at hl
    split at hl
    · rename_i u hu; obtain ⟨h1, rfl⟩ := keep_eq hl; exact (aEntry_sound r (he _ _ hu) h1).op
    · cases hl
  | typeAssert x t a ok =>
    rw [hop] at hl
    simp only [aop] at hl
    split at hl
    · rename_i u hu; obtain ⟨h1, rfl⟩ := keep_eq hl; exact (aAssert_sound r (he _ _ hu) h1).op
    · cases hl
  | extract x k =>
    rw [hop] at hl
    simp only [aop] at hl
    split at hl
    · rename_i u hu; obtain ⟨h1, rfl⟩ := keep_eq hl; exact (aExtract_sound r (he _ _ hu) h1).op
    · cases hl
  | call c =>
    rw [hop] at hl
    simp only [aop] at hl
    split at hl
    · rename_i b hb
      split at hl
      · rename_i hlt
        split at hl
        · rename_i vs hvs
          have hargs := evL_rel he _ _ hvs
          have e1 : c.args.map ρ = (c.args.toList.map ρ).toArray := Array.ext' (by simp)
          have hcall : ∀ s : Sem Value, (∀ consts, builtin b c.argTypes o.type consts (c.args.map ρ) = (do pure (.value (← s)))) → Does P s id nx μ h w v h' → DoesOp P (do let d ← resolve ρ c o.type; invoke d.target d.args) id nx μ h w v h' := by
            intro s hs hd
            obtain ⟨μ', v', w', k1, k2⟩ := hd
            refine ⟨μ', v', w', .inl ?_, k2⟩
            simp [resolve, hb, invoke, hs, k1]
          cases b <;> simp only [aBuiltin] at hl <;> try (cases hl; done)
          case append =>
            refine hcall (Builtin.append_ c.argTypes o.type (c.args.map ρ)) (fun _ => rfl) ?_
            have := aAppend_sound (P := P) (nx := nx) (ty := o.type) r hlt hid hh hargs hl
            rw [e1]
            simpa using this
          case copy =>
            refine hcall (Builtin.copy_ c.argTypes o.type (c.args.map ρ)) (fun _ => rfl) ?_
            have := aCopy_sound (P := P) (id := id) (nx := nx) (ty := o.type) r hargs hl
            rw [e1]
            simpa using this
          case len =>
            refine hcall (Builtin.len_ c.argTypes o.type (c.args.map ρ)) (fun _ => rfl) ?_
            split at hl
            · rename_i t ts x xs ht
              obtain ⟨h1, rfl⟩ := keep_eq hl
              cases hxs : c.args.toList.map ρ with
              | nil => rw [hxs] at hargs; cases hargs
              | cons x' xs' =>
                rw [hxs] at hargs
                cases hargs with
                | cons hx hxs' =>
                  have := aLenB_sound (P := P) (id := id) (nx := nx) (ty := o.type) (rest := ts) (rest' := xs') r hx h1
                  rw [e1, hxs]
                  have e2 : c.argTypes = (t :: ts).toArray := Array.ext' (by simpa using ht)
                  rw [e2]
                  exact this
            · cases hl
          case clear =>
            refine hcall (Builtin.clear_ c.argTypes o.type (c.args.map ρ)) (fun _ => rfl) ?_
            split at hl
            · rename_i t ts x xs ht
              cases hxs : c.args.toList.map ρ with
              | nil => rw [hxs] at hargs; cases hargs
              | cons x' xs' =>
                rw [hxs] at hargs
                cases hargs with
                | cons hx hxs' =>
                  have := aClear_sound (P := P) (id := id) (nx := nx) (ty := o.type) (rest := ts) (rest' := xs') r hx hl
                  rw [e1, hxs]
                  have e2 : c.argTypes = (t :: ts).toArray := Array.ext' (by simpa using ht)
                  rw [e2]
                  exact this
            · cases hl
          case delete =>
            refine hcall (Builtin.delete_ c.argTypes o.type (c.args.map ρ)) (fun _ => rfl) ?_
            split at hl
            · rename_i t ts x k ht
              cases hxs : c.args.toList.map ρ with
              | nil => rw [hxs] at hargs; cases hargs
              | cons x' xs' =>
                rw [hxs] at hargs
                cases hargs with
                | cons hx hxs' =>
                  cases hxs' with
                  | cons hk hn =>
                    cases hn
                    have := aDelete_sound (P := P) (id := id) (nx := nx) (ty := o.type) (rest := ts) r hx hk hl
                    rw [e1, hxs]
                    have e2 : c.argTypes = (t :: ts).toArray := Array.ext' (by simpa using ht)
                    rw [e2]
                    exact this
            · cases hl
          case min =>
            refine hcall (Builtin.min_ c.argTypes o.type (c.args.map ρ)) (fun _ => rfl) ?_
            split at hl
            · rename_i hd
              obtain ⟨h1, rfl⟩ := keep_eq hl
              rw [e1, VRs.eq_of_dats hargs hd]
              exact aPure_sound r h1
            · cases hl
          case max =>
            refine hcall (Builtin.max_ c.argTypes o.type (c.args.map ρ)) (fun _ => rfl) ?_
            split at hl
            · rename_i hd
              obtain ⟨h1, rfl⟩ := keep_eq hl
              rw [e1, VRs.eq_of_dats hargs hd]
              exact aPure_sound r h1
            · cases hl
        · cases hl
      · cases hl
    · cases hl
  | _ => rw [hop] at hl; simp only [aop] at hl; cases hl
end
end Go.Ge

/-
  Evaluation of closed calls: frames, operations that call, regions in order.
-/
namespace Go.Ge

def W (r : Option Nat) : Fence := { Fence.wide with round := r }

structure AS where
  h : Heap
  nx : Nat
structure Evs where
  call : FuncId → List Value → AS → Option (Value × AS)
  round : Nat → List Value → AS → Option (Value × AS)

def rput (R : T Value) (n : Nat) (dst : Option Tmp) (v : Value) : Option (T Value) :=
  match dst with
  | none => some R
  | some d => if d < n ∧ d < 1024 then some (T.put 10 R d (some v)) else none
def aev (R : T Value) (h : Heap) : Operand → Option Value
  | .tmp t => rget R t
  | .const v => if closed v = true then some v else none
  | .func f => some (.func (.func f) #[] #[])
  | .global g => match h.get g with
    | some (.tab g' _) => if g' = g then some (.pointer (some ⟨g, 0, none⟩)) else none
    | _ => none

structure Good (μ : Mu) (S : AS) (w : World) : Prop where
  rel : Rel μ S.h w
  dom : ∀ i, S.nx ≤ i → i < 65536 → μ i = none
/-- marks among the deferred calls -/
inductive DR (μ : Mu) : List Nat → List Deferred → Prop
  | nil : DR μ [] []
  | cons {d : Nat} {p : Place} {ds : List Nat} {xs : List Deferred} : μ d = some p → DR μ ds xs → DR μ (d :: ds) ({ target := .collected p.blk, args := #[] } :: xs)
theorem DR.mono {μ ν : Mu} (h : μ.le ν) : ∀ {ds : List Nat} {xs : List Deferred}, DR μ ds xs → DR ν ds xs
  | _, _, .nil => .nil
  | _, _, .cons a b => .cons (h _ _ a) (DR.mono h b)
structure FrR (μ : Mu) (R : T Value) (n : Nat) (D : List Nat) (a : Act) : Prop where
  sz : n ≤ a.tmps.size
  reg : ∀ t v, rget R t = some v → VR μ v (a.tmps.getD t undef)
  dn : DR μ D a.defers
structure Fs where
  R : T Value
  D : List Nat

section
variable {P : Program} {μ : Mu} {w : World} {R R' : T Value} {n : Nat} {D : List Nat} {a : Act} {S S' : AS}

theorem FrR.mono {ν : Mu} (hl : μ.le ν) (f : FrR μ R n D a) : FrR ν R n D a := ⟨f.sz, fun t v h => (f.reg t v h).mono hl, f.dn.mono hl⟩
theorem FrR.ev {h : Heap} (f : FrR μ R n D a) (r : Rel μ h w) : EvR μ (aev R h) a.eval := by
  intro x v hx
  cases x with
  | tmp t => exact f.reg t v hx
  | const u =>
    simp only [aev] at hx
    split at hx
    · rename_i hc; cases hx; exact VR.of_closed hc
    · cases hx
  | func g => simp only [aev] at hx; cases hx; exact .func (fun _ => by simp) .nil .nil
  | global g =>
    simp only [aev] at hx
    split at hx
    · rename_i g' c hg
      split at hx
      · rename_i e
        subst e
        cases hx
        obtain ⟨q, hq, rfl, _⟩ := r.live _ _ hg
        have := VR.ptr (o := 0) hq
        exact (by simpa using this : VR μ (.pointer (some ⟨g', 0, none⟩)) (.pointer (some ⟨g', 0, none⟩)))
      · cases hx
    · cases hx
theorem FrR.put (f : FrR μ R n D a) {dst : Option Tmp} {v v' : Value} (hv : VR μ v v') (hl : rput R n dst v = some R') : FrR μ R' n D (a.put dst v') := by
  cases dst with
  | none => simp only [rput] at hl; cases hl; exact f
  | some d =>
    simp only [rput] at hl
    split at hl
    · rename_i hd
      cases hl
      refine ⟨by simpa [Act.put] using f.sz, fun t u ht => ?_, f.dn⟩
      unfold rget at ht
      split at ht
      · rename_i h2
        rw [T.get_put 10 R d t (some v) hd.2 h2] at ht
        by_cases e : t = d
        · subst e
          simp at ht
          subst ht
          have : t < a.tmps.size := Nat.lt_of_lt_of_le hd.1 f.sz
          simpa [Act.put, Array.getD_eq_getD_getElem?, this] using hv
        · rw [if_neg e] at ht
          have := f.reg t u (by unfold rget; rw [if_pos h2]; exact ht)
          have e' : ¬ d = t := fun x => e x.symm
          simpa [Act.put, Array.getD_eq_getD_getElem?, Array.getElem?_setIfInBounds, e'] using this
      · cases ht
    · cases hl

/-- an operation is wanted, or not -/
def wantedB (R : T Value) (ops : Array Oper) (o : Oper) : Option Bool :=
  match o.guard with
  | none => some true
  | some (j, want) => match (ops[j]?).bind (·.dst) with
    | some d => match rget R d with
      | some (.bool b) => some (b == want)
      | some (.tuple ⟨[]⟩) => some false
      | _ => none
    | none => none
theorem wantedB_eq (f : FrR μ R n D a) {ops : Array Oper} {o : Oper} {q : Bool} (hl : wantedB R ops o = some q) : Region.wanted o (yielded ops a.tmps) = q := by
  unfold wantedB at hl
  unfold Region.wanted
  split at hl
  · rename_i hg; cases hl; rw [hg]
  · rename_i j want hg
    rw [hg]
    split at hl
    · rename_i d hd
      split at hl
      · rename_i b hb
        cases hl
        have hv := (f.reg d _ hb).eq_of_dat rfl
        have hs : a.tmps[d]? = some (.bool b) := by
          rw [Array.getD_eq_getD_getElem?] at hv
          cases h : a.tmps[d]? with
          | none => rw [h] at hv; simp [undef] at hv
          | some x => rw [h] at hv; simp at hv; rw [hv]
        have hy : yielded ops a.tmps j = some b := by
          unfold yielded
          rw [hd]
          simp [hs]
        simp [hy]
      · rename_i hb
        cases hl
        have hv : a.tmps.getD d undef = .tuple ⟨[]⟩ := by
          have := f.reg d _ hb
          generalize a.tmps.getD d undef = y at this ⊢
          cases this with
          | dat hd => simp [dat] at hd
          | tuple hc => cases hc; rfl
        have hy : yielded ops a.tmps j = none := by
          unfold yielded
          rw [hd]
          rw [Array.getD_eq_getD_getElem?] at hv
          cases h : a.tmps[d]? with
          | none => simp [h]
          | some x => rw [h] at hv; simp at hv; simp [h, hv]
        simp [hy]
      · cases hl
    · cases hl

/-- how a call ends -/
def Ends (μ : Mu) (S : AS) (w : World) (v : Value) (S' : AS) : Ending → World → Prop := fun e w' =>
  ∃ v' μ', e = .returned v' ∧ VR μ' v v' ∧ Good μ' S' w' ∧ Goes S.nx S.nx μ S.h w μ' S'.h w' ∧ S.nx ≤ S'.nx

structure EvsOk (P : Program) (E : Evs) : Prop where
  call : ∀ f args S v S', E.call f args S = some (v, S') → ∀ μ w args', Good μ S w → VRs μ args args' → CallsIn (W none) 0 P f args'.toArray w (Ends μ S w v S')
  round : ∀ l args S v S', E.round l args S = some (v, S') → ∀ μ w p args', Good μ S w → μ l = some p → VRs μ args args' →
    ∃ f tmps assign body, (Instr.yield p.blk args'.toArray).run P w = .ok (.round p.blk f tmps assign body) w ∧ RoundIn (W none) 0 P p.blk f tmps assign body w (Ends μ S w v S')

def enterOk (P : Program) (f : FuncId) : Bool := match P.funcs[f]? with
  | some fn => fn.body.isSome && !(fn.name == "runtime.NumGoroutine")
  | none => false
theorem enterOk_run {f : FuncId} {args : Array Value} (hf : enterOk P f = true) (w : World) : (callFunc f args).run P w = .ok (.enter f args) w := by
  unfold enterOk at hf
  split at hf
  · rename_i fn hfn
    simp only [Bool.and_eq_true, Bool.not_eq_true'] at hf
    obtain ⟨h1, h2⟩ := hf
    have h4 : ¬ fn.name = "runtime.NumGoroutine" := by simpa using h2
    cases hb : fn.body with
    | none => rw [hb] at h1; cases h1
    | some c => simp [callFunc, hfn, h4, hb]
  · cases hf

/-- one operation: v and what there is behind it; a block that it makes gets the name id -/
def opStep (P : Program) (E : Evs) (ev : Operand → Option Value) (id : Nat) (o : Oper) (S : AS) : Option (Value × AS) :=
  match o.op with
  | .call c =>
    match c.callee with
    | .value f =>
      match ev f, evL ev c.args.toList with
      | some (.func (.func g) first captured), some args => if enterOk P g = true then E.call g (first.toList ++ args ++ captured.toList) S else none
      | some (.func (.yield l) first captured), some args => if first.toList.isEmpty = true ∧ captured.toList.isEmpty = true then E.round l args S else none
      | _, _ => none
    | .builtin b => match aop P id S.h ev o.op with
      | some (v, h) => some (v, ⟨h, S.nx⟩)
      | none => none
    | .invoke _ _ => none
  | _ => match aop P id S.h ev o.op with
    | some (v, h) => some (v, ⟨h, S.nx⟩)
    | none => none

/-- behind one operation -/
structure Behind (id : Nat) (μ : Mu) (S : AS) (w : World) (μ' : Mu) (S' : AS) (w' : World) : Prop where
  good : Good μ' S' w'
  goes : Goes id S.nx μ S.h w μ' S'.h w'
  nx : S.nx ≤ S'.nx

theorem aop_defer {id : Nat} {h : Heap} {ev : Operand → Option Value} {op : Op} {x : Value × Heap} (hl : aop P id h ev op = some x) (c : Call) : op ≠ .defer c := by
  rintro rfl; simp only [aop] at hl; cases hl
/-- an operation that runs no code makes no name but its own -/
theorem plain_wp {r : Option Nat} {ev : Operand → Option Value} {id : Nat} {o : Oper} {v : Value} {h' : Heap} {K : Act → World → Prop} {Q : Exit → Act → World → Prop}
    (g : Good μ S w) (hev : EvR μ ev a.eval) (hid : μ id = none) (hlt : id < S.nx) (hl : aop P id S.h ev o.op = some (v, h'))
    (hK : ∀ μ' v' w', VR μ' v v' → Behind id μ S w μ' ⟨h', S.nx⟩ w' → K (a.put o.dst v') w') : o.wpIn (W r) 0 P a w K Q := by
  have hh : S.h.get id = none := by
    cases hg : S.h.get id with
    | none => rfl
    | some o => obtain ⟨p, hp, _⟩ := g.rel.live id o hg; rw [hid] at hp; cases hp
  obtain ⟨μ', v', w', hrun, hv, hr, hg⟩ := aop_sound (P := P) (id := id) (nx := max 65536 S.nx) (o := o) g.rel hev hid hh hl
  refine ⟨fun _ _ => trivial, ?_⟩
  rw [Oper.semAt_eq _ _ _ (aop_defer hl)]
  have hb : Behind id μ S w μ' ⟨h', S.nx⟩ w' := ⟨⟨hr, fun i h1 h2 => by dsimp only at h1; rw [(hg.low i (by omega) (by omega)).1]; exact g.dom i h1 h2⟩, hg.mono (by omega) (.inl rfl), Nat.le_refl _⟩
  rcases hrun with hrun | ⟨hrun, rfl⟩
  · rw [hrun]; exact hK μ' v' w' hv hb
  · rw [hrun]; exact hK μ' undef w' hv hb

theorem Behind.of_ends {id : Nat} {v : Value} {e : Ending} {w' : World} (hlt : id < S.nx) (h : Ends μ S w v S' e w') : ∃ v' μ', e = .returned v' ∧ VR μ' v v' ∧ Behind id μ S w μ' S' w' := by
  obtain ⟨v', μ', h1, h2, h3, h4, h5⟩ := h
  exact ⟨v', μ', h1, h2, h3, h4.mono (Nat.le_refl _) (.inr (Nat.le_refl _)), h5⟩

theorem opStep_wp {E : Evs} (hE : EvsOk P E) {r : Option Nat} {ev : Operand → Option Value} {id : Nat} {o : Oper} {v : Value} {K : Act → World → Prop} {Q : Exit → Act → World → Prop}
    (g : Good μ S w) (hev : EvR μ ev a.eval) (hid : μ id = none) (hlt : id < S.nx) (hl : opStep P E ev id o S = some (v, S'))
    (hK : ∀ μ' v' w', VR μ' v v' → Behind id μ S w μ' S' w' → K (a.put o.dst v') w') : o.wpIn (W r) 0 P a w K Q := by
  have plain : (match aop P id S.h ev o.op with
      | some (v, h) => some (v, (⟨h, S.nx⟩ : AS))
      | none => none) = some (v, S') → o.wpIn (W r) 0 P a w K Q := by
    intro hl
    split at hl
    · rename_i v' h' hop
      cases hl
      exact plain_wp g hev hid hlt hop hK
    · cases hl
  unfold opStep at hl
  split at hl
  · rename_i c hop
    split at hl
    · rename_i f hc
      have hsem : o.semAt (W r).round a.eval = (do let d ← resolve a.eval c o.type; invoke d.target d.args) := by
        rw [Oper.semAt_eq _ _ _ (fun c' e => by rw [hop] at e; cases e)]
        unfold execOp
        rw [hop]
      split at hl
      · rename_i g' first captured args hf hargs
        split at hl
        · rename_i hok
          have hfv := hev _ _ hf
          have hav := evL_rel hev _ _ hargs
          have e1 : c.args.map a.eval = (c.args.toList.map a.eval).toArray := Array.ext' (by simp)
          obtain ⟨xs', ys', hval, hxs, hys⟩ : ∃ xs' ys' : List Value, a.eval f = .func (.func g') ⟨xs'⟩ ⟨ys'⟩ ∧ VRs μ first.toList xs' ∧ VRs μ captured.toList ys' := by
            generalize a.eval f = fv at hfv
            cases hfv with
            | dat hd => simp [dat] at hd
            | func _ h1 h2 => exact ⟨_, _, rfl, h1, h2⟩
          refine ⟨fun _ _ => trivial, ?_⟩
          rw [hsem]
          have hrun : (do let d ← resolve a.eval c o.type; invoke d.target d.args : Sem Next).run P w = .ok (.enter g' (xs' ++ c.args.toList.map a.eval ++ ys').toArray) w := by
            simp [resolve, hc, hval, Deferred.ofValue, invoke, enterOk_run hok]
          rw [hrun]
          refine ⟨fun hd => (by cases hd), ?_⟩
          refine CallsIn.mono (hE.call _ _ _ _ _ hl μ w _ g ((hxs.append hav).append hys)) fun e w' he => ?_
          obtain ⟨v', μ', rfl, hv, hb⟩ := Behind.of_ends hlt he
          exact hK μ' v' w' hv hb
        · cases hl
      · rename_i l first captured args hf hargs
        split at hl
        · rename_i hempty
          have hfv := hev _ _ hf
          have hav := evL_rel hev _ _ hargs
          have e1 : c.args.map a.eval = (c.args.toList.map a.eval).toArray := Array.ext' (by simp)
          obtain ⟨p, hp, hval⟩ : ∃ p, μ l = some p ∧ a.eval f = .func (.yield p.blk) #[] #[] := by
            generalize a.eval f = fv at hfv
            cases hfv with
            | dat hd => simp [dat] at hd
            | func h _ _ => exact absurd rfl (h l)
            | yield hp => exact ⟨_, hp, rfl⟩
          obtain ⟨f', tmps, assign, body, hy, hround⟩ := hE.round _ _ _ _ _ hl μ w p _ g hp hav
          refine ⟨fun _ _ => trivial, ?_⟩
          rw [hsem]
          have hrun : (do let d ← resolve a.eval c o.type; invoke d.target d.args : Sem Next).run P w = .ok (.round p.blk f' tmps assign body) w := by
            simp [resolve, hc, hval, Deferred.ofValue, invoke]
            rw [e1]
            exact hy
          rw [hrun]
          refine ⟨fun hd => (by cases hd), ?_⟩
          refine RoundIn.mono hround fun e w' he => ?_
          obtain ⟨v', μ', rfl, hv, hb⟩ := Behind.of_ends hlt he
          exact hK μ' v' w' hv hb
        · cases hl
      · cases hl
    · exact plain hl
    · cases hl
  · exact plain hl

/-! ### regions in order -/
def seqOps (P : Program) (E : Evs) (ops : Array Oper) (n : Nat) : List Nat → T Value → AS → Option (T Value × AS)
  | [], R, S => some (R, S)
  | i :: rest, R, S =>
    match ops[i]? with
    | none => none
    | some o =>
      match wantedB R ops o with
      | some true =>
        if S.nx < 65536 then
          match opStep P E (aev R S.h) S.nx o ⟨S.h, S.nx + 1⟩ with
          | some (v, S') => match rput R n o.dst v with
            | some R' => seqOps P E ops n rest R' S'
            | none => none
          | none => none
        else none
      | some false => match rput R n o.dst undef with
        | some R' => seqOps P E ops n rest R' S
        | none => none
      | none => none

/-- behind a piece of code -/
structure Past (μ : Mu) (S : AS) (w : World) (n : Nat) (μ' : Mu) (F' : Fs) (S' : AS) (a' : Act) (w' : World) : Prop where
  good : Good μ' S' w'
  fr : FrR μ' F'.R n F'.D a'
  goes : Goes S.nx S.nx μ S.h w μ' S'.h w'
  nx : S.nx ≤ S'.nx
theorem Past.trans {μ₁ μ₂ : Mu} {S₁ S₂ : AS} {R₁ R₂ : Fs} {a₁ a₂ : Act} {w₁ w₂ : World} (x : Past μ S w n μ₁ R₁ S₁ a₁ w₁) (y : Past μ₁ S₁ w₁ n μ₂ R₂ S₂ a₂ w₂) : Past μ S w n μ₂ R₂ S₂ a₂ w₂ :=
  ⟨y.good, y.fr, x.goes.trans (y.goes.mono x.nx (.inr x.nx)), Nat.le_trans x.nx y.nx⟩

theorem seqOps_wp {E : Evs} (hE : EvsOk P E) {r : Option Nat} {ops : Array Oper} {Q : Exit → Act → World → Prop} : ∀ (l : List Nat) (μ : Mu) (R : T Value) (S : AS) (a : Act) (w : World) (R' : T Value) (S' : AS),
    Good μ S w → FrR μ R n D a → seqOps P E ops n l R S = some (R', S') → (∀ μ' a' w', Past μ S w n μ' ⟨R', D⟩ S' a' w' → Q .normal a' w') → wpOpsIn (W r) 0 P ops Q l a w
  | [], μ, R, S, a, w, R', S', g, f, hl, hQ => by
    simp only [seqOps] at hl
    cases hl
    exact hQ μ a w ⟨g, f, Goes.refl _ _ _ _ _, Nat.le_refl _⟩
  | i :: rest, μ, R, S, a, w, R', S', g, f, hl, hQ => by
    simp only [seqOps] at hl
    simp only [wpOpsIn]
    split at hl
    · cases hl
    · rename_i o ho
      rw [ho]
      simp only
      split at hl
      · rename_i hw
        rw [if_pos (wantedB_eq f hw)]
        split at hl
        · rename_i hlt
          split at hl
          · rename_i v S₁ hop
            split at hl
            · rename_i R₁ hR
              refine opStep_wp hE (S := ⟨S.h, S.nx + 1⟩) ⟨g.rel, fun i h1 h2 => g.dom i (by simp at h1; omega) h2⟩ (f.ev g.rel) (g.dom _ (Nat.le_refl _) hlt) (Nat.lt_succ_self _) hop fun μ' v' w' hv hb => ?_
              have hp : Past μ S w n μ' ⟨R₁, D⟩ S₁ (a.put o.dst v') w' := ⟨hb.good, (f.mono hb.goes.le).put hv hR, hb.goes.mono (Nat.le_succ _) (.inl rfl), by have := hb.nx; simp at this; omega⟩
              exact seqOps_wp hE rest μ' R₁ S₁ _ w' R' S' hp.good hp.fr hl fun μ₂ a₂ w₂ h2 => hQ μ₂ a₂ w₂ (hp.trans h2)
            · cases hl
          · cases hl
        · cases hl
      · rename_i hw
        rw [if_neg (by rw [wantedB_eq f hw]; simp)]
        split at hl
        · rename_i R₁ hR
          have hp : Past μ S w n μ ⟨R₁, D⟩ S (a.put o.dst undef) w := ⟨g, f.put undefVR hR, Goes.refl _ _ _ _ _, Nat.le_refl _⟩
          exact ⟨fun _ _ => trivial, seqOps_wp hE rest μ R₁ S _ w R' S' g hp.fr hl fun μ₂ a₂ w₂ h2 => hQ μ₂ a₂ w₂ (hp.trans h2)⟩
        · cases hl
      · cases hl
end
end Go.Ge

/-
  Evaluation of closed calls: code, calls, rounds.
-/
namespace Go.Ge

inductive AX where
  | normal
  | exit (id : Nat)
  | goto (l : Nat)
  | ret

abbrev Drawn := Evs → Array Oper → Nat → T Value → AS → Option (T Value × AS)

def loopF (f : Fs → AS → Option (AX × Fs × AS)) : Nat → Fs → AS → Option (AX × Fs × AS)
  | 0, _, _ => none
  | m + 1, R, S =>
    match f R S with
    | some (.normal, R', S') => loopF f m R' S'
    | x => x
def scopeF (f : Code → Fs → AS → Option (AX × Fs × AS)) (body : Code) : Nat → Code → Fs → AS → Option (AX × Fs × AS)
  | 0, _, _, _ => none
  | m + 1, c, R, S =>
    match f c R S with
    | some (.goto l, R', S') => match findLabel body l with
      | some rest => scopeF f body m rest R' S'
      | none => some (.goto l, R', S')
    | x => x

/-- a loop's record -/
def enterF (n : Nat) (rd : Option Nat) (ps : Array Tmp) (assign body : Code) (F : Fs) (S : AS) : Option (Nat × Fs × AS) :=
  match rd with
  | none => if S.nx + 1 < 65536 then
      some (S.nx + 1, ⟨F.R, S.nx :: F.D⟩, ⟨(S.h.set S.nx (some .mark)).set (S.nx + 1) (some (.loop { state := .ready, pending := none, tmps := F.R, n, params := ps, assign, body, defers := S.nx })), S.nx + 2⟩)
    else none
  | some l => match S.h.get l with
    | some (.loop lo) => if S.nx < 65536 then
        some (S.nx, F, ⟨S.h.set S.nx (some (.loop { state := .ready, pending := none, tmps := F.R, n, params := ps, assign, body, defers := lo.defers })), S.nx + 1⟩)
      else none
    | _ => none
def endF (l : Nat) (S : AS) : Option (Option Code × AS) :=
  match S.h.get l with
  | some (.loop lo) => if lo.state = .busy then none else some (lo.pending, ⟨S.h.set l (some (.loop { lo with state := .exhausted })), S.nx⟩)
  | _ => none

def codeF (P : Program) (dr : Drawn) (E : Evs) (n : Nat) (rd : Option Nat) : Nat → Code → Fs → AS → Option (AX × Fs × AS)
  | 0, _, _, _ => none
  | k + 1, c, F, S =>
    match c with
    | .skip => some (.normal, F, S)
    | .label _ => some (.normal, F, S)
    | .region _ ops false => match seqOps P E ops n (List.range ops.size) F.R S with
      | some (R', S') => some (.normal, ⟨R', F.D⟩, S')
      | none => none
    | .region _ ops true => match dr E ops n F.R S with
      | some (R', S') => some (.normal, ⟨R', F.D⟩, S')
      | none => none
    | .seq a b => match codeF P dr E n rd k a F S with
      | some (.normal, F', S') => codeF P dr E n rd k b F' S'
      | x => x
    | .cond c a b => match aev F.R S.h c with
      | some (.bool true) => codeF P dr E n rd k a F S
      | some (.bool false) => codeF P dr E n rd k b F S
      | _ => none
    | .block id b => match codeF P dr E n rd k b F S with
      | some (.exit id', F', S') => if id' = id then some (.normal, F', S') else some (.exit id', F', S')
      | x => x
    | .loop b => loopF (codeF P dr E n rd k b) 100000 F S
    | .exit id => some (.exit id, F, S)
    | .goto l => some (.goto l, F, S)
    | .ret => some (.ret, F, S)
    | .scope b => scopeF (codeF P dr E n rd k) b 100000 b F S
    | .rangeFunc g ps assign body =>
      match aev F.R S.h g with
      | some (.func (.func f) first captured) =>
        if enterOk P f = true then
          match enterF n rd ps assign body F S with
          | some (l, F₁, S₁) =>
            match E.call f (first.toList ++ [.func (.yield l) #[] #[]] ++ captured.toList) S₁ with
            | some (_, S₂) => match endF l S₂ with
              | some (none, S₃) => some (.normal, F₁, S₃)
              | some (some c, S₃) => codeF P dr E n rd k c F₁ S₃
              | none => none
            | none => none
          | none => none
        else none
      | _ => none
    | .refuse _ => none

def resF (P : Program) (h : Heap) (R : T Value) : List ResultVar → Option (List Value)
  | [] => some []
  | .tmp t :: rs => match rget R t, resF P h R rs with
    | some v, some vs => some (v :: vs)
    | _, _ => none
  | .cell a t :: rs => match rget R a with
    | some x => match aLoad P h t x, resF P h R rs with
      | some v, some vs => some (v :: vs)
      | _, _ => none
    | none => none
def argsR : List Value → Nat → T Value → T Value
  | [], _, R => R
  | v :: vs, i, R => argsR vs (i + 1) (T.put 10 R i (some v))
/-- the marks are taken -/
def leaveF : List Nat → AS → Option AS
  | [], S => some S
  | d :: ds, S => match S.h.get d with
    | some .mark => leaveF ds ⟨S.h.set d (some .spent), S.nx⟩
    | _ => none

def callF (P : Program) (dr : Drawn) (E : Evs) (f : FuncId) (args : List Value) (S : AS) : Option (Value × AS) :=
  match P.funcs[f]? with
  | some fn => match fn.body with
    | some c =>
      if args.length ≤ 1024 then
        match codeF P dr E (max args.length fn.ntmps) none 200 c ⟨argsR args 0 .leaf, []⟩ S with
        | some (.normal, F, S') | some (.ret, F, S') => match leaveF F.D S' with
          | some S'' => match resF P S''.h F.R fn.results.toList with
            | some [v] => some (v, S'')
            | some vs => some (.tuple ⟨vs⟩, S'')
            | none => none
          | none => none
        | _ => none
      else none
    | none => none
  | none => none

/-- the values of a round -/
def roundR (n : Nat) : List Tmp → List Value → T Value → Option (T Value)
  | [], [], R => some R
  | t :: ts, v :: vs, R => match rput R n (some t) v with
    | some R' => roundR n ts vs R'
    | none => none
  | _, _, _ => none
def jumpOf : AX → Option Code
  | .normal => none
  | .ret => some .ret
  | .exit id => some (.exit id)
  | .goto l => some (.goto l)
def roundF (P : Program) (dr : Drawn) (E : Evs) (l : Nat) (args : List Value) (S : AS) : Option (Value × AS) :=
  match S.h.get l with
  | some (.loop lo) => match roundR lo.n lo.params.toList args lo.tmps with
    | some R => match codeF P dr E lo.n (some l) 200 lo.assign ⟨R, []⟩ S with
      | some (.normal, F₁, S₁) => match S₁.h.get l with
        | some (.loop lo₁) => if lo₁.state = .ready then
            match codeF P dr E lo.n (some l) 200 lo.body F₁ ⟨S₁.h.set l (some (.loop { lo₁ with state := .busy })), S₁.nx⟩ with
            | some (x, F₂, S₂) => match S₂.h.get l with
              | some (.loop lo₂) => some (.bool (jumpOf x).isNone, ⟨S₂.h.set l (some (.loop { lo₂ with state := if (jumpOf x).isNone then .ready else .done, pending := jumpOf x })), S₂.nx⟩)
              | _ => none
            | none => none
          else none
        | _ => none
      | _ => none
    | none => none
  | _ => none

def lev (P : Program) (dr : Drawn) : Nat → Evs
  | 0 => ⟨fun _ _ _ => none, fun _ _ _ => none⟩
  | k + 1 => ⟨callF P dr (lev P dr k), roundF P dr (lev P dr k)⟩
end Go.Ge

