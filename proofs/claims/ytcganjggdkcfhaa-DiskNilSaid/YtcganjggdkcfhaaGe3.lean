/-
  Evaluation of closed calls: places, parts, slices of slices, tests, plain reckoning.
-/
import Derived.Test.YtcganjggdkcfhaaGe2
set_option linter.unusedVariables false
set_option linter.unusedSimpArgs false
namespace Go.Ge

section
variable {P : Program} {μ : Mu} {h : Heap} {w : World} {id nx : Nat}

def closed : Value → Bool
  | .agg cs => cs.toList.all dat
  | .tuple cs => cs.toList.all dat
  | .iface _ v => dat v
  | v => dat v
theorem VRs.eq_of_dats : ∀ {xs ys : List Value}, VRs μ xs ys → xs.all Ge.dat = true → ys = xs
  | _, _, .nil, _ => rfl
  | x :: _, _, .cons a b, hd => by
    simp only [List.all_cons, Bool.and_eq_true] at hd
    rw [VRs.eq_of_dats b hd.2]
    cases a with
    | dat _ => rfl
    | _ => simp [Ge.dat] at hd
theorem VR.eq_of_dat {v v' : Value} (hv : VR μ v v') (hd : Ge.dat v = true) : v' = v := by
  cases hv with
  | dat _ => rfl
  | _ => simp [Ge.dat] at hd
theorem VR.eq_of_closed {v v' : Value} (hv : VR μ v v') (hd : closed v = true) : v' = v := by
  cases hv with
  | dat _ => rfl
  | iface a => simp only [closed] at hd; rw [a.eq_of_dat hd]
  | agg a => rw [VRs.eq_of_dats a (by simpa [closed] using hd)]
  | tuple a => rw [VRs.eq_of_dats a (by simpa [closed] using hd)]
  | _ => simp [closed, Ge.dat] at hd
theorem VR.of_closed {v : Value} (hd : closed v = true) : VR μ v v := by
  cases v with
  | agg cs => obtain ⟨cs⟩ := cs; exact .agg (VRs.dats (by simpa [closed] using hd))
  | tuple cs => obtain ⟨cs⟩ := cs; exact .tuple (VRs.dats (by simpa [closed] using hd))
  | iface t v => exact .iface (.dat (by simpa [closed] using hd))
  | _ => exact .dat (by simpa [closed] using hd)

/-- a step that touches no memory -/
def pev (P : Program) {α : Type} : Sem α → Option α
  | .pure a => some a
  | .program k => pev P (k P)
  | .mark _ k => pev P k
  | _ => none
theorem pev_run {α : Type} : ∀ (s : Sem α) (a : α), pev P s = some a → ∀ w, s.run P w = .ok a w
  | .pure a, b, he, w => by simp only [pev] at he; cases he; rfl
  | .program k, b, he, w => by simp only [pev] at he; exact pev_run (k P) b he w
  | .mark m k, b, he, w => by simp only [pev] at he; exact pev_run k b he w
  | .load .., _, he, _ => by simp [pev] at he
  | .store .., _, he, _ => by simp [pev] at he
  | .new .., _, he, _ => by simp [pev] at he
  | .shape .., _, he, _ => by simp [pev] at he
  | .freeze .., _, he, _ => by simp [pev] at he
  | .frozen .., _, he, _ => by simp [pev] at he
  | .getObj .., _, he, _ => by simp [pev] at he
  | .setObj .., _, he, _ => by simp [pev] at he
  | .choose .., _, he, _ => by simp [pev] at he
  | .sys .., _, he, _ => by simp [pev] at he
  | .halt .., _, he, _ => by simp [pev] at he

/-- closed operands, a closed result -/
def aPure (P : Program) (s : Sem Value) : Option Value := match pev P s with | some v => if closed v = true then some v else none | none => none
theorem aPure_sound (r : Rel μ h w) {s : Sem Value} {v : Value} (hl : aPure P s = some v) : Does P s id nx μ h w v h := by
  unfold aPure at hl
  split at hl
  · rename_i v' hv'
    split at hl
    · rename_i hc; cases hl; exact Does.still r (pev_run s v hv' w) (VR.of_closed hc)
    · cases hl
  · cases hl

/-! ### fields -/
def aFieldAddr (P : Program) (s : TypeId) (a : Value) (k : Nat) : Option Value :=
  match a with
  | .pointer (some ⟨b, o, none⟩) =>
    match P.underlying s with
    | some (.struct fs) =>
      match fs[k]? with
      | some f => match P.info? f.type with
        | some i => if i.size = 0 then none else some (.pointer (some ⟨b, o + f.offset, none⟩))
        | none => none
      | none => none
    | _ => none
  | _ => none
theorem aFieldAddr_sound (r : Rel μ h w) {s : TypeId} {a a' v : Value} {k : Nat} (ha : VR μ a a') (hl : aFieldAddr P s a k = some v) : Does P (Instr.fieldAt s a' k) id nx μ h w v h := by
  unfold aFieldAddr at hl
  split at hl
  · rename_i b o
    cases ha with
    | dat hd => simp [dat] at hd
    | ptr hp =>
      rename_i p
      split at hl
      · rename_i fs hu
        split at hl
        · rename_i f hf
          split at hl
          · rename_i i hi
            split at hl
            · cases hl
            · rename_i hz
              cases hl
              have hv := VR.ptr (o := o + f.offset) hp
              rw [show o + f.offset + p.disp = o + p.disp + f.offset by omega] at hv
              refine Does.still r ?_ hv
              simp [Instr.fieldAt, Instr.sureAddr, run_underlying hu, hf, fieldPlace, sizeOf, typeInfo, hi, hz, add_none]
          · cases hl
        · cases hl
      · cases hl
  · cases hl

def aPart (P : Program) (t : TypeId) (cs : List Value) (off : Nat) : Option Value :=
  match isAggB P t with
  | some true => match P.info? t with
    | some i => if off + i.size ≤ cs.length then some (.agg ⟨(cs.drop off).take i.size⟩) else none
    | none => none
  | some false => cs[off]?
  | none => none
theorem aPart_run {t : TypeId} {cs cs' : List Value} {off : Nat} {v : Value} (hc : VRs μ cs cs') (hl : aPart P t cs off = some v) : ∃ v', (∀ w, (part t ⟨cs'⟩ off).run P w = .ok v' w) ∧ VR μ v v' := by
  unfold aPart at hl
  split at hl
  · rename_i hu
    split at hl
    · rename_i i hi
      split at hl
      · cases hl
        refine ⟨.agg ⟨(cs'.drop off).take i.size⟩, fun w => ?_, .agg ((hc.drop off).take i.size)⟩
        have : (⟨cs'⟩ : Array Value).extract off (off + i.size) = ⟨(cs'.drop off).take i.size⟩ := by
          apply Array.ext'
          simp [List.extract_eq_take_drop]
        simp [part, run_isAggB hu, sizeOf, typeInfo, hi, this]
      · cases hl
    · cases hl
  · rename_i hu
    obtain ⟨v', h1, h2⟩ := hc.get off v hl
    refine ⟨v', fun w => ?_, h2⟩
    have : (⟨cs'⟩ : Array Value)[off]? = some v' := by simpa using h1
    simp [part, run_isAggB hu, this]
  · cases hl

def aField (P : Program) (t : TypeId) (x : Value) (k : Nat) : Option Value :=
  match x with
  | .agg cs => match P.underlying t with
    | some (.struct fs) => match fs[k]? with
      | some f => aPart P f.type cs.toList f.offset
      | none => none
    | _ => none
  | _ => none
theorem aField_sound (r : Rel μ h w) {t : TypeId} {x x' v : Value} {k : Nat} (hx : VR μ x x') (hl : aField P t x k = some v) : Does P (Instr.field t x' k) id nx μ h w v h := by
  unfold aField at hl
  split at hl
  · cases hx with
    | dat hd => simp [dat] at hd
    | agg hc =>
      split at hl
      · rename_i fs hu
        split at hl
        · rename_i f hf
          obtain ⟨v', h1, h2⟩ := aPart_run hc hl
          refine Does.still r ?_ h2
          simp [Instr.field, run_underlying hu, hf, asAgg, h1]
        · cases hl
      · cases hl
  · cases hl

/-! ### indices -/
def aIndexAddr (P : Program) (t : TypeId) (x ix : Value) : Option Value :=
  match ix with
  | .int _ i =>
    match P.underlying t, x with
    | some (.array n e), .pointer (some ⟨b, o, none⟩) => match P.info? e with
      | some ie => if 0 ≤ i ∧ i < n then some (.pointer (some ⟨b, o + i.toNat * ie.size, none⟩)) else none
      | none => none
    | some (.slice e), .slice (some ⟨b, o, _⟩) len _ => match P.info? e with
      | some ie => if 0 ≤ i ∧ i < len then some (.pointer (some ⟨b, o + i.toNat * ie.size, none⟩)) else none
      | none => none
    | _, _ => none
  | _ => none
theorem aIndexAddr_sound (r : Rel μ h w) {t : TypeId} {x x' ix ix' v : Value} (hx : VR μ x x') (hi : VR μ ix ix') (hl : aIndexAddr P t x ix = some v) : Does P (Instr.indexAt t x' ix') id nx μ h w v h := by
  unfold aIndexAddr at hl
  split at hl
  · rename_i k i
    cases hi.eq_of_dat rfl
    split at hl
    · rename_i n e b o hu
      cases hx with
      | dat hd => simp [dat] at hd
      | ptr hp =>
        rename_i p
        split at hl
        · rename_i ie hie
          split at hl
          · rename_i hn
            cases hl
            have hv := VR.ptr (o := o + i.toNat * ie.size) hp
            rw [show o + i.toNat * ie.size + p.disp = o + p.disp + i.toNat * ie.size by omega] at hv
            refine Does.still r ?_ hv
            simp [Instr.indexAt, Instr.sureAddr, asIntOf, run_underlying hu, sizeOf, typeInfo, hie, hn, add_none]
          · cases hl
        · cases hl
    · rename_i e b o sp len cap hu
      split at hl
      · rename_i ie hie
        split at hl
        · rename_i hn
          cases hl
          cases hx with
          | dat hd => simp [dat] at hd
          | slice hp =>
            rename_i p
            have hv := VR.ptr (o := o + i.toNat * ie.size) hp
            rw [show o + i.toNat * ie.size + p.disp = o + p.disp + i.toNat * ie.size by omega] at hv
            refine Does.still r ?_ hv
            simp [Instr.indexAt, asIntOf, run_underlying hu, sizeOf, typeInfo, hie, hn, add_none]
          | sliceG hp =>
            rename_i e' p
            have hv := VR.ptr (o := o + i.toNat * ie.size) hp
            rw [show o + i.toNat * ie.size + p.disp = o + p.disp + i.toNat * ie.size by omega] at hv
            refine Does.still r ?_ hv
            simp [Instr.indexAt, asIntOf, run_underlying hu, sizeOf, typeInfo, hie, hn, add_none]
          | sliceE => omega
        · cases hl
      · cases hl
    · cases hl
  · cases hl

def aIndex (P : Program) (t : TypeId) (x ix : Value) : Option Value :=
  match ix with
  | .int _ i =>
    match P.underlying t, x with
    | some (.array n e), .agg cs => match P.info? e with
      | some ie => if 0 ≤ i ∧ i < n then aPart P e cs.toList (i.toNat * ie.size) else none
      | none => none
    | some .string, .string s => if 0 ≤ i then (match s[i.toNat]? with | some b => some (.int .u8 b.toNat) | none => none) else none
    | _, _ => none
  | _ => none
theorem aIndex_sound (r : Rel μ h w) {t : TypeId} {x x' ix ix' v : Value} (hx : VR μ x x') (hi : VR μ ix ix') (hl : aIndex P t x ix = some v) : Does P (Instr.index t x' ix') id nx μ h w v h := by
  unfold aIndex at hl
  split at hl
  · rename_i k i
    cases hi.eq_of_dat rfl
    split at hl
    · rename_i n e cs hu
      cases hx with
      | dat hd => simp [dat] at hd
      | agg hc =>
        split at hl
        · rename_i ie hie
          split at hl
          · rename_i hn
            obtain ⟨v', h1, h2⟩ := aPart_run hc hl
            refine Does.still r ?_ h2
            simp [Instr.index, asIntOf, run_underlying hu, sizeOf, typeInfo, hie, hn, h1]
          · cases hl
        · cases hl
    · rename_i s hu
      cases hx.eq_of_dat rfl
      split at hl
      · rename_i hn
        split at hl
        · rename_i b hb
          cases hl
          refine Does.still r ?_ (.dat rfl)
          simp [Instr.index, asIntOf, run_underlying hu, hn, hb]
        · cases hl
      · cases hl
    · cases hl
  · cases hl

/-! ### interfaces, tuples -/
def aMakeI (P : Program) (t : TypeId) (x : Value) : Option Value :=
  match P.underlying t with
  | some (.interface _) => none
  | some _ => some (.iface t x)
  | none => none
theorem aMakeI_sound (r : Rel μ h w) {t : TypeId} {x x' v : Value} (hx : VR μ x x') (hl : aMakeI P t x = some v) : Does P (Instr.makeInterface t x') id nx μ h w v h := by
  unfold aMakeI at hl
  split at hl
  · cases hl
  · rename_i d hd hu
    cases hl
    refine Does.still r ?_ (.iface hx)
    cases d <;> simp_all [Instr.makeInterface, run_underlying hu]
  · cases hl
def aExtract (x : Value) (k : Nat) : Option Value := match x with | .tuple vs => vs[k]? | _ => none
theorem aExtract_sound (r : Rel μ h w) {x x' v : Value} {k : Nat} (hx : VR μ x x') (hl : aExtract x k = some v) : Does P (Instr.extract x' k) id nx μ h w v h := by
  unfold aExtract at hl
  split at hl
  · cases hx with
    | dat hd => simp [dat] at hd
    | tuple hc =>
      rename_i xs xs'
      obtain ⟨v', h1, h2⟩ := hc.get k v (by simpa using hl)
      refine Does.still r ?_ h2
      have : (⟨xs'⟩ : Array Value)[k]? = some v' := by simpa using h1
      simp [Instr.extract, this]
  · cases hl
def aAssert (P : Program) (x : Value) (asserted : TypeId) (ok : Bool) : Option Value :=
  match P.underlying asserted, x with
  | some (.interface want), .iface t v => match P.info? t with
    | some i => if Instr.missingMethod want i.methods = none then some (if ok then .tuple ⟨[.iface t v, .bool true]⟩ else .iface t v) else none
    | none => none
  | some (.interface want), .nilIface => if ok then (match aZero P asserted with | some z => if dat z = true then some (.tuple ⟨[z, .bool false]⟩) else none | none => none) else none
  | some _, .nilIface => if ok then (match aZero P asserted with | some z => if closed z = true then some (.tuple ⟨[z, .bool false]⟩) else none | none => none) else none
  | some _, .iface t v => if t = asserted then some (if ok then .tuple ⟨[v, .bool true]⟩ else v) else
      if ok then (match aZero P asserted with | some z => if closed z = true then some (.tuple ⟨[z, .bool false]⟩) else none | none => none) else none
  | _, _ => none
theorem aAssert_sound (r : Rel μ h w) {x x' v : Value} {xt at_ : TypeId} {ok : Bool} (hx : VR μ x x') (hl : aAssert P x at_ ok = some v) : Does P (Instr.typeAssert x' xt at_ ok) id nx μ h w v h := by
  unfold aAssert at hl
  split at hl
  · rename_i want t y hu
    cases hx with
    | dat hd => simp [dat] at hd
    | iface hy =>
      split at hl
      · rename_i i hi
        split at hl
        · rename_i hm
          cases ok
          · cases hl
            refine Does.still r ?_ (.iface hy)
            simp [Instr.typeAssert, run_underlying hu, typeInfo, hi, hm]
          · cases hl
            refine Does.still r ?_ (.tuple (.cons (.iface hy) (.cons (.dat rfl) .nil)))
            simp [Instr.typeAssert, run_underlying hu, typeInfo, hi, hm]
        · cases hl
      · cases hl
  · rename_i want hu
    cases hx.eq_of_dat rfl
    split at hl
    · split at hl
      · rename_i z hz
        split at hl
        · rename_i hd
          cases hl
          refine Does.still r ?_ (.tuple (.cons (.dat hd) (.cons (.dat rfl) .nil)))
          simp_all [Instr.typeAssert, run_underlying hu, aZero_run hz]
        · cases hl
      · cases hl
    · cases hl
  · rename_i d hd hu
    cases hx.eq_of_dat rfl
    split at hl
    · split at hl
      · rename_i z hz
        split at hl
        · rename_i hc
          cases hl
          refine Does.still r ?_ (.tuple (.cons (VR.of_closed hc) (.cons (.dat rfl) .nil)))
          cases d <;> simp_all [Instr.typeAssert, run_underlying hu, aZero_run hz]
        · cases hl
      · cases hl
    · cases hl
  · rename_i d t y hd hu
    cases hx with
    | dat hd' => simp [dat] at hd'
    | iface hy =>
      split at hl
      · rename_i ht
        subst ht
        cases ok
        · cases hl
          refine Does.still r ?_ hy
          cases d <;> simp_all [Instr.typeAssert, run_underlying hu]
        · cases hl
          refine Does.still r ?_ (.tuple (.cons hy (.cons (.dat rfl) .nil)))
          cases d <;> simp_all [Instr.typeAssert, run_underlying hu]
      · rename_i ht
        split at hl
        · split at hl
          · rename_i z hz
            split at hl
            · rename_i hc
              cases hl
              refine Does.still r ?_ (.tuple (.cons (VR.of_closed hc) (.cons (.dat rfl) .nil)))
              cases d <;> simp_all [Instr.typeAssert, run_underlying hu, aZero_run hz]
            · cases hl
          · cases hl
        · cases hl
  · cases hl
end
end Go.Ge
