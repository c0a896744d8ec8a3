/-
  Evaluation of closed calls, part D.
-/
import Derived.Test.YtbkdpdklpmcdgaaGeC
import Derived.Below
set_option linter.unusedVariables false
set_option linter.unusedSimpArgs false
/-
  Evaluation of closed calls: regions that draw their order do what was reckoned, whichever order is drawn.
-/
namespace Go.Ge

/-! ### an invariant of what is done -/
section gen
variable {F : Fence} {P : Program} {ops : Array Oper} {Q : Exit → Act → World → Prop}
def unl (ops : Array Oper) (listed : Array Bool) : Nat := (List.range ops.size).countP fun i => !listed.getD i true
theorem countP_lt {p q : Nat → Bool} : ∀ {l : List Nat} {i : Nat}, i ∈ l → p i = true → q i = false → (∀ j, q j = true → p j = true) → l.countP q < l.countP p
  | x :: l, i, hi, hp, hq, h => by
    have hle : l.countP q ≤ l.countP p := List.countP_mono_left fun j _ hj => h j hj
    rcases List.mem_cons.1 hi with rfl | hi
    · rw [List.countP_cons_of_pos hp, List.countP_cons_of_neg (by rw [hq]; simp)]
      omega
    · have := countP_lt hi hp hq h
      by_cases hqx : q x = true
      · rw [List.countP_cons_of_pos hqx, List.countP_cons_of_pos (h x hqx)]; omega
      · rw [List.countP_cons_of_neg hqx]
        by_cases hpx : p x = true
        · rw [List.countP_cons_of_pos hpx]; omega
        · rw [List.countP_cons_of_neg hpx]; exact this
theorem wpAnyIn_of (I : Array Bool → Act → World → Prop) (h : ∀ listed a w, I listed a w → listed.size = ops.size ∧ (Region.ready .any ops listed = [] → Q .normal a w) ∧ ∀ i ∈ Region.ready .any ops listed, wpOpIn F 0 P ops Q i (I (listed.setIfInBounds i true)) a w) :
    ∀ (fuel : Nat) (listed : Array Bool) (a : Act) (w : World), I listed a w → unl ops listed ≤ fuel → wpAnyIn F 0 P .any ops Q fuel listed a w
  | 0, listed, a, w, hI, hf => by
    obtain ⟨hs, h1, h2⟩ := h listed a w hI
    have hr : Region.ready .any ops listed = [] := by
      cases hc : Region.ready .any ops listed with
      | nil => rfl
      | cons i l =>
        have hi : i ∈ Region.ready .any ops listed := by rw [hc]; exact List.mem_cons_self ..
        rw [mem_ready] at hi
        obtain ⟨h0, o, ho, _⟩ := hi
        have hlt : i < ops.size := (Array.getElem?_eq_some_iff.1 ho).1
        have : 0 < unl ops listed := List.countP_pos_iff.2 ⟨i, List.mem_range.2 hlt, by simp [h0]⟩
        omega
    exact ⟨hr, h1 hr⟩
  | fuel + 1, listed, a, w, hI, hf => by
    obtain ⟨hs, h1, h2⟩ := h listed a w hI
    refine ⟨h1, fun i hi => wpOpIn_mono (fun a' w' hI' => wpAnyIn_of I h fuel _ a' w' hI' ?_) (h2 i hi)⟩
    rw [mem_ready] at hi
    obtain ⟨h0, o, ho, _⟩ := hi
    have hlt : i < ops.size := (Array.getElem?_eq_some_iff.1 ho).1
    have : unl ops (listed.setIfInBounds i true) < unl ops listed := by
      refine countP_lt (i := i) (List.mem_range.2 hlt) (by simp [h0]) ?_ fun j hj => ?_
      · simp [hs, hlt]
      · by_cases e : i = j
        · subst e; simp [hs, hlt] at hj
        · rw [getD_set_ne true e] at hj; exact hj
    omega
end gen

section
variable {P : Program} {E : Evs} {ops : Array Oper} {M : T Nat} {base n : Nat} {D : List Nat} {R0 : T Value} {h0 : Heap} {Vf : T Value} {Of : T AObj} {HK : AS}
def L (listed : Array Bool) (i : Nat) : Prop := listed.getD i false = true
def evAt (ops : Array Oper) (Vf : T Value) (R0 : T Value) (listed : Array Bool) (t : Tmp) : Option Value :=
  match wrF ops t (List.range ops.size) with
  | some y => if listed.getD y false = true then T.get 10 Vf y else rget R0 t
  | none => rget R0 t
structure FrAt (ops : Array Oper) (n : Nat) (D : List Nat) (Vf : T Value) (R0 : T Value) (listed : Array Bool) (μ : Mu) (a : Act) : Prop where
  sz : n ≤ a.tmps.size
  dn : DR μ D a.defers
  reg : ∀ t v, evAt ops Vf R0 listed t = some v → VR μ v (a.tmps.getD t undef)
theorem FrAt.mono {listed : Array Bool} {μ ν : Mu} {a : Act} (h : μ.le ν) (f : FrAt ops n D Vf R0 listed μ a) : FrAt ops n D Vf R0 listed ν a := ⟨f.sz, f.dn.mono h, fun t v ht => (f.reg t v ht).mono h⟩

theorem L_set {listed : Array Bool} {i j : Nat} (hs : i < listed.size) : L (listed.setIfInBounds i true) j ↔ L listed j ∨ j = i := by
  unfold L
  by_cases e : i = j
  · subst e; simp [hs]
  · rw [getD_set_ne false e]
    constructor
    · exact .inl
    · rintro (h | rfl)
      · exact h
      · exact absurd rfl e

theorem dstsOk_spec (hd : dstsOk ops n = true) {i : Nat} (hi : i < ops.size) {d : Tmp} (hdi : dstOf ops i = some d) : d < n ∧ d < 1024 ∧ wrF ops d (List.range ops.size) = some i := by
  have := List.all_eq_true.1 hd i (List.mem_range.2 hi)
  rw [hdi] at this
  simp at this
  exact ⟨this.1.1, this.1.2, this.2⟩

/-- behind an operation -/
theorem FrAt.put {listed : Array Bool} {μ : Mu} {a : Act} {i : Nat} {v v' : Value} (hd : dstsOk ops n = true) (hi : i < ops.size) (hs : listed.size = ops.size) (f : FrAt ops n D Vf R0 listed μ a) (hv : VR μ v v') (hV : T.get 10 Vf i = some v) {o : Oper} (ho : ops[i]? = some o) :
    FrAt ops n D Vf R0 (listed.setIfInBounds i true) μ (a.put o.dst v') := by
  have hdst : dstOf ops i = o.dst := by unfold dstOf; rw [ho]; rfl
  refine ⟨by cases o.dst <;> simp [Act.put]; exact f.sz; exact f.sz, by cases o.dst <;> exact f.dn, fun t u ht => ?_⟩
  unfold evAt at ht
  have other : o.dst ≠ some t → VR μ u (a.tmps.getD t undef) := by
    intro hne
    refine f.reg t u ?_
    unfold evAt
    split at ht
    · rename_i y hy
      have hyi : i ≠ y := by
        rintro rfl
        obtain ⟨_, h2⟩ := wrF_spec hy
        rw [hdst] at h2
        exact hne h2
      rw [getD_set_ne false hyi] at ht
      exact ht
    · exact ht
  cases hod : o.dst with
  | none => simp only [Act.put]; exact other (by rw [hod]; simp)
  | some d =>
    by_cases e : d = t
    · subst e
      obtain ⟨h1, h2, h3⟩ := dstsOk_spec hd hi (hdst.trans hod)
      rw [h3] at ht
      simp only at ht
      rw [if_pos (by simp [hs, hi])] at ht
      rw [hV] at ht
      cases ht
      have : d < a.tmps.size := Nat.lt_of_lt_of_le h1 f.sz
      simpa [Act.put, Array.getD_eq_getD_getElem?, this] using hv
    · have := other (by rw [hod]; simpa using e)
      simpa [Act.put, Array.getD_eq_getD_getElem?, Array.getElem?_setIfInBounds, e] using this

/-- operands of an operation that is ready -/
theorem FrAt.ev {ν : Mu} {w : World} (r0 : Rel ν h0 w) {listed : Array Bool} {μ : Mu} {a : Act} {i : Nat} {V : T Value} {O : T AObj} (hν : ν.le μ) (hsz : ops.size ≤ 1000) (f : FrAt ops n D Vf R0 listed μ a) (hle : Le2 V O Vf Of) (hdone : ∀ x, (msk M i).testBit x = true → L listed x) (hun : ¬ L listed i)
    (hcl : ∀ y, y < ops.size → L listed y → ∀ x, (msk M y).testBit x = true → L listed x) : EvR μ (evD ops M V R0 h0 i) a.eval := by
  intro x v hx
  cases x with
  | tmp t =>
    refine f.reg t v ?_
    simp only [evD] at hx
    unfold evAt
    split at hx
    · rename_i y hy
      rw [hy]
      simp only
      have hym := List.mem_range.1 (wrF_spec hy).1
      split at hx
      · rename_i hb
        rw [if_pos (show listed.getD y false = true from hdone y hb)]
        exact (hle y v (by omega) hx).1
      · split at hx
        · rename_i hc
          rw [if_neg]
          · exact hx
          · intro hL
            rcases hc with rfl | hc
            · exact hun hL
            · exact hun (hcl y hym hL i hc)
        · cases hx
    · rename_i hy; rw [hy]; exact hx
  | const u =>
    simp only [evD, aev] at hx
    split at hx
    · rename_i hc; cases hx; exact VR.of_closed hc
    · cases hx
  | func g => simp only [evD, aev] at hx; cases hx; exact .func (fun _ => by simp) .nil .nil
  | global g =>
    simp only [evD, aev] at hx
    split at hx
    · rename_i g' c hg
      split at hx
      · rename_i e
        subst e
        cases hx
        obtain ⟨q, hq, rfl, _⟩ := r0.live _ _ hg
        have := VR.ptr (o := 0) (hν _ _ hq)
        exact (by simpa using this : VR μ (.pointer (some ⟨g', 0, none⟩)) (.pointer (some ⟨g', 0, none⟩)))
      · cases hx
    · cases hx
theorem FrAt.wanted {listed : Array Bool} {μ : Mu} {a : Act} {i : Nat} {V : T Value} {O : T AObj} {o : Oper} {q : Bool} (hsz : ops.size ≤ 1000) (hd : dstsOk ops n = true) (f : FrAt ops n D Vf R0 listed μ a) (hle : Le2 V O Vf Of) (hdone : ∀ x, (msk M i).testBit x = true → L listed x)
    (hl : wantD ops M V i o = some q) : Region.wanted o (yielded ops a.tmps) = q := by
  unfold wantD at hl
  unfold Region.wanted
  split at hl
  · rename_i hg; cases hl; rw [hg]
  · rename_i j want hg
    rw [hg]
    split at hl
    · rename_i d hdj
      split at hl
      · rename_i hb
        split at hl
        · rename_i b hV
          cases hl
          have hjlt : j < ops.size := by
            unfold dstOf at hdj
            cases ho : ops[j]? with
            | none => rw [ho] at hdj; cases hdj
            | some o' => exact (Array.getElem?_eq_some_iff.1 ho).1
          obtain ⟨k1, k2, k3⟩ := dstsOk_spec hd hjlt hdj
          have hev : evAt ops Vf R0 listed d = some (.bool b) := by
            unfold evAt
            rw [k3]
            simp only
            rw [if_pos (show listed.getD j false = true from hdone j hb)]
            exact (hle j _ (by omega) hV).1
          have hv := (f.reg d _ hev).eq_of_dat rfl
          have hs : a.tmps[d]? = some (.bool b) := by
            rw [Array.getD_eq_getD_getElem?] at hv
            cases h : a.tmps[d]? with
            | none => rw [h] at hv; simp [undef] at hv
            | some x => rw [h] at hv; simp at hv; rw [hv]
          have hy : yielded ops a.tmps j = some b := by
            unfold yielded
            have : (ops[j]?).bind (·.dst) = some d := hdj
            rw [this]
            simp [hs]
          simp [hy]
        · rename_i hV
          cases hl
          have hjlt : j < ops.size := by
            unfold dstOf at hdj
            cases ho : ops[j]? with
            | none => rw [ho] at hdj; cases hdj
            | some o' => exact (Array.getElem?_eq_some_iff.1 ho).1
          obtain ⟨k1, k2, k3⟩ := dstsOk_spec hd hjlt hdj
          have hev : evAt ops Vf R0 listed d = some (.tuple ⟨[]⟩) := by
            unfold evAt
            rw [k3]
            simp only
            rw [if_pos (show listed.getD j false = true from hdone j hb)]
            exact (hle j _ (by omega) hV).1
          have hv : a.tmps.getD d undef = .tuple ⟨[]⟩ := by
            have := f.reg d _ hev
            generalize a.tmps.getD d undef = y at this ⊢
            cases this with
            | dat hd => simp [dat] at hd
            | tuple hc => cases hc; rfl
          have hy : yielded ops a.tmps j = none := by
            unfold yielded
            have : (ops[j]?).bind (·.dst) = some d := hdj
            rw [this]
            rw [Array.getD_eq_getD_getElem?] at hv
            cases h : a.tmps[d]? with
            | none => simp [h]
            | some x => rw [h] at hv; simp at hv; simp [h, hv]
          simp [hy]
        · cases hl
      · cases hl
    · cases hl

/-- what holds while a region is under way -/
structure Inv (P : Program) (E : Evs) (ops : Array Oper) (M : T Nat) (n : Nat) (D : List Nat) (R0 : T Value) (Vf : T Value) (Of : T AObj) (HK : AS) (μ₀ : Mu) (S₀ : AS) (w₀ : World) (listed : Array Bool) (a : Act) (w : World) (pre rest : List Nat) (H : AS) (μ : Mu) (f : Nat → Option AObj) : Prop where
  size : listed.size = ops.size
  closed : ∀ i o, i < ops.size → L listed i → ops[i]? = some o → ∀ e ∈ o.after, Region.binds .any e = true → L listed e.on
  split : bigs ops = pre ++ rest
  facts : Facts P E ops M S₀.nx R0 S₀.h Vf Of HK rest pre H
  done : ∀ d ∈ pre, L listed d
  todo : ∀ d ∈ rest, ¬ L listed d
  fr : FrAt ops n D Vf R0 listed μ a
  rel : RelF μ f w
  goes : GoesF S₀.nx μ₀ S₀.h w₀ μ f w
  base : S₀.nx + ops.size ≤ H.nx
  has : ∀ j o, H.h.get j = some o → f j = some o
  objs : ∀ y o, y < ops.size → L listed y → inD M pre y = false → T.get 10 Of y = some o → f (S₀.nx + y) = some o
  dom : ∀ i, H.nx ≤ i → i < 65536 → μ i = none
  names : ∀ y, y < ops.size → ¬ L listed y → μ (S₀.nx + y) = none
  small : ∀ j o, f j = some o → j < 65536
  absent : ∀ y, y < ops.size → y ∉ pre → inD M pre y = false → H.h.get (S₀.nx + y) = none
  bigO : ∀ d ∈ pre, T.get 10 Of d = none
  good0 : ∃ w₁, Good μ₀ S₀ w₁
  tabs : ∀ j o, S₀.h.get j = some o → o.isTab = true → H.h.get j = some o

theorem mem_bigs {d : Nat} (h : d ∈ bigs ops) : d < ops.size ∧ ∃ o, ops[d]? = some o ∧ isBig o.op = true := by
  unfold bigs at h
  rw [List.mem_filter] at h
  have hlt := List.mem_range.1 h.1
  refine ⟨hlt, ops[d], Array.getElem?_eq_getElem hlt, ?_⟩
  have := h.2
  rw [Array.getElem?_eq_getElem hlt] at this
  exact this

section main
variable {r : Option Nat} {μ₀ : Mu} {S₀ : AS} {w₀ : World} {listed : Array Bool} {a : Act} {w : World} {pre rest : List Nat} {H : AS} {μ : Mu} {f : Nat → Option AObj}
theorem Inv.inD_done (I : Inv P E ops M n D R0 Vf Of HK μ₀ S₀ w₀ listed a w pre rest H μ f) (hm : Made ops ops.size M) {d x : Nat} (hd : d < ops.size) (hL : L listed d) (hx : (msk M d).testBit x = true) : L listed x :=
  hm.done (L := L listed) I.closed d hd (fun o ho => I.closed d o hd hL ho) x hx
theorem Inv.pre_lt (I : Inv P E ops M n D R0 Vf Of HK μ₀ S₀ w₀ listed a w pre rest H μ f) {d : Nat} (h : d ∈ pre) : d < ops.size := (mem_bigs (by rw [I.split]; exact List.mem_append_left _ h)).1
/-- what is at hand for an operation that is ready lies in the heap -/
theorem Inv.at_sub (I : Inv P E ops M n D R0 Vf Of HK μ₀ S₀ w₀ listed a w pre rest H μ f) (hsz : ops.size ≤ 1000) (hlt : S₀.nx + ops.size < 65536) {i : Nat} {V : T Value} {O : T AObj} (hle : Le2 V O Vf Of) (hal : Al V O) (hdone : ∀ x, (msk M i).testBit x = true → L listed x) :
    ∀ j o, (heapAt ops M S₀.nx pre O H.h i).get j = some o → f j = some o := by
  intro j o hj
  rcases addO_get _ _ j o (fun y hy => by have := List.mem_range.1 hy; omega) hj with ⟨y, h1, rfl, h3, h4⟩ | h1
  · have hy := List.mem_range.1 h1
    simp only [selS, Bool.and_eq_true, Bool.not_eq_true'] at h3
    exact I.objs y o hy (hdone y h3.1) h3.2 (hle.obj hal (by omega) h4)
  · exact I.has j o h1
theorem Inv.lt (I : Inv P E ops M n D R0 Vf Of HK μ₀ S₀ w₀ listed a w pre rest H μ f) {j : Nat} {o : AObj} (hj : f j = some o) : j < H.nx := by
  rcases Nat.lt_or_ge j H.nx with h | h
  · exact h
  · obtain ⟨p, hp, _⟩ := I.rel.live j o hj
    rw [I.dom j h (I.small j o hj)] at hp
    cases hp
theorem closed_set (I : Inv P E ops M n D R0 Vf Of HK μ₀ S₀ w₀ listed a w pre rest H μ f) {i : Nat} (hi : i < ops.size) {o : Oper} (ho : ops[i]? = some o) (hp : ∀ e ∈ o.after, Region.binds .any e = true → listed.getD e.on false = true) :
    ∀ j o', j < ops.size → L (listed.setIfInBounds i true) j → ops[j]? = some o' → ∀ e ∈ o'.after, Region.binds .any e = true → L (listed.setIfInBounds i true) e.on := by
  intro j o' hj hL ho' e he hb
  have hs : i < listed.size := by rw [I.size]; exact hi
  rw [L_set hs] at hL ⊢
  rcases hL with hL | rfl
  · exact .inl (I.closed j o' hj hL ho' e he hb)
  · rw [ho] at ho'; cases ho'; exact .inl (hp e he hb)

theorem Facts.phase {rest pre : List Nat} {H : AS} (h : Facts P E ops M base R0 h0 Vf Of HK rest pre H) : PhaseFact P ops M base R0 h0 Vf Of pre rest H.h := by
  cases rest with
  | nil => exact h.1
  | cons d rest => exact h.1
theorem inD_snoc {y d : Nat} : inD M (pre ++ [d]) y = (inD M pre y || (msk M d).testBit y) := by simp [inD]

/-- an operation that changes nothing that is there -/
theorem inv_small (hE : EvsOk P E) (hm : Made ops ops.size M) (hsz : ops.size ≤ 1000) (hlt : S₀.nx + ops.size < 65536) (hd : dstsOk ops n = true) {Q : Exit → Act → World → Prop}
    (I : Inv P E ops M n D R0 Vf Of HK μ₀ S₀ w₀ listed a w pre rest H μ f) {i : Nat} {o : Oper} (hi : i < ops.size) (hun : ¬ L listed i) (ho : ops[i]? = some o) (hp : ∀ e ∈ o.after, Region.binds .any e = true → listed.getD e.on false = true) (hb : isBig o.op = false)
    {K : Act → World → Prop} (hK : ∀ a' w', (∃ pre rest H μ f, Inv P E ops M n D R0 Vf Of HK μ₀ S₀ w₀ (listed.setIfInBounds i true) a' w' pre rest H μ f) → K a' w') : wpOpIn (W r) 0 P ops Q i K a w := by
  have hdone := hm.done (L := L listed) I.closed i hi (fun o' ho' => by rw [ho] at ho'; cases ho'; exact hp)
  have hlive : live M pre rest i = true := by
    unfold live
    simp only [Bool.and_eq_true, List.all_eq_true, Bool.not_eq_true']
    refine ⟨fun d hd => ?_, ?_⟩
    · cases hc : (msk M i).testBit d with
      | false => rfl
      | true => exact absurd (hdone d hc) (I.todo d hd)
    · cases hc : inD M pre i with
      | false => rfl
      | true =>
        unfold inD at hc
        rw [List.any_eq_true] at hc
        obtain ⟨d, h1, h2⟩ := hc
        exact absurd (I.inD_done hm (I.pre_lt h1) (I.done d h1) h2) hun
  have hs : i < listed.size := by rw [I.size]; exact hi
  obtain ⟨V, O, o', v, hle, hal, ho', hr, hV⟩ := I.facts.phase i o hi ho hb hlive
  rw [ho] at ho'
  cases ho'
  have hev := I.fr.ev (Exists.choose_spec I.good0).rel I.goes.le hsz hle hdone hun (fun y hy hL => fun x hx => I.inD_done hm hy hL hx)
  have hnotpre : i ∉ pre := fun h => hun (I.done i h)
  have hset : ∀ j, L (listed.setIfInBounds i true) j ↔ L listed j ∨ j = i := fun j => L_set hs
  unfold smallR at hr
  split at hr
  · cases hr
  · rename_i hw
    split at hr
    · rename_i v' h' hop
      simp only [Option.some.injEq, Prod.mk.injEq] at hr
      obtain ⟨rfl, hob⟩ := hr
      have hwt := I.fr.wanted hsz hd hle hdone hw
      unfold wpOpIn
      simp only [ho, hwt, if_true]
      have hsub := I.at_sub hsz hlt hle hal hdone
      have hg : Good μ ⟨heapAt ops M S₀.nx pre O H.h i, H.nx⟩ w := ⟨I.rel.toRel hsub, I.dom⟩
      have hidn := I.names i hi hun
      have hidlt : S₀.nx + i < H.nx := by have := I.base; omega
      refine plain_wp (S := ⟨heapAt ops M S₀.nx pre O H.h i, H.nx⟩) hg hev hidn hidlt hop fun μ' u w' hu hbh => hK _ _ ?_
      have hfid : f (S₀.nx + i) = none := by
        cases hc : f (S₀.nx + i) with
        | none => rfl
        | some o => obtain ⟨p, h1, _⟩ := I.rel.live _ o hc; rw [hidn] at h1; cases h1
      have hother := fun j (hj : j ≠ S₀.nx + i) => small_only hb hop j hj
      obtain ⟨g, g1, g2, g3, g4, g5⟩ := step_in I.rel I.goes hsub hbh.goes hbh.good.rel (fun j o hj _ => ⟨I.lt hj, fun e => by subst e; rw [hfid] at hj; cases hj⟩) (by have := I.base; dsimp only; omega) (by omega)
      have hf : ∀ j o, f j = some o → g j = some o := by
        intro j o hj
        cases hh : (heapAt ops M S₀.nx pre O H.h i).get j with
        | none => exact g4 j o hj hh
        | some o2 =>
          have e := hsub j o2 hh
          rw [hj] at e
          cases e
          refine g3 j o ?_
          rw [hother j (fun e => by subst e; rw [hfid] at hj; cases hj)]
          exact hh
      refine ⟨pre, rest, H, μ', g, ⟨by simp [I.size], closed_set I hi ho hp, I.split, I.facts, fun d hd => (hset d).2 (.inl (I.done d hd)), fun d hd hL => ?_, (I.fr.mono hbh.goes.le).put hd hi I.size hu hV ho, g1, g2, I.base, fun j o hj => hf j o (I.has j o hj), fun y o2 hy hL hin hO => ?_, hbh.good.dom, fun y hy hL => ?_, fun j o hj => ?_, I.absent, I.bigO, I.good0, I.tabs⟩⟩
      · rcases (hset d).1 hL with h | rfl
        · exact I.todo d hd h
        · obtain ⟨_, o2, h1, h2⟩ := mem_bigs (by rw [I.split]; exact List.mem_append_right _ hd)
          rw [ho] at h1; cases h1; rw [hb] at h2; cases h2
      · rcases (hset y).1 hL with h | rfl
        · exact hf _ _ (I.objs y o2 hy h hin hO)
        · exact g3 _ _ (by rw [hob]; exact hO)
      · have hne : ¬ L listed y ∧ y ≠ i := by
          constructor
          · exact fun h => hL ((hset y).2 (.inl h))
          · exact fun h => hL ((hset y).2 (.inr h))
        rw [(hbh.goes.low (S₀.nx + y) (by have := I.base; dsimp only; omega) (by omega)).1]
        exact I.names y hy hne.1
      · rcases g5 j (by rw [hj]; simp) with h | h
        · cases hc : f j with
          | none => exact absurd hc h
          | some o2 => exact I.small j o2 hc
        · cases hc : h'.get j with
          | none => exact absurd hc h
          | some o2 => exact Heap.get_lt hc
    · cases hr
  · rename_i hw
    simp only [Option.some.injEq, Prod.mk.injEq] at hr
    obtain ⟨rfl, hob⟩ := hr
    have hwt := I.fr.wanted hsz hd hle hdone hw
    unfold wpOpIn
    simp only [ho, hwt, Bool.false_eq_true, if_false]
    refine ⟨fun _ _ => trivial, hK _ _ ⟨pre, rest, H, μ, f, ⟨by simp [I.size], closed_set I hi ho hp, I.split, I.facts, fun d hd => (hset d).2 (.inl (I.done d hd)), fun d hd hL => ?_, I.fr.put hd hi I.size undefVR hV ho, I.rel, I.goes, I.base, I.has, fun y o2 hy hL hin hO => ?_, I.dom, fun y hy hL => I.names y hy fun h => hL ((hset y).2 (.inl h)), I.small, I.absent, I.bigO, I.good0, I.tabs⟩⟩⟩
    · rcases (hset d).1 hL with h | rfl
      · exact I.todo d hd h
      · obtain ⟨_, o2, h1, h2⟩ := mem_bigs (by rw [I.split]; exact List.mem_append_right _ hd)
        rw [ho] at h1; cases h1; rw [hb] at h2; cases h2
    · rcases (hset y).1 hL with h | rfl
      · exact I.objs y o2 hy h hin hO
      · rw [← hob] at hO; cases hO
end main
end
end Go.Ge

/-
  Evaluation of closed calls: regions that draw their order: the operations that change what is there, the end.
-/
namespace Go.Ge

section
variable {P : Program} {E : Evs} {ops : Array Oper} {M : T Nat} {base n : Nat} {D : List Nat} {R0 : T Value} {h0 : Heap} {Vf : T Value} {Of : T AObj} {HK : AS}
variable {r : Option Nat} {μ₀ : Mu} {S₀ : AS} {w₀ : World} {listed : Array Bool} {a : Act} {w : World} {pre rest : List Nat} {H : AS} {μ : Mu} {f : Nat → Option AObj}

/-- an operation that may change what is there: it is the next of them -/
theorem inv_big (hE : EvsOk P E) (hm : Made ops ops.size M) (hsz : ops.size ≤ 1000) (hlt : S₀.nx + ops.size < 65536) (hd : dstsOk ops n = true) (hch : chainOk M (bigs ops) = true) {Q : Exit → Act → World → Prop}
    (I : Inv P E ops M n D R0 Vf Of HK μ₀ S₀ w₀ listed a w pre rest H μ f) {i : Nat} {o : Oper} (hi : i < ops.size) (hun : ¬ L listed i) (ho : ops[i]? = some o) (hp : ∀ e ∈ o.after, Region.binds .any e = true → listed.getD e.on false = true) (hb : isBig o.op = true)
    {K : Act → World → Prop} (hK : ∀ a' w', (∃ pre rest H μ f, Inv P E ops M n D R0 Vf Of HK μ₀ S₀ w₀ (listed.setIfInBounds i true) a' w' pre rest H μ f) → K a' w') : wpOpIn (W r) 0 P ops Q i K a w := by
  have hdone := hm.done (L := L listed) I.closed i hi (fun o' ho' => by rw [ho] at ho'; cases ho'; exact hp)
  have hs : i < listed.size := by rw [I.size]; exact hi
  have hset : ∀ j, L (listed.setIfInBounds i true) j ↔ L listed j ∨ j = i := fun j => L_set hs
  have himem : i ∈ bigs ops := by
    unfold bigs
    rw [List.mem_filter]
    refine ⟨List.mem_range.2 hi, ?_⟩
    rw [ho]
    exact hb
  have hirest : i ∈ rest := by
    rw [I.split] at himem
    rcases List.mem_append.1 himem with h | h
    · exact absurd (I.done i h) hun
    · exact h
  obtain ⟨rest', rfl⟩ : ∃ rest', rest = i :: rest' := by
    cases rest with
    | nil => cases hirest
    | cons d rest' =>
      rcases List.mem_cons.1 hirest with rfl | h
      · exact ⟨rest', rfl⟩
      · have hpw := chainOk_pair hch
        rw [I.split] at hpw
        have := (List.pairwise_cons.1 (List.pairwise_append.1 hpw).2.1).1 i h
        exact absurd (hdone d this) (I.todo d (List.mem_cons_self ..))
  have hnd : (bigs ops).Nodup := List.Pairwise.filter _ List.nodup_range
  have hinot : i ∉ rest' := by
    rw [I.split] at hnd
    exact (List.nodup_cons.1 (List.nodup_append.1 hnd).2.1).1
  have hipre : i ∉ pre := fun h => hun (I.done i h)
  obtain ⟨_, H', hbf, hfacts⟩ := I.facts
  obtain ⟨V, O, o', v, hle, hal, ho', hr, hV, hO⟩ := hbf
  rw [ho] at ho'
  cases ho'
  have hev := I.fr.ev (Exists.choose_spec I.good0).rel I.goes.le hsz hle hdone hun (fun y hy hL => fun x hx => I.inD_done hm hy hL hx)
  have hsub := I.at_sub hsz hlt hle hal hdone
  have hsplit : bigs ops = (pre ++ [i]) ++ rest' := by rw [I.split]; simp
  have hdone' : ∀ d ∈ pre ++ [i], L (listed.setIfInBounds i true) d := fun d hd => by
    rcases List.mem_append.1 hd with h | h
    · exact (hset d).2 (.inl (I.done d h))
    · exact (hset d).2 (.inr (by simpa using h))
  have htodo' : ∀ d ∈ rest', ¬ L (listed.setIfInBounds i true) d := fun d hd hL => by
    rcases (hset d).1 hL with h | rfl
    · exact I.todo d (List.mem_cons_of_mem _ hd) h
    · exact hinot hd
  have hbigO : ∀ d ∈ pre ++ [i], T.get 10 Of d = none := fun d hd => by
    rcases List.mem_append.1 hd with h | h
    · exact I.bigO d h
    · have : d = i := by simpa using h
      subst this; exact hO
  -- what is not at hand for it
  have hnone : ∀ y, y < ops.size → y ∉ pre → inD M (pre ++ [i]) y = false → (heapAt ops M S₀.nx pre O H.h i).get (S₀.nx + y) = none := by
    intro y hy hyp hin
    rw [inD_snoc, Bool.or_eq_false_iff] at hin
    refine addO_none _ _ _ (fun z hz => by have := List.mem_range.1 hz; omega) (I.absent y hy hyp hin.1) fun z hz e => ?_
    have : z = y := by omega
    subst this
    simp [selS, hin.2]
  have hobjs : ∀ y o2, y < ops.size → L (listed.setIfInBounds i true) y → inD M (pre ++ [i]) y = false → T.get 10 Of y = some o2 → f (S₀.nx + y) = some o2 ∧ (heapAt ops M S₀.nx pre O H.h i).get (S₀.nx + y) = none := by
    intro y o2 hy hL hin hO2
    have hin' := hin
    rw [inD_snoc, Bool.or_eq_false_iff] at hin'
    have hyi : y ≠ i := by rintro rfl; rw [hO] at hO2; cases hO2
    have hyp : y ∉ pre := fun h => by rw [I.bigO y h] at hO2; cases hO2
    have hLy : L listed y := by
      rcases (hset y).1 hL with h | h
      · exact h
      · exact absurd h hyi
    exact ⟨I.objs y o2 hy hLy hin'.1 hO2, hnone y hy hyp hin⟩
  have htab : ∀ j o2, S₀.h.get j = some o2 → o2.isTab = true → (heapAt ops M S₀.nx pre O H.h i).get j = some o2 := fun j o2 hj ht => by
    have hjlt : j < S₀.nx := by
      obtain ⟨w₁, g0⟩ := I.good0
      obtain ⟨p, hp, _⟩ := g0.rel.live j o2 hj
      rcases Nat.lt_or_ge j S₀.nx with h | h
      · exact h
      · rw [g0.dom j h (Heap.get_lt hj)] at hp; cases hp
    exact addO_keep _ _ j o2 (fun z hz => by have := List.mem_range.1 hz; omega) (fun z _ => by omega) (I.tabs j o2 hj ht)
  unfold bigR at hr
  split at hr
  · cases hr
  · rename_i hw
    have hwt := I.fr.wanted hsz hd hle hdone hw
    unfold wpOpIn
    simp only [ho, hwt, if_true]
    have hg : Good μ ⟨heapAt ops M S₀.nx pre O H.h i, H.nx⟩ w := ⟨I.rel.toRel hsub, I.dom⟩
    have hidn := I.names i hi hun
    have hbase := I.base
    refine opStep_wp hE (S := ⟨heapAt ops M S₀.nx pre O H.h i, H.nx⟩) hg hev hidn (by dsimp only; omega) hr fun μ' u w' hu hbh => hK _ _ ?_
    have hfid : f (S₀.nx + i) = none := by
      cases hc : f (S₀.nx + i) with
      | none => rfl
      | some o => obtain ⟨p, h1, _⟩ := I.rel.live _ o hc; rw [hidn] at h1; cases h1
    obtain ⟨g, g1, g2, g3, g4, g5⟩ := step_in I.rel I.goes hsub hbh.goes hbh.good.rel (fun j o hj _ => ⟨I.lt hj, fun e => by subst e; rw [hfid] at hj; cases hj⟩) (by dsimp only; omega) (by omega)
    have hnx := hbh.nx
    dsimp only at hnx
    refine ⟨pre ++ [i], rest', H', μ', g, ⟨by simp [I.size], closed_set I hi ho hp, hsplit, hfacts, hdone', htodo', (I.fr.mono hbh.goes.le).put hd hi I.size hu hV ho, g1, g2, by omega, g3, fun y o2 hy hL hin hO2 => ?_, hbh.good.dom, fun y hy hL => ?_, fun j o hj => ?_, fun y hy hyp hin => ?_, hbigO, I.good0, fun j o2 hj ht => hbh.goes.tabs j o2 (htab j o2 hj ht) ht⟩⟩
    · obtain ⟨k1, k2⟩ := hobjs y o2 hy hL hin hO2
      exact g4 _ _ k1 k2
    · have hne : ¬ L listed y ∧ y ≠ i := ⟨fun h => hL ((hset y).2 (.inl h)), fun h => hL ((hset y).2 (.inr h))⟩
      rw [(hbh.goes.low (S₀.nx + y) (by dsimp only; omega) (by omega)).1]
      exact I.names y hy hne.1
    · rcases g5 j (by rw [hj]; simp) with h | h
      · cases hc : f j with
        | none => exact absurd hc h
        | some o2 => exact I.small j o2 hc
      · cases hc : H'.h.get j with
        | none => exact absurd hc h
        | some o2 => exact Heap.get_lt hc
    · have hyi : y ≠ i := fun e => hyp (by rw [e]; simp)
      exact (hbh.goes.low (S₀.nx + y) (by dsimp only; omega) (by omega)).2 (hnone y hy (fun h => hyp (List.mem_append_left _ h)) hin)
  · rename_i hw
    simp only [Option.some.injEq, Prod.mk.injEq] at hr
    obtain ⟨rfl, rfl⟩ := hr
    have hwt := I.fr.wanted hsz hd hle hdone hw
    unfold wpOpIn
    simp only [ho, hwt, Bool.false_eq_true, if_false]
    refine ⟨fun _ _ => trivial, hK _ _ ⟨pre ++ [i], rest', _, μ, f, ⟨by simp [I.size], closed_set I hi ho hp, hsplit, hfacts, hdone', htodo', I.fr.put hd hi I.size undefVR hV ho, I.rel, I.goes, I.base, hsub, fun y o2 hy hL hin hO2 => (hobjs y o2 hy hL hin hO2).1, I.dom, fun y hy hL => I.names y hy fun h => hL ((hset y).2 (.inl h)), I.small, fun y hy hyp hin => ?_, hbigO, I.good0, htab⟩⟩⟩
    exact hnone y hy (fun h => hyp (List.mem_append_left _ h)) hin

theorem maskF_lt : ∀ (l : List Oper) (i : Nat) (M M' : T Nat), maskF l i M = some M' → ∀ j o, l[j]? = some o → ∀ e ∈ o.after, Region.binds .any e = true → e.on < i + j
  | [], i, M, M', _, j, o, ho => by simp at ho
  | o₀ :: os, i, M, M', h, j, o, ho => by
    simp only [maskF] at h
    split at h
    · rename_i s hs
      have hedge : ∀ (es : List Edge) (s : Nat), edgeMask M es i = some s → ∀ e ∈ es, Region.binds .any e = true → e.on < i := by
        intro es
        induction es with
        | nil => intro s _ e he; cases he
        | cons e₀ es ih =>
          intro s hs e he hb
          simp only [edgeMask] at hs
          split at hs
          · rename_i s' hs'
            rcases List.mem_cons.1 he with rfl | he
            · rw [if_pos hb] at hs
              split at hs
              · split at hs
                · assumption
                · cases hs
              · cases hs
            · exact ih s' hs' e he hb
          · cases hs
      cases j with
      | zero =>
        simp at ho
        subst ho
        intro e he hb
        exact hedge _ s hs e (by simpa using he) hb
      | succ j =>
        have := maskF_lt os (i + 1) _ M' h j o (by simpa using ho)
        intro e he hb
        have := this e he hb
        omega
    · cases h

theorem drawF_ok (P : Program) : DrOk P (drawF P) := by
  intro E hE r id ops n R S R' S' hl μ w D a g fr
  unfold drawF at hl
  split at hl
  · rename_i hc
    obtain ⟨hmix, hsz, hlt, hdst⟩ := hc
    split at hl
    · rename_i M hM
      split at hl
      · rename_i hch
        split at hl
        · rename_i Vf Of HK hph
          split at hl
          · rename_i R₁ hR
            cases hl
            have hmade : Made ops ops.size M := by
              have := maskF_made (ops := ops) ops.toList 0 .leaf M (fun j => by simp) (by simp; omega) (fun i x hi => by omega) hM
              simpa using this
            have hedge : ∀ i o, ops[i]? = some o → ∀ e ∈ o.after, Region.binds .any e = true → e.on < i := fun i o ho e he hb => by
              have := maskF_lt ops.toList 0 .leaf M hM i o (by simpa using ho) e he hb
              omega
            obtain ⟨_, _, hfacts⟩ := phF_ok hsz (bigs ops) [] ⟨S.h, S.nx + ops.size⟩ .leaf .leaf Vf Of HK (fun d hd => by have := (mem_bigs hd).1; omega) (fun i _ _ => T.get_leaf 10 i) hph
            have hrep : ∀ i, i < ops.size → (Array.replicate ops.size false).getD i false = false := fun i hi => by simp [hi]
            have hno : ∀ i, ¬ L (Array.replicate ops.size false) i := fun i h => by
              unfold L at h
              by_cases hi : i < ops.size
              · rw [hrep i hi] at h; cases h
              · simp [hi] at h
            have hS : ∀ j o, S.h.get j = some o → j < S.nx := fun j o hj => by
              obtain ⟨p, hp, _⟩ := g.rel.live j o hj
              rcases Nat.lt_or_ge j S.nx with h | h
              · exact h
              · rw [g.dom j h (Heap.get_lt hj)] at hp; cases hp
            refine wpIn_region_any hmix ?_
            refine wpAnyIn_of (fun listed a' w' => ∃ pre rest H μ' f, Inv P E ops M n D R Vf Of HK μ S w listed a' w' pre rest H μ' f) ?_ ops.size _ a _ ?_ (Nat.le_trans List.countP_le_length (by simp))
            · rintro listed a' w' ⟨pre, rest, H, μ', f, I⟩
              have hready : ∀ i ∈ Region.ready .any ops listed, ∃ o, i < ops.size ∧ ¬ L listed i ∧ ops[i]? = some o ∧ ∀ e ∈ o.after, Region.binds .any e = true → listed.getD e.on false = true := by
                intro i hi
                rw [mem_ready] at hi
                obtain ⟨h0, o, ho, hall⟩ := hi
                have hlt' := (Array.getElem?_eq_some_iff.1 ho).1
                refine ⟨o, hlt', fun hL => ?_, ho, hall⟩
                unfold L at hL
                have hsz' : i < listed.size := by rw [I.size]; exact hlt'
                simp [hsz'] at h0 hL
                rw [h0] at hL; cases hL
              refine ⟨I.size, fun hnil => ?_, fun i hi => ?_⟩
              · -- all is done
                have hall : ∀ i, i < ops.size → L listed i := by
                  intro i
                  induction i using Nat.strongRecOn with
                  | _ i ih =>
                    intro hi
                    by_cases hL : L listed i
                    · exact hL
                    · have : i ∈ Region.ready .any ops listed := by
                        rw [mem_ready]
                        have hsz' : i < listed.size := by rw [I.size]; exact hi
                        refine ⟨?_, ops[i], Array.getElem?_eq_getElem hi, fun e he hb => ?_⟩
                        · unfold L at hL
                          simp [hsz'] at hL ⊢
                          exact hL
                        · have := hedge i _ (Array.getElem?_eq_getElem hi) e he hb
                          exact ih e.on this (by omega)
                      rw [hnil] at this
                      cases this
                have hrest : rest = [] := by
                  cases rest with
                  | nil => rfl
                  | cons d rest' => exact absurd (hall d (mem_bigs (by rw [I.split]; simp)).1) (I.todo d (List.mem_cons_self ..))
                subst hrest
                have hpre : bigs ops = pre := by rw [I.split]; simp
                obtain ⟨_, rfl⟩ := I.facts
                have hsubf : ∀ j o, (addO S.nx Of (fun y => !inD M (bigs ops) y) (List.range ops.size) H.h).get j = some o → f j = some o := by
                  intro j o hj
                  rcases addO_get _ _ j o (fun y hy => by have := List.mem_range.1 hy; omega) hj with ⟨y, h1, rfl, h3, h4⟩ | h1
                  · have hy := List.mem_range.1 h1
                    rw [hpre] at h3
                    exact I.objs y o hy (hall y hy) (by simpa using h3) h4
                  · exact I.has j o h1
                have hgs := I.goes.sub (g := (addO S.nx Of (fun y => !inD M (bigs ops) y) (List.range ops.size) H.h).get) hsubf (fun j o hj ht => addO_keep _ _ j o (fun z hz => by have := List.mem_range.1 hz; omega) (fun z _ => by have := hS j o hj; omega) (I.tabs j o hj ht))
                refine ⟨rfl, μ', ⟨I.rel.toRel hsubf, I.dom⟩, ⟨I.fr.sz, fun t v ht => ?_, I.fr.dn⟩, ⟨hgs.le, hgs.news, fun i hi _ => hgs.low i hi, hgs.old, hgs.tabs, hgs.frame, hgs.size, hgs.os, hgs.tape, hgs.output⟩, by have := I.base; dsimp only; omega⟩
                refine I.fr.reg t v ?_
                unfold evAt
                rcases finR_get _ _ _ hR t v ht with ⟨y, h1, h2, h3⟩ | ⟨h1, h2⟩
                · have hy := List.mem_range.1 h1
                  obtain ⟨_, _, k3⟩ := dstsOk_spec hdst hy h2
                  rw [k3]
                  simp only
                  rw [if_pos (show listed.getD y false = true from hall y hy)]
                  exact h3
                · cases hwr : wrF ops t (List.range ops.size) with
                  | none => exact h2
                  | some y => exact absurd (wrF_spec hwr).2 (h1 y (wrF_spec hwr).1)
              · obtain ⟨o, h1, h2, h3, h4⟩ := hready i hi
                by_cases hb : isBig o.op = true
                · exact inv_big hE hmade hsz hlt hdst hch I h1 h2 h3 h4 hb fun _ _ h => h
                · exact inv_small hE hmade hsz hlt hdst I h1 h2 h3 h4 (by simpa using hb) fun _ _ h => h
            · refine ⟨[], bigs ops, ⟨S.h, S.nx + ops.size⟩, μ, S.h.get, ⟨by simp, fun i o _ hL => absurd hL (hno i), rfl, hfacts, fun d hd => (by cases hd), fun d _ => hno d, ⟨fr.sz, fr.dn, fun t v ht => ?_⟩, (g.rel.drew _).toF, ⟨Mu.le_refl _, fun _ _ e => .inl e, fun _ _ => ⟨rfl, fun h => h⟩, fun _ _ _ h => h, fun _ _ h _ => h, fun _ _ _ => rfl, Nat.le_refl _, rfl, rfl, rfl⟩, Nat.le_refl _, fun _ _ h => h, fun y o _ hL => absurd hL (hno y), fun i h1 h2 => g.dom i (by dsimp only at h1; omega) h2, fun y hy _ => g.dom _ (by omega) (by omega), fun j o hj => Heap.get_lt hj, fun y hy _ _ => ?_, fun d hd => (by cases hd), ⟨w, g⟩, fun _ _ h _ => h⟩⟩
              · refine fr.reg t v ?_
                unfold evAt at ht
                split at ht
                · rename_i y hy
                  have hym := List.mem_range.1 (wrF_spec hy).1
                  rw [hrep y hym] at ht
                  exact ht
                · exact ht
              · dsimp only
                cases hc : S.h.get (S.nx + y) with
                | none => rfl
                | some o => have := hS _ o hc; omega
          · cases hl
        · cases hl
      · cases hl
    · cases hl
  · cases hl
end
end Go.Ge

/-
  Evaluation of closed calls: a call without arguments that is reckoned to end in true does so in every world, and leaves what was there alone.
-/
namespace Go.Ge
open Go.RowKit

def saysTrue (x : Option (Value × AS)) : Bool := match x with | some (.bool true, _) => true | _ => false
theorem saysTrue_some {x : Option (Value × AS)} (h : saysTrue x = true) : ∃ S', x = some (.bool true, S') := by
  unfold saysTrue at h
  split at h
  · exact ⟨_, rfl⟩
  · cases h
theorem leaf_get (i : Nat) : Heap.get (.leaf : Heap) i = none := by
  unfold Heap.get
  split
  · exact T.get_leaf 16 i
  · rfl
theorem ground {P : Program} {k : Nat} {f : FuncId} (h : saysTrue ((lev P (drawF P) k).call f [] ⟨.leaf, 0⟩) = true) (w : World) :
    Calls P f #[] w fun e w' => e = .returned (.bool true) ∧ Below w.heap.size w w' := by
  obtain ⟨S', hc⟩ := saysTrue_some h
  have := (lev_ok (drawF_ok P) k).call f [] ⟨.leaf, 0⟩ _ S' hc (fun _ => none) w [] ⟨⟨fun i o hi => (by rw [leaf_get] at hi; cases hi), fun i j o o' p q hi => (by rw [leaf_get] at hi; cases hi)⟩, fun _ _ _ => rfl⟩ .nil
  refine (callsIn_wide (n := 0)).1 (CallsIn.mono this fun e w' he => ?_)
  obtain ⟨v', μ', rfl, hvr, _, hg, _⟩ := he
  rw [hvr.eq_of_dat rfl]
  exact ⟨rfl, hg.os, hg.tape, hg.output, hg.size, fun k hk => hg.frame k hk fun j o p hj => (by rw [leaf_get] at hj; cases hj)⟩

/-- tables that are there, by their blocks -/
def tabsH : List (Nat × List Value) → Heap
  | [] => .leaf
  | (g, c) :: l => (tabsH l).set g (some (.tab g c))
def tabsOk (n : Nat) : List (Nat × List Value) → Bool
  | [] => true
  | (g, c) :: l => decide (g < n) && c.all dat && !c.isEmpty && tabsOk n l
theorem tabsH_get {n : Nat} (hn : n ≤ 65536) : ∀ (l : List (Nat × List Value)), tabsOk n l = true → ∀ i o, (tabsH l).get i = some o → ∃ c, (i, c) ∈ l ∧ o = .tab i c ∧ i < n ∧ c.all dat = true ∧ c ≠ []
  | [], _, i, o, hi => by rw [show tabsH [] = .leaf from rfl, leaf_get] at hi; cases hi
  | (g, c) :: l, hk, i, o, hi => by
    simp only [tabsOk, Bool.and_eq_true, decide_eq_true_eq, Bool.not_eq_true', List.isEmpty_eq_false_iff] at hk
    obtain ⟨⟨⟨h1, h2⟩, h3⟩, h4⟩ := hk
    simp only [tabsH] at hi
    rw [Heap.get_set _ _ _ _ (by omega)] at hi
    split at hi
    · rename_i e; subst e; cases hi; exact ⟨c, List.mem_cons_self .., rfl, h1, h2, h3⟩
    · obtain ⟨c', k1, k2⟩ := tabsH_get hn l h4 i o hi; exact ⟨c', List.mem_cons_of_mem _ k1, k2⟩
theorem groundT {P : Program} {k n : Nat} {f : FuncId} (tabs : List (Nat × List Value)) (hk : tabsOk n tabs = true) (hn : n ≤ 65536) (h : saysTrue ((lev P (drawF P) k).call f [] ⟨tabsH tabs, n⟩) = true) (w : World)
    (hT : ∀ g c, (g, c) ∈ tabs → ∀ i v, c[i]? = some v → w.cell? ⟨g, i, none⟩ = some v) :
    Calls P f #[] w fun e w' => e = .returned (.bool true) ∧ Below w.heap.size w w' := by
  obtain ⟨S', hc⟩ := saysTrue_some h
  have hget := tabsH_get hn tabs hk
  have hgood : Good (fun i => if ((tabsH tabs).get i).isSome then some ⟨i, 0, 0, .nilFunc⟩ else none) ⟨tabsH tabs, n⟩ w := by
    refine ⟨⟨fun i o hi => ?_, fun i j o o' p q hi hj hp hq e => ?_⟩, fun i h1 h2 => ?_⟩
    · obtain ⟨c, h1, rfl, h2, h3, h4⟩ := hget i o hi
      refine ⟨⟨i, 0, 0, .nilFunc⟩, by simp [hi], rfl, ?_⟩
      have hcell := hT i c h1
      cases c with
      | nil => exact absurd rfl h4
      | cons v0 cs =>
        have h0 := hcell 0 v0 rfl
        simp only [World.cell?] at h0
        split at h0
        · rename_i c' e fz hb
          refine ⟨c', e, fz, hb, fun j v hj => ⟨?_, List.all_eq_true.1 h3 v (List.mem_of_getElem? hj)⟩⟩
          have := hcell j v hj
          simp only [World.cell?, hb] at this
          simpa using this
        · cases h0
    · simp only [hi, hj] at hp hq
      cases hp; cases hq
      exact e
    · cases hg : (tabsH tabs).get i with
      | none => simp
      | some o => obtain ⟨_, _, _, h3, _⟩ := hget i o hg; dsimp only at h1; omega
  have := (lev_ok (drawF_ok P) k).call f [] ⟨tabsH tabs, n⟩ _ S' hc _ w [] hgood .nil
  refine (callsIn_wide (n := 0)).1 (CallsIn.mono this fun e w' he => ?_)
  obtain ⟨v', μ', rfl, hvr, _, hg, _⟩ := he
  rw [hvr.eq_of_dat rfl]
  exact ⟨rfl, hg.os, hg.tape, hg.output, hg.size, fun k hk => hg.frame k hk fun j o p hj ht => (by obtain ⟨c, _, rfl, _⟩ := hget j o hj; cases ht)⟩
end Go.Ge

/-
  Evaluation of calls whose arguments are handed on and never looked into.
-/
namespace Go.Ge
open Go.RowKit

/-- the names of what is handed on: 70000 and more -/
def nameOf (h : Heap) (vals : List Value) : Mu := fun i =>
  if 70000 ≤ i then (match vals[i - 70000]? with | some v => some ⟨0, 0, 0, v⟩ | none => none)
  else if (h.get i).isSome then some ⟨i, 0, 0, .nilFunc⟩ else none
theorem opq_at {h : Heap} {vals : List Value} (k : Nat) {v : Value} (hv : vals[k]? = some v) (h1 : v.oneCell' = true) : VR (nameOf h vals) (.chan (some (70000 + k))) v := by
  have : nameOf h vals (70000 + k) = some ⟨0, 0, 0, v⟩ := by
    unfold nameOf
    rw [if_pos (by omega), show 70000 + k - 70000 = k by omega, hv]
  exact VR.opq this h1
theorem groundA {P : Program} {k n : Nat} {f : FuncId} (tabs : List (Nat × List Value)) (hk : tabsOk n tabs = true) (hn : n ≤ 65536) {args args' : List Value} (vals : List Value)
    (h : saysTrue ((lev P (drawF P) k).call f args ⟨tabsH tabs, n⟩) = true) (ha : VRs (nameOf (tabsH tabs) vals) args args') (w : World)
    (hT : ∀ g c, (g, c) ∈ tabs → ∀ i v, c[i]? = some v → w.cell? ⟨g, i, none⟩ = some v) :
    Calls P f args'.toArray w fun e w' => e = .returned (.bool true) ∧ Below w.heap.size w w' := by
  obtain ⟨S', hc⟩ := saysTrue_some h
  have hget := tabsH_get hn tabs hk
  have hlow : ∀ i, i < 65536 → nameOf (tabsH tabs) vals i = if ((tabsH tabs).get i).isSome then some ⟨i, 0, 0, .nilFunc⟩ else none := fun i hi => by
    unfold nameOf
    rw [if_neg (by omega)]
  have hgood : Good (nameOf (tabsH tabs) vals) ⟨tabsH tabs, n⟩ w := by
    refine ⟨⟨fun i o hi => ?_, fun i j o o' p q hi hj hp hq e => ?_⟩, fun i h1 h2 => ?_⟩
    · obtain ⟨c, h1, rfl, h2, h3, h4⟩ := hget i o hi
      refine ⟨⟨i, 0, 0, .nilFunc⟩, by rw [hlow i (Heap.get_lt hi)]; simp [hi], rfl, ?_⟩
      have hcell := hT i c h1
      cases c with
      | nil => exact absurd rfl h4
      | cons v0 cs =>
        have h0 := hcell 0 v0 rfl
        simp only [World.cell?] at h0
        split at h0
        · rename_i c' e fz hb
          refine ⟨c', e, fz, hb, fun j v hj => ⟨?_, List.all_eq_true.1 h3 v (List.mem_of_getElem? hj)⟩⟩
          have := hcell j v hj
          simp only [World.cell?, hb] at this
          simpa using this
        · cases h0
    · rw [hlow i (Heap.get_lt hi)] at hp
      rw [hlow j (Heap.get_lt hj)] at hq
      simp only [hi, hj] at hp hq
      cases hp; cases hq
      exact e
    · rw [hlow i h2]
      cases hg : (tabsH tabs).get i with
      | none => simp
      | some o => obtain ⟨_, _, _, h3, _⟩ := hget i o hg; dsimp only at h1; omega
  have := (lev_ok (drawF_ok P) k).call f args ⟨tabsH tabs, n⟩ _ S' hc _ w args' hgood ha
  refine (callsIn_wide (n := 0)).1 (CallsIn.mono this fun e w' he => ?_)
  obtain ⟨v', μ', rfl, hvr, _, hg, _⟩ := he
  rw [hvr.eq_of_dat rfl]
  exact ⟨rfl, hg.os, hg.tape, hg.output, hg.size, fun k hk => hg.frame k hk fun j o p hj ht => (by obtain ⟨c, _, rfl, _⟩ := hget j o hj; cases ht)⟩
end Go.Ge

/-
  Evaluation of closed calls with calls whose contract is known.
-/
namespace Go.Ge
open Go.RowKit

abbrev Kn := FuncId → List Value → AS → Option (Value × AS)
def KnOk (P : Program) (kn : Kn) : Prop := ∀ f args S v S', kn f args S = some (v, S') → ∀ μ w args', Good μ S w → VRs μ args args' → CallsIn (W none) 0 P f args'.toArray w (Ends μ S w v S')
def levK (P : Program) (dr : Drawn) (kn : Kn) : Nat → Evs
  | 0 => ⟨fun _ _ _ => none, fun _ _ _ => none⟩
  | k + 1 => ⟨fun f args S => match kn f args S with
      | some x => some x
      | none => callF P dr (levK P dr kn k) f args S, roundF P dr (levK P dr kn k)⟩
theorem levK_ok {P : Program} {dr : Drawn} {kn : Kn} (hD : DrOk P dr) (hK : KnOk P kn) : ∀ k, EvsOk P (levK P dr kn k)
  | 0 => ⟨fun _ _ _ _ _ h => (by cases h), fun _ _ _ _ _ h => (by cases h)⟩
  | k + 1 => ⟨fun f args S v S' h => by
      simp only [levK] at h
      split at h
      · rename_i x hx
        cases h
        exact hK f args S v S' hx
      · exact callF_ok hD (levK_ok hD hK k) f args S v S' h, roundF_ok hD (levK_ok hD hK k)⟩

section
variable {μ : Mu} {S : AS} {w w' : World} {v v' : Value}
theorem Good.below (g : Good μ S w) (hb : Below w.heap.size w w') : Good μ S w' := by
  refine ⟨⟨fun i o hi => ?_, g.rel.inj⟩, g.dom⟩
  obtain ⟨p, hp, ho⟩ := g.rel.live i o hi
  refine ⟨p, hp, ?_⟩
  rw [hb.block _ (g.rel.blk_lt hi hp)]
  exact ho
theorem ends_of_below (g : Good μ S w) (hv : VR μ v v') (hb : Below w.heap.size w w') : Ends μ S w v S (.returned v') w' :=
  ⟨v', μ, rfl, hv, g.below hb, ⟨Mu.le_refl _, fun _ _ e => .inl e, fun _ _ _ => ⟨rfl, fun h => h⟩, fun _ _ _ h => h, fun _ _ h _ => h, fun k hk _ => hb.block k hk, hb.size, hb.os, hb.tape, hb.output⟩, Nat.le_refl _⟩
theorem CallsIn.of_below {P : Program} {f : FuncId} {args : Array Value} (g : Good μ S w) (hv : VR μ v v') (h : Calls P f args w fun e w' => e = .returned v' ∧ Below w.heap.size w w') : CallsIn (W none) 0 P f args w (Ends μ S w v S) :=
  CallsIn.mono ((callsIn_wide (n := 0)).2 h) fun e w' ⟨he, hb⟩ => he ▸ ends_of_below g hv hb
end

/-! ### bytes that a slice reads -/
def bytes8 : List Value → Option (List UInt8)
  | [] => some []
  | .int .u8 n :: vs => match bytes8 vs with
    | some ns => if 0 ≤ n ∧ n < 256 then some (UInt8.ofNat n.toNat :: ns) else none
    | none => none
  | _ => none
theorem bytes8_eq : ∀ {cs : List Value} {ns : List UInt8}, bytes8 cs = some ns → cs = ns.map fun b => Value.int .u8 b.toNat
  | [], ns, hl => by simp only [bytes8] at hl; cases hl; rfl
  | v :: vs, ns, hl => by
    cases v <;> try (simp [bytes8] at hl; done)
    rename_i k n
    cases k <;> simp only [bytes8] at hl <;> try (cases hl; done)
    split at hl
    · rename_i ns' h1
      split at hl
      · rename_i hn
        cases hl
        rw [bytes8_eq h1]
        simp only [List.map_cons, List.cons.injEq, Value.int.injEq, true_and, and_true]
        have : (UInt8.ofNat n.toNat).toNat = n.toNat := by
          rw [UInt8.toNat_ofNat']
          omega
        rw [this]
        omega
      · cases hl
    · cases hl
theorem bytes8_dat (ns : List UInt8) : (ns.map fun b => Value.int .u8 b.toNat).all dat = true := by
  rw [List.all_eq_true]
  intro x hx
  obtain ⟨n, _, rfl⟩ := List.mem_map.1 hx
  rfl
/-- the bytes of a slice -/
def reads8 (h : Heap) : Value → Option (List UInt8)
  | .slice none 0 _ => some []
  | .slice (some ⟨b, o, sp⟩) len cap => match h.get b with
    | some (.cells c _ g) => if ((sp = none ∧ len ≤ cap) ∨ (sp = some o ∧ cap = 0 ∧ g = some 1)) ∧ o + len ≤ c.length then bytes8 ((c.drop o).take len) else none
    | _ => none
  | _ => none
/-- what is read is there, in the world -/
theorem reads8_eq {μ : Mu} {h : Heap} {w : World} (r : Rel μ h w) {x x' : Value} {m : List UInt8} (hx : VR μ x x') (hl : reads8 h x = some m) :
    ∃ q c, x' = .slice q m.length c ∧ (q = none → m = []) ∧ ∀ a, q = some a → m.length ≤ c ∧ a.spot = none ∧ a.block < w.heap.size ∧ ∀ (j : Nat) (v : Value), (m.map fun b => Value.int .u8 b.toNat)[j]? = some v → w.cell? (a.add j) = some v := by
  unfold reads8 at hl
  split at hl
  · cases hl
    cases hx.eq_of_dat rfl
    exact ⟨none, _, rfl, fun _ => rfl, fun a ha => (by cases ha)⟩
  · rename_i b o sp len cap
    split at hl
    · rename_i c t g hb
      split at hl
      · rename_i hn
        obtain ⟨hn1, hn2⟩ := hn
        have hcs := bytes8_eq hl
        have hlen : m.length = len := by
          have := congrArg List.length hcs
          rw [List.length_map, List.length_take, List.length_drop] at this
          omega
        have load : ∀ (p : Place), μ b = some p → ∀ (j : Nat) (v : Value), (m.map fun b => Value.int .u8 b.toNat)[j]? = some v → w.cell? ((⟨p.blk, o + p.disp, none⟩ : Addr).add j) = some v := by
          intro p hp
          obtain ⟨cs', hcl, hcr, hcc⟩ := r.span hb hp o len hn2
          rw [hcs] at hcr
          have := hcr.eq_of_dats (bytes8_dat m)
          subst this
          exact hcc
        have hne : ¬ (sp = some 0 ∧ cap = 1) := by
          rintro ⟨rfl, rfl⟩
          rcases hn1 with ⟨h1, _⟩ | ⟨_, h1, _⟩
          · cases h1
          · cases h1
        cases hx with
        | dat hd => simp [dat] at hd
        | slice hp =>
          refine ⟨_, _, by rw [hlen], fun h => (by cases h), fun a ha => ?_⟩
          cases ha
          rw [hlen]
          refine ⟨?_, rfl, r.blk_lt hb hp, load _ hp⟩
          rcases hn1 with ⟨_, h2⟩ | ⟨h1, _⟩
          · exact h2
          · cases h1
        | sliceG hp =>
          rename_i e p
          have hcap : len ≤ p.cap - e := by
            rcases hn1 with ⟨h1, _⟩ | ⟨h1, _, rfl⟩
            · cases h1
            · cases h1
              obtain ⟨c', fz, h2, hz, h3, h4⟩ := r.cells hb hp
              obtain ⟨h5, h6⟩ : c'.size = p.disp + p.cap * 1 ∧ c.length ≤ p.cap * 1 := h4
              omega
          refine ⟨_, _, by rw [hlen], fun h => (by cases h), fun a ha => ?_⟩
          cases ha
          rw [hlen]
          exact ⟨hcap, rfl, r.blk_lt hb hp, load _ hp⟩
        | sliceE => exact absurd ⟨rfl, rfl⟩ hne
      · cases hl
    · cases hl
  · cases hl

/-! ### bytes, reckoned one by one -/
def forceB : List UInt8 → List Value → Option (List Value)
  | [], acc => some acc.reverse
  | b :: bs, acc => match b.toNat with
    | 0 => forceB bs (.int .u8 0 :: acc)
    | k + 1 => forceB bs (.int .u8 (Int.ofNat (k + 1)) :: acc)
theorem forceB_eq : ∀ (l : List UInt8) (acc : List Value), forceB l acc = some (acc.reverse ++ l.map fun b => Value.int .u8 b.toNat)
  | [], acc => by simp [forceB]
  | b :: bs, acc => by
    unfold forceB
    split
    · rename_i h
      rw [forceB_eq]
      simp [h]
    · rename_i k h
      rw [forceB_eq]
      simp [h]

/-! ### calls that are reckoned to end in true -/
theorem groundE {P : Program} {E : Evs} (hE : EvsOk P E) {n : Nat} {f : FuncId} (tabs : List (Nat × List Value)) (hk : tabsOk n tabs = true) (hn : n ≤ 65536) {args args' : List Value} (vals : List Value)
    (h : saysTrue (E.call f args ⟨tabsH tabs, n⟩) = true) (ha : VRs (nameOf (tabsH tabs) vals) args args') (w : World)
    (hT : ∀ g c, (g, c) ∈ tabs → ∀ i v, c[i]? = some v → w.cell? ⟨g, i, none⟩ = some v) :
    Calls P f args'.toArray w fun e w' => e = .returned (.bool true) ∧ Below w.heap.size w w' := by
  obtain ⟨S', hc⟩ := saysTrue_some h
  have hget := tabsH_get hn tabs hk
  have hlow : ∀ i, i < 65536 → nameOf (tabsH tabs) vals i = if ((tabsH tabs).get i).isSome then some ⟨i, 0, 0, .nilFunc⟩ else none := fun i hi => by
    unfold nameOf
    rw [if_neg (by omega)]
  have hgood : Good (nameOf (tabsH tabs) vals) ⟨tabsH tabs, n⟩ w := by
    refine ⟨⟨fun i o hi => ?_, fun i j o o' p q hi hj hp hq e => ?_⟩, fun i h1 h2 => ?_⟩
    · obtain ⟨c, h1, rfl, h2, h3, h4⟩ := hget i o hi
      refine ⟨⟨i, 0, 0, .nilFunc⟩, by rw [hlow i (Heap.get_lt hi)]; simp [hi], rfl, ?_⟩
      have hcell := hT i c h1
      cases c with
      | nil => exact absurd rfl h4
      | cons v0 cs =>
        have h0 := hcell 0 v0 rfl
        simp only [World.cell?] at h0
        split at h0
        · rename_i c' e fz hb
          refine ⟨c', e, fz, hb, fun j v hj => ⟨?_, List.all_eq_true.1 h3 v (List.mem_of_getElem? hj)⟩⟩
          have := hcell j v hj
          simp only [World.cell?, hb] at this
          simpa using this
        · cases h0
    · rw [hlow i (Heap.get_lt hi)] at hp
      rw [hlow j (Heap.get_lt hj)] at hq
      simp only [hi, hj] at hp hq
      cases hp; cases hq
      exact e
    · rw [hlow i h2]
      cases hg : (tabsH tabs).get i with
      | none => simp
      | some o => obtain ⟨_, _, _, h3, _⟩ := hget i o hg; dsimp only at h1; omega
  have := hE.call f args ⟨tabsH tabs, n⟩ _ S' hc _ w args' hgood ha
  refine (callsIn_wide (n := 0)).1 (CallsIn.mono this fun e w' he => ?_)
  obtain ⟨v', μ', rfl, hvr, _, hg, _⟩ := he
  rw [hvr.eq_of_dat rfl]
  exact ⟨rfl, hg.os, hg.tape, hg.output, hg.size, fun k hk => hg.frame k hk fun j o p hj ht => (by obtain ⟨c, _, rfl, _⟩ := hget j o hj; cases ht)⟩
end Go.Ge

/-
  Evaluation of closed calls where a map with several entries is ranged over: all that may come of it, as a list.
-/
namespace Go.Ge
open Go.RowKit

/-! ### lists of what may come -/
def catO {α β : Type} (f : α → Option (List β)) : List α → Option (List β)
  | [] => some []
  | [a] => f a
  | a :: l => match f a with
    | some x => match catO f l with
      | some y => some (x ++ y)
      | none => none
    | none => none
theorem catO_mem {α β : Type} {f : α → Option (List β)} : ∀ {l : List α} {L : List β}, catO f l = some L → ∀ a ∈ l, ∃ x, f a = some x ∧ ∀ b ∈ x, b ∈ L
  | [], _, _, a, ha => by cases ha
  | [c], L, h, a, ha => by
    simp only [catO] at h
    obtain rfl : a = c := by simpa using ha
    exact ⟨L, h, fun b hb => hb⟩
  | c :: d :: l, L, h, a, ha => by
    simp only [catO] at h
    split at h
    · rename_i x hx
      split at h
      · rename_i y hy
        cases h
        rcases List.mem_cons.1 ha with rfl | ha
        · exact ⟨x, hx, fun b hb => List.mem_append_left _ hb⟩
        · obtain ⟨z, h1, h2⟩ := catO_mem hy a ha
          exact ⟨z, h1, fun b hb => List.mem_append_right _ (h2 b hb)⟩
      · cases h
    · cases h
def bindO {α β : Type} (x : Option (List α)) (f : α → Option (List β)) : Option (List β) := match x with
  | some l => catO f l
  | none => none
theorem bindO_some {α β : Type} {x : Option (List α)} {f : α → Option (List β)} {L : List β} (h : bindO x f = some L) : ∃ l, x = some l ∧ ∀ a ∈ l, ∃ y, f a = some y ∧ ∀ b ∈ y, b ∈ L := by
  unfold bindO at h
  split at h
  · exact ⟨_, rfl, catO_mem h⟩
  · cases h
def oneOf {α : Type} : Option (List α) → Option α
  | some [x] => some x
  | _ => none
theorem oneOf_some {α : Type} {o : Option (List α)} {x : α} (h : oneOf o = some x) : o = some [x] := by
  unfold oneOf at h
  split at h
  · cases h; rfl
  · cases h

structure EvsL where
  call : FuncId → List Value → AS → Option (List (Value × AS))
  round : Nat → List Value → AS → Option (List (Value × AS))
def EvsL.one (E : EvsL) : Evs := ⟨fun f a S => oneOf (E.call f a S), fun l a S => oneOf (E.round l a S)⟩
def EndsL (μ : Mu) (S : AS) (w : World) (L : List (Value × AS)) : Ending → World → Prop := fun e w' => ∃ o ∈ L, Ends μ S w o.1 o.2 e w'
structure EvsLOk (P : Program) (E : EvsL) : Prop where
  call : ∀ f args S L, E.call f args S = some L → ∀ μ w args', Good μ S w → VRs μ args args' → CallsIn (W none) 0 P f args'.toArray w (EndsL μ S w L)
  round : ∀ l args S L, E.round l args S = some L → ∀ μ w p args', Good μ S w → μ l = some p → VRs μ args args' →
    ∃ f tmps assign body, (Instr.yield p.blk args'.toArray).run P w = .ok (.round p.blk f tmps assign body) w ∧ RoundIn (W none) 0 P p.blk f tmps assign body w (EndsL μ S w L)
theorem EvsLOk.one {P : Program} {E : EvsL} (h : EvsLOk P E) : EvsOk P E.one := by
  refine ⟨fun f args S v S' hl μ w args' g ha => ?_, fun l args S v S' hl μ w p args' g hp ha => ?_⟩
  · refine CallsIn.mono (h.call f args S _ (oneOf_some hl) μ w args' g ha) fun e w' he => ?_
    obtain ⟨o, ho, he⟩ := he
    obtain rfl : o = (v, S') := by simpa using ho
    exact he
  · obtain ⟨f, tmps, assign, body, h1, h2⟩ := h.round l args S _ (oneOf_some hl) μ w p args' g hp ha
    refine ⟨f, tmps, assign, body, h1, RoundIn.mono h2 fun e w' he => ?_⟩
    obtain ⟨o, ho, he⟩ := he
    obtain rfl : o = (v, S') := by simpa using ho
    exact he

/-! ### the next entry, whichever -/
def pickNext (h : Heap) (b m since : Nat) (seen : Array Nat) (clock : Nat) : List MapEntry → Option (List (Value × Heap))
  | [] => some []
  | e :: es => if e.born < since then (match pickNext h b m since seen clock es with
    | some l => some ((.tuple ⟨[.bool true, e.key, e.val]⟩, h.set b (some (.iterM (some m) since (seen.push e.born) clock))) :: l)
    | none => none) else none
def aNextL (h : Heap) (it : Value) : Option (List (Value × Heap)) :=
  match aNext h it false with
  | some x => some [x]
  | none => match it with
    | .pointer (some ⟨b, 0, none⟩) => match h.get b with
      | some (.iterM (some m) since seen last) => match h.get m with
        | some (.map es clock) =>
          if (!seen.isEmpty && !es.isEmpty && es.all (fun e => decide (e.born ≥ last))) = true then none else
          match es.filter (fun e => !seen.contains e.born) with
          | [] => none
          | left => pickNext h b m since seen clock left
        | _ => none
      | _ => none
    | _ => none
theorem pickNext_mem {h : Heap} {b m since clock : Nat} {seen : Array Nat} : ∀ {es : List MapEntry} {l : List (Value × Heap)}, pickNext h b m since seen clock es = some l → ∀ e ∈ es, e.born < since ∧ (.tuple ⟨[.bool true, e.key, e.val]⟩, h.set b (some (.iterM (some m) since (seen.push e.born) clock))) ∈ l
  | [], l, hl, e, he => by cases he
  | c :: es, l, hl, e, he => by
    simp only [pickNext] at hl
    split at hl
    · rename_i hlt
      split at hl
      · rename_i l' h1
        cases hl
        rcases List.mem_cons.1 he with rfl | he
        · exact ⟨hlt, List.mem_cons_self ..⟩
        · obtain ⟨k1, k2⟩ := pickNext_mem h1 e he
          exact ⟨k1, List.mem_cons_of_mem _ k2⟩
      · cases hl
    · cases hl
section
variable {P : Program} {μ : Mu} {h : Heap} {w : World} {id nx : Nat}
theorem aNextL_sound (r : Rel μ h w) {t : TypeId} {it it' : Value} {l : List (Value × Heap)} (hx : VR μ it it') (hl : aNextL h it = some l) : ∃ x ∈ l, Does P (Instr.next it' false t) id nx μ h w x.1 x.2 := by
  unfold aNextL at hl
  split at hl
  · rename_i x hn
    cases hl
    exact ⟨x, List.mem_cons_self .., aNext_sound r hx hn⟩
  · split at hl
    · rename_i b hnone
      cases hx with
      | dat hd => simp [dat] at hd
      | ptr hp =>
        rename_i p
        split at hl
        · rename_i m since seen last hb
          obtain ⟨q, hq, hd, m', ho, q2, hm1, hm2⟩ : ∃ q, μ b = some q ∧ q.disp = 0 ∧ ∃ m', w.heap[q.blk]? = some (.mapIter m' since seen last) ∧ ∃ q2, μ m = some q2 ∧ m' = some q2.blk := r.live b _ hb
          rw [hp] at hq
          cases hq
          subst hm2
          have hg : (getObj p.blk).run P w = .ok (.mapIter (some q2.blk) since seen last) w := by simp [getObj, Sem.run, ho]
          split at hl
          · rename_i es clock hbm
            obtain ⟨es', h1, he⟩ := getObj_map r hbm hm1
            have hgm := run_getObj_map (P := P) h1
            split at hl
            · cases hl
            · rename_i hcond
              have hcond' : (!seen.isEmpty && !(⟨es'⟩ : Array MapEntry).isEmpty && (⟨es'⟩ : Array MapEntry).all (fun e => decide (e.born ≥ last))) = false := by
                have e1 : (⟨es'⟩ : Array MapEntry).isEmpty = es.isEmpty := by
                  have := he.length
                  cases es <;> cases es' <;> simp_all
                have e2 : (⟨es'⟩ : Array MapEntry).all (fun e => decide (e.born ≥ last)) = es.all (fun e => decide (e.born ≥ last)) := by
                  rw [← Array.all_toList]
                  exact he.all (p := fun n => decide (n ≥ last))
                rw [e1, e2]
                simpa using hcond
              have hf := he.filter (p := fun n => !seen.contains n)
              have hfa : (⟨es'⟩ : Array MapEntry).filter (fun e => !seen.contains e.born) = ⟨es'.filter fun e => !seen.contains e.born⟩ := Array.ext' (by simp)
              split at hl
              · cases hl
              · rename_i hne
                generalize es.filter (fun e => !seen.contains e.born) = left at hl hf hne
                have hnil : left ≠ [] := fun e => hne e
                generalize hleft' : es'.filter (fun e => !seen.contains e.born) = left' at hf
                have hlen := hf.length
                have hborn : ∀ (i : Nat) (e' : MapEntry), left'[i]? = some e' → ∃ e, left[i]? = some e ∧ e ∈ left ∧ VR μ e.key e'.key ∧ VR μ e.val e'.val ∧ e'.born = e.born := fun i e' hi => by
                  have hi' : i < left.length := by have := (List.getElem?_eq_some_iff.1 hi).1; omega
                  obtain ⟨e2, k1, k2, k3, k4⟩ := hf.get i left[i] (List.getElem?_eq_getElem hi')
                  rw [hi] at k1
                  cases k1
                  exact ⟨_, List.getElem?_eq_getElem hi', List.getElem_mem hi', k2, k3, k4⟩
                have hold : left'.filter (fun e => decide (e.born < since)) = left' := List.filter_eq_self.2 fun e' he' => by
                  obtain ⟨i, hi⟩ := List.mem_iff_getElem?.1 he'
                  obtain ⟨e, _, hm, _, _, hb'⟩ := hborn i e' hi
                  rw [hb']
                  exact decide_eq_true (pickNext_mem hl e hm).1
                have hnew : left'.filter (fun e => decide (e.born ≥ since)) = [] := List.filter_eq_nil_iff.2 fun e' he' => by
                  obtain ⟨i, hi⟩ := List.mem_iff_getElem?.1 he'
                  obtain ⟨e, _, hm, _, _, hb'⟩ := hborn i e' hi
                  have := (pickNext_mem hl e hm).1
                  rw [hb']
                  simpa using this
                have hne' : left'.isEmpty = false := by
                  cases left with
                  | nil => exact absurd rfl hnil
                  | cons a as => cases left' with
                    | nil => simp at hlen
                    | cons b bs => rfl
                have hlen0 : 0 < left'.length := by cases left' with | nil => simp at hne' | cons b bs => simp
                obtain ⟨j, w1, hj, hw1, hch⟩ : ∃ (j : Nat) (w1 : World), j < left'.length ∧ (∃ n, w1 = { w with drawn := n }) ∧ (choose (.mapNext left'.length)).run P w = .ok j w1 := by
                  rw [run_choose]
                  split
                  · exact ⟨0, w, hlen0, ⟨w.drawn, rfl⟩, rfl⟩
                  · exact ⟨_, _, Nat.mod_lt _ hlen0, ⟨_, rfl⟩, rfl⟩
                obtain ⟨n1, rfl⟩ := hw1
                obtain ⟨e, hej, hm, hk, hv, hb'⟩ := hborn j left'[j] (List.getElem?_eq_getElem hj)
                obtain ⟨μ', w', a, b1, b2⟩ := setObj_sound (P := P) (id := id) (nx := nx) (r.drew n1) (o' := .iterM (some m) since (seen.push e.born) clock) (ob := .mapIter (some q2.blk) since (seen.push e.born) clock) hb hp ho (fun _ _ _ => by simp) ⟨hd, _, rfl, q2, hm1, rfl⟩
                refine ⟨_, (pickNext_mem hl e hm).2, μ', .tuple ⟨[.bool true, left'[j].key, left'[j].val]⟩, w', ?_, .tuple (.cons (.dat rfl) (.cons (hk.mono b2.le) (.cons (hv.mono b2.le) .nil))), b1, ((Goes.refl id nx μ h w).drew n1).trans b2⟩
                have hcand : ((if (⟨left'⟩ : Array MapEntry).isEmpty = true then #[none] else #[] : Array (Option MapEntry)) ++ ((⟨left'⟩ : Array MapEntry) ++ (⟨[]⟩ : Array MapEntry)).map some) = (left'.map some).toArray := by
                  have : (⟨left'⟩ : Array MapEntry).isEmpty = false := by simpa using hne'
                  rw [this]
                  apply Array.ext'
                  simp
                have ho1 : (⟨left'⟩ : Array MapEntry).filter (fun e => decide (e.born < since)) = ⟨left'⟩ := Array.ext' (by simpa using hold)
                have ho2 : (⟨left'⟩ : Array MapEntry).filter (fun e => decide (e.born ≥ since)) = ⟨[]⟩ := Array.ext' (by simpa using hnew)
                unfold Instr.next
                simp only [hd, Nat.zero_add, Sem.run_bind, hg, hgm, Result.andThen_ok, hcond', hfa, hleft', ho1, ho2, hcand]
                have hsz : ((left'.map some).toArray : Array (Option MapEntry)).size = left'.length := by simp
                simp only [Bool.false_eq_true, if_false, Sem.run_bind, hsz, hch, Result.andThen_ok]
                have hget : ((left'.map some).toArray : Array (Option MapEntry))[j]? = some (some left'[j]) := by simp [hj]
                simp only [Sem.run_pure, Result.andThen_ok, hget, Sem.run_bind, hb', a]
          · cases hl
        · cases hl
    · cases hl
end
end Go.Ge

/-
  Evaluation of closed calls, all that may come: operations, regions, code.
-/
namespace Go.Ge
open Go.RowKit

def opL (P : Program) (E : EvsL) (ev : Operand → Option Value) (id : Nat) (o : Oper) (S : AS) : Option (List (Value × AS)) :=
  match o.op with
  | .call c =>
    match c.callee with
    | .value f =>
      match ev f, evL ev c.args.toList with
      | some (.func (.func g) first captured), some args => if enterOk P g = true then E.call g (first.toList ++ args ++ captured.toList) S else none
      | some (.func (.yield l) first captured), some args => if first.toList.isEmpty = true ∧ captured.toList.isEmpty = true then E.round l args S else none
      | _, _ => none
    | .builtin b => match aop P id S.h ev o.op with
      | some (v, h) => some [(v, ⟨h, S.nx⟩)]
      | none => none
    | .invoke _ _ => none
  | .next it false => match ev it with
    | some v => match aNextL S.h v with
      | some l => some (l.map fun x => (x.1, ⟨x.2, S.nx⟩))
      | none => none
    | none => none
  | _ => match aop P id S.h ev o.op with
    | some (v, h) => some [(v, ⟨h, S.nx⟩)]
    | none => none

section
variable {P : Program} {μ : Mu} {w : World} {R R' : T Value} {F F' : Fs} {n : Nat} {D : List Nat} {a : Act} {S S' : AS}

theorem opL_wp {E : EvsL} (hE : EvsLOk P E) {r : Option Nat} {ev : Operand → Option Value} {id : Nat} {o : Oper} {L : List (Value × AS)} {K : Act → World → Prop} {Q : Exit → Act → World → Prop}
    (g : Good μ S w) (hev : EvR μ ev a.eval) (hid : μ id = none) (hlt : id < S.nx) (hl : opL P E ev id o S = some L)
    (hK : ∀ x ∈ L, ∀ μ' v' w', VR μ' x.1 v' → Behind id μ S w μ' x.2 w' → K (a.put o.dst v') w') : o.wpIn (W r) 0 P a w K Q := by
  have plain : (match aop P id S.h ev o.op with
      | some (v, h) => some [(v, (⟨h, S.nx⟩ : AS))]
      | none => none) = some L → o.wpIn (W r) 0 P a w K Q := by
    intro hl
    split at hl
    · rename_i v' h' hop
      cases hl
      exact plain_wp g hev hid hlt hop (hK _ (List.mem_cons_self ..))
    · cases hl
  unfold opL at hl
  split at hl
  · rename_i c hop
    split at hl
    · rename_i f hc
      have hsem : o.semAt (W r).round a.eval = (do let d ← resolve a.eval c o.type; invoke d.target d.args) := by
        rw [Oper.semAt_eq _ _ _ (fun c' e => by rw [hop] at e; cases e)]
        unfold execOp
        rw [hop]
      split at hl
      · rename_i g' first captured args hf hargs
        split at hl
        · rename_i hok
          have hfv := hev _ _ hf
          have hav := evL_rel hev _ _ hargs
          have e1 : c.args.map a.eval = (c.args.toList.map a.eval).toArray := Array.ext' (by simp)
          obtain ⟨xs', ys', hval, hxs, hys⟩ : ∃ xs' ys' : List Value, a.eval f = .func (.func g') ⟨xs'⟩ ⟨ys'⟩ ∧ VRs μ first.toList xs' ∧ VRs μ captured.toList ys' := by
            generalize a.eval f = fv at hfv
            cases hfv with
            | dat hd => simp [dat] at hd
            | func _ h1 h2 => exact ⟨_, _, rfl, h1, h2⟩
          refine ⟨fun _ _ => trivial, ?_⟩
          rw [hsem]
          have hrun : (do let d ← resolve a.eval c o.type; invoke d.target d.args : Sem Next).run P w = .ok (.enter g' (xs' ++ c.args.toList.map a.eval ++ ys').toArray) w := by
            simp [resolve, hc, hval, Deferred.ofValue, invoke, enterOk_run hok]
          rw [hrun]
          refine ⟨fun hd => (by cases hd), ?_⟩
          refine CallsIn.mono (hE.call _ _ _ _ hl μ w _ g ((hxs.append hav).append hys)) fun e w' he => ?_
          obtain ⟨x, hx, he⟩ := he
          obtain ⟨v', μ', rfl, hv, hb⟩ := Behind.of_ends hlt he
          exact hK x hx μ' v' w' hv hb
        · cases hl
      · rename_i l first captured args hf hargs
        split at hl
        · rename_i hempty
          have hfv := hev _ _ hf
          have hav := evL_rel hev _ _ hargs
          have e1 : c.args.map a.eval = (c.args.toList.map a.eval).toArray := Array.ext' (by simp)
          obtain ⟨p, hp, hval⟩ : ∃ p, μ l = some p ∧ a.eval f = .func (.yield p.blk) #[] #[] := by
            generalize a.eval f = fv at hfv
            cases hfv with
            | dat hd => simp [dat] at hd
            | func h _ _ => exact absurd rfl (h l)
            | yield hp => exact ⟨_, hp, rfl⟩
          obtain ⟨f', tmps, assign, body, hy, hround⟩ := hE.round _ _ _ _ hl μ w p _ g hp hav
          refine ⟨fun _ _ => trivial, ?_⟩
          rw [hsem]
          have hrun : (do let d ← resolve a.eval c o.type; invoke d.target d.args : Sem Next).run P w = .ok (.round p.blk f' tmps assign body) w := by
            simp [resolve, hc, hval, Deferred.ofValue, invoke]
            rw [e1]
            exact hy
          rw [hrun]
          refine ⟨fun hd => (by cases hd), ?_⟩
          refine RoundIn.mono hround fun e w' he => ?_
          obtain ⟨x, hx, he⟩ := he
          obtain ⟨v', μ', rfl, hv, hb⟩ := Behind.of_ends hlt he
          exact hK x hx μ' v' w' hv hb
        · cases hl
      · cases hl
    · exact plain hl
    · cases hl
  · rename_i it hop
    split at hl
    · rename_i v hv
      split at hl
      · rename_i l hn
        cases hl
        obtain ⟨x, hx, hd⟩ := aNextL_sound (P := P) (id := id) (nx := max 65536 S.nx) (t := o.type) g.rel (hev _ _ hv) hn
        have hdo : DoesOp P (execOp a.eval o) id (max 65536 S.nx) μ S.h w x.1 x.2 := by
          unfold execOp
          rw [hop]
          exact hd.op
        obtain ⟨μ', v', w', hrun, hv', hr, hg⟩ := hdo
        refine ⟨fun _ _ => trivial, ?_⟩
        rw [Oper.semAt_eq _ _ _ (fun c e => by rw [hop] at e; cases e)]
        have hb : Behind id μ S w μ' ⟨x.2, S.nx⟩ w' := ⟨⟨hr, fun i h1 h2 => by dsimp only at h1; rw [(hg.low i (by omega) (by omega)).1]; exact g.dom i h1 h2⟩, hg.mono (by omega) (.inl rfl), Nat.le_refl _⟩
        have hm : (x.1, (⟨x.2, S.nx⟩ : AS)) ∈ l.map fun x => (x.1, (⟨x.2, S.nx⟩ : AS)) := List.mem_map.2 ⟨x, hx, rfl⟩
        rcases hrun with hrun | ⟨hrun, hu⟩
        · rw [hrun]; exact hK _ hm μ' v' w' hv' hb
        · rw [hrun]; subst hu; exact hK _ hm μ' undef w' hv' hb
      · cases hl
    · cases hl
  · exact plain hl

/-! ### regions in order -/
def seqL (P : Program) (E : EvsL) (ops : Array Oper) (n : Nat) : List Nat → T Value → AS → Option (List (T Value × AS))
  | [], R, S => some [(R, S)]
  | i :: rest, R, S =>
    match ops[i]? with
    | none => none
    | some o =>
      match wantedB R ops o with
      | some true =>
        if S.nx < 65536 then
          bindO (opL P E (aev R S.h) S.nx o ⟨S.h, S.nx + 1⟩) fun x => match rput R n o.dst x.1 with
            | some R' => seqL P E ops n rest R' x.2
            | none => none
        else none
      | some false => match rput R n o.dst undef with
        | some R' => seqL P E ops n rest R' S
        | none => none
      | none => none
theorem seqL_wp {E : EvsL} (hE : EvsLOk P E) {r : Option Nat} {ops : Array Oper} {Q : Exit → Act → World → Prop} : ∀ (l : List Nat) (μ : Mu) (R : T Value) (S : AS) (a : Act) (w : World) (L : List (T Value × AS)),
    Good μ S w → FrR μ R n D a → seqL P E ops n l R S = some L → (∀ x ∈ L, ∀ μ' a' w', Past μ S w n μ' ⟨x.1, D⟩ x.2 a' w' → Q .normal a' w') → wpOpsIn (W r) 0 P ops Q l a w
  | [], μ, R, S, a, w, L, g, f, hl, hQ => by
    simp only [seqL] at hl
    cases hl
    exact hQ _ (List.mem_cons_self ..) μ a w ⟨g, f, Goes.refl _ _ _ _ _, Nat.le_refl _⟩
  | i :: rest, μ, R, S, a, w, L, g, f, hl, hQ => by
    simp only [seqL] at hl
    simp only [wpOpsIn]
    split at hl
    · cases hl
    · rename_i o ho
      rw [ho]
      simp only
      split at hl
      · rename_i hw
        rw [if_pos (wantedB_eq f hw)]
        split at hl
        · rename_i hlt
          obtain ⟨L₁, hop, hall⟩ := bindO_some hl
          refine opL_wp hE (S := ⟨S.h, S.nx + 1⟩) ⟨g.rel, fun i h1 h2 => g.dom i (by simp at h1; omega) h2⟩ (f.ev g.rel) (g.dom _ (Nat.le_refl _) hlt) (Nat.lt_succ_self _) hop fun x hx μ' v' w' hv hb => ?_
          obtain ⟨y, hy, hin⟩ := hall x hx
          split at hy
          · rename_i R₁ hR
            have hp : Past μ S w n μ' ⟨R₁, D⟩ x.2 (a.put o.dst v') w' := ⟨hb.good, (f.mono hb.goes.le).put hv hR, hb.goes.mono (Nat.le_succ _) (.inl rfl), by have := hb.nx; simp at this; omega⟩
            exact seqL_wp hE rest μ' R₁ x.2 _ w' y hp.good hp.fr hy fun z hz μ₂ a₂ w₂ h2 => hQ z (hin z hz) μ₂ a₂ w₂ (hp.trans h2)
          · cases hy
        · cases hl
      · rename_i hw
        rw [if_neg (by rw [wantedB_eq f hw]; simp)]
        split at hl
        · rename_i R₁ hR
          have hp : Past μ S w n μ ⟨R₁, D⟩ S (a.put o.dst undef) w := ⟨g, f.put undefVR hR, Goes.refl _ _ _ _ _, Nat.le_refl _⟩
          exact ⟨fun _ _ => trivial, seqL_wp hE rest μ R₁ S _ w L g hp.fr hl fun z hz μ₂ a₂ w₂ h2 => hQ z hz μ₂ a₂ w₂ (hp.trans h2)⟩
        · cases hl
      · cases hl

/-! ### code -/
abbrev CR := AX × Fs × AS
def loopL (f : Fs → AS → Option (List CR)) : Nat → Fs → AS → Option (List CR)
  | 0, _, _ => none
  | m + 1, R, S => bindO (f R S) fun x => match x with
    | (.normal, R', S') => loopL f m R' S'
    | x => some [x]
def scopeL (f : Code → Fs → AS → Option (List CR)) (body : Code) : Nat → Code → Fs → AS → Option (List CR)
  | 0, _, _, _ => none
  | m + 1, c, R, S => bindO (f c R S) fun x => match x with
    | (.goto l, R', S') => match findLabel body l with
      | some rest => scopeL f body m rest R' S'
      | none => some [(.goto l, R', S')]
    | x => some [x]
def outBlock (id : Nat) : CR → CR
  | (.exit id', F, S) => if id' = id then (.normal, F, S) else (.exit id', F, S)
  | x => x
def codeL (P : Program) (dr : Drawn) (E : EvsL) (n : Nat) (rd : Option Nat) : Nat → Code → Fs → AS → Option (List CR)
  | 0, _, _, _ => none
  | k + 1, c, F, S =>
    match c with
    | .skip => some [(.normal, F, S)]
    | .label _ => some [(.normal, F, S)]
    | .region _ ops false => match seqL P E ops n (List.range ops.size) F.R S with
      | some l => some (l.map fun x => (.normal, ⟨x.1, F.D⟩, x.2))
      | none => none
    | .region _ ops true => match dr E.one ops n F.R S with
      | some (R', S') => some [(.normal, ⟨R', F.D⟩, S')]
      | none => none
    | .seq a b => bindO (codeL P dr E n rd k a F S) fun x => match x with
      | (.normal, F', S') => codeL P dr E n rd k b F' S'
      | x => some [x]
    | .cond c a b => match aev F.R S.h c with
      | some (.bool true) => codeL P dr E n rd k a F S
      | some (.bool false) => codeL P dr E n rd k b F S
      | _ => none
    | .block id b => match codeL P dr E n rd k b F S with
      | some l => some (l.map (outBlock id))
      | none => none
    | .loop b => loopL (codeL P dr E n rd k b) 100000 F S
    | .exit id => some [(.exit id, F, S)]
    | .goto l => some [(.goto l, F, S)]
    | .ret => some [(.ret, F, S)]
    | .scope b => scopeL (codeL P dr E n rd k) b 100000 b F S
    | .rangeFunc g ps assign body =>
      match aev F.R S.h g with
      | some (.func (.func f) first captured) =>
        if enterOk P f = true then
          match enterF n rd ps assign body F S with
          | some (l, F₁, S₁) =>
            bindO (E.call f (first.toList ++ [.func (.yield l) #[] #[]] ++ captured.toList) S₁) fun x => match endF l x.2 with
              | some (none, S₃) => some [(.normal, F₁, S₃)]
              | some (some c, S₃) => codeL P dr E n rd k c F₁ S₃
              | none => none
          | none => none
        else none
      | _ => none
    | .refuse _ => none

/-- one of these is how it ends -/
def RunsL (μ : Mu) (S : AS) (w : World) (n : Nat) (L : List CR) : Exit → Act → World → Prop := fun e a' w' => ∃ x ∈ L, Runs μ S w n x.1 x.2.1 x.2.2 e a' w'
theorem RunsL.trans {μ₁ : Mu} {S₁ : AS} {R₁ : Fs} {a₁ : Act} {w₁ : World} {L L' : List CR} {e : Exit} {a₂ : Act} {w₂ : World} (h : Past μ S w n μ₁ R₁ S₁ a₁ w₁) (h2 : RunsL μ₁ S₁ w₁ n L e a₂ w₂) (hs : ∀ x ∈ L, x ∈ L') : RunsL μ S w n L' e a₂ w₂ := by
  obtain ⟨x, hx, h2⟩ := h2
  exact ⟨x, hs x hx, Runs.trans h h2⟩
def CodeLOk (P : Program) (n : Nat) (rd : Option Nat) (c : Code) (f : Fs → AS → Option (List CR)) : Prop := ∀ r (F : Fs) S L μ a w, f F S = some L → RdR μ rd r → Good μ S w → FrR μ F.R n F.D a → c.wpIn (W r) 0 P (RunsL μ S w n L) a w

section code
variable {dr : Drawn} {E : EvsL}
theorem loopL_ok {rd : Option Nat} {c : Code} {f : Fs → AS → Option (List CR)} (hf : CodeLOk P n rd c f) (m : Nat) : CodeLOk P n rd (.loop c) (loopL f m) := by
  intro r R S L μ a w hl hrd g fr
  refine wpIn_loop_n (J := fun m a₁ w₁ => ∃ μ₁ R₁ S₁ L₁, loopL f m R₁ S₁ = some L₁ ∧ (∀ x ∈ L₁, x ∈ L) ∧ Past μ S w n μ₁ R₁ S₁ a₁ w₁) (fun m a₁ w₁ hJ => ?_) ⟨μ, R, S, L, hl, fun _ h => h, g, fr, Goes.refl _ _ _ _ _, Nat.le_refl _⟩
  obtain ⟨μ₁, R₁, S₁, L₁, hl₁, hin, hp⟩ := hJ
  cases m with
  | zero => simp only [loopL] at hl₁; cases hl₁
  | succ m =>
    refine ⟨m, rfl, ?_⟩
    simp only [loopL] at hl₁
    obtain ⟨L₂, hb, hall⟩ := bindO_some hl₁
    refine wpIn_mono (hf r _ _ _ _ _ _ hb (hrd.mono hp.goes.le) hp.good hp.fr) fun e a₂ w₂ h2 => ?_
    obtain ⟨⟨x, R₂, S₂⟩, hx, h2⟩ := h2
    obtain ⟨y, hy, hyin⟩ := hall _ hx
    have h3 := Runs.trans hp h2
    obtain ⟨rfl, μ₂, h4⟩ := h2
    cases x with
    | normal => exact ⟨μ₂, R₂, S₂, y, hy, fun z hz => hin z (hyin z hz), hp.trans h4⟩
    | exit id => cases hy; exact ⟨_, hin _ (hyin _ (List.mem_cons_self ..)), h3⟩
    | goto l => cases hy; exact ⟨_, hin _ (hyin _ (List.mem_cons_self ..)), h3⟩
    | ret => cases hy; exact ⟨_, hin _ (hyin _ (List.mem_cons_self ..)), h3⟩

theorem inScopeWp_mono {FF : Fence} {body c : Code} {Q Q' : Exit → Act → World → Prop} (h : inScopeWp FF P body c Q a w) (hq : ∀ e a w, Q e a w → Q' e a w) : inScopeWp FF P body c Q' a w := by
  intro b k cs h1 h2 h3
  obtain ⟨e, a', w', h4, h5⟩ := h b k cs h1 h2 h3
  exact ⟨e, a', w', hq _ _ _ h4, h5⟩
theorem scopeL_ok {rd : Option Nat} {body : Code} {f : Code → Fs → AS → Option (List CR)} (hf : ∀ c, CodeLOk P n rd c (f c)) : ∀ (m : Nat) (c : Code) (r : Option Nat) (R : Fs) (S : AS) (L : List CR) (μ : Mu) (a : Act) (w : World),
    scopeL f body m c R S = some L → RdR μ rd r → Good μ S w → FrR μ R.R n R.D a → inScopeWp (W r) P body c (RunsL μ S w n L) a w
  | 0, c, r, R, S, L, μ, a, w, hl, hrd, g, fr => by simp only [scopeL] at hl; cases hl
  | m + 1, c, r, R, S, L, μ, a, w, hl, hrd, g, fr => by
    simp only [scopeL] at hl
    obtain ⟨L₁, hb, hall⟩ := bindO_some hl
    refine inScope_of ?_
    refine wpIn_mono (hf c r _ _ _ _ _ _ hb hrd g fr) fun e a₂ w₂ h2 => ?_
    obtain ⟨⟨x, R₁, S₁⟩, hx, h2⟩ := h2
    obtain ⟨y, hy, hyin⟩ := hall _ hx
    have h3 := h2
    obtain ⟨rfl, μ₂, h2⟩ := h2
    cases x with
    | normal => cases hy; exact ⟨_, hyin _ (List.mem_cons_self ..), h3⟩
    | exit id => cases hy; exact ⟨_, hyin _ (List.mem_cons_self ..), h3⟩
    | ret => cases hy; exact ⟨_, hyin _ (List.mem_cons_self ..), h3⟩
    | goto l =>
      dsimp only at hy
      simp only [toExit]
      split at hy
      · rename_i rest hrest
        rw [hrest]
        exact inScopeWp_mono (scopeL_ok hf m rest r R₁ S₁ y μ₂ a₂ w₂ hy (hrd.mono h2.goes.le) h2.good h2.fr) fun e a w hq => hq.trans h2 hyin
      · rename_i hrest
        rw [hrest]
        cases hy
        exact ⟨_, hyin _ (List.mem_cons_self ..), h3⟩

theorem codeL_ok {rd : Option Nat} (hD : DrOk P dr) (hE : EvsLOk P E) : ∀ (k : Nat) (c : Code), CodeLOk P n rd c (codeL P dr E n rd k c)
  | 0, c => by intro r R S L μ a w hl; simp only [codeL] at hl; cases hl
  | k + 1, c => by
    intro r R S L μ a w hl hrd g fr
    have still : ∀ {x : AX}, L = [(x, R, S)] → RunsL μ S w n L (toExit x) a w := fun e => by subst e; exact ⟨_, List.mem_cons_self .., rfl, μ, g, fr, Goes.refl _ _ _ _ _, Nat.le_refl _⟩
    cases c with
    | skip => simp only [codeL] at hl; cases hl; exact wpIn_skip (still rfl)
    | label l => simp only [codeL] at hl; cases hl; exact wpIn_label (still rfl)
    | exit id => simp only [codeL] at hl; cases hl; exact wpIn_exit (still rfl)
    | goto l => simp only [codeL] at hl; cases hl; exact wpIn_goto (still rfl)
    | ret => simp only [codeL] at hl; cases hl; exact wpIn_ret (still rfl)
    | region id ops draw =>
      cases draw with
      | false =>
        simp only [codeL] at hl
        split at hl
        · rename_i l hs
          cases hl
          exact wpIn_region (seqL_wp hE _ _ _ _ _ _ _ g fr hs fun x hx μ' a' w' h => ⟨_, List.mem_map.2 ⟨x, hx, rfl⟩, rfl, μ', h⟩)
        · cases hl
      | true =>
        simp only [codeL] at hl
        split at hl
        · rename_i R₁ S₁ hs
          cases hl
          exact wpIn_mono (hD E.one hE.one r id ops n R.R S _ _ hs μ w R.D a g fr) fun e a₂ w₂ h2 => ⟨_, List.mem_cons_self .., h2⟩
        · cases hl
    | seq x₁ y₁ =>
      simp only [codeL] at hl
      obtain ⟨L₁, hb, hall⟩ := bindO_some hl
      refine wpIn_seq ?_
      refine wpIn_mono (codeL_ok hD hE k x₁ r _ _ _ _ _ _ hb hrd g fr) fun e a₂ w₂ h2 => ?_
      obtain ⟨⟨x, R₁, S₁⟩, hx, h2⟩ := h2
      obtain ⟨y, hy, hyin⟩ := hall _ hx
      have h3 := h2
      obtain ⟨rfl, μ₂, h2⟩ := h2
      cases x with
      | normal => exact wpIn_mono (codeL_ok hD hE k y₁ r _ _ _ _ _ _ hy (hrd.mono h2.goes.le) h2.good h2.fr) fun e a₃ w₃ h4 => h4.trans h2 hyin
      | exit id => cases hy; exact ⟨_, hyin _ (List.mem_cons_self ..), h3⟩
      | goto l => cases hy; exact ⟨_, hyin _ (List.mem_cons_self ..), h3⟩
      | ret => cases hy; exact ⟨_, hyin _ (List.mem_cons_self ..), h3⟩
    | cond c₀ x₁ y =>
      simp only [codeL] at hl
      split at hl
      · rename_i hc
        exact wpIn_cond_true ((fr.ev g.rel _ _ hc).eq_of_dat rfl) (codeL_ok hD hE k x₁ r _ _ _ _ _ _ hl hrd g fr)
      · rename_i hc
        exact wpIn_cond_false ((fr.ev g.rel _ _ hc).eq_of_dat rfl) (codeL_ok hD hE k y r _ _ _ _ _ _ hl hrd g fr)
      · cases hl
    | block id b =>
      simp only [codeL] at hl
      refine wpIn_block ?_
      split at hl
      · rename_i l hs
        cases hl
        refine wpIn_mono (codeL_ok hD hE k b r _ _ _ _ _ _ hs hrd g fr) fun e a₂ w₂ h2 => ?_
        obtain ⟨⟨x, R₁, S₁⟩, hx, h2⟩ := h2
        have hm : outBlock id (x, R₁, S₁) ∈ l.map (outBlock id) := List.mem_map.2 ⟨_, hx, rfl⟩
        obtain ⟨rfl, h2⟩ := h2
        cases x with
        | exit id' =>
          simp only [toExit, Exit.inBlock]
          by_cases hid : id' = id
          · rw [if_pos hid]
            have : outBlock id (.exit id', R₁, S₁) = (.normal, R₁, S₁) := by simp [outBlock, hid]
            rw [this] at hm
            exact ⟨_, hm, rfl, h2⟩
          · rw [if_neg hid]
            have : outBlock id (.exit id', R₁, S₁) = (.exit id', R₁, S₁) := by simp [outBlock, hid]
            rw [this] at hm
            exact ⟨_, hm, rfl, h2⟩
        | normal => exact ⟨_, hm, rfl, h2⟩
        | goto l => exact ⟨_, hm, rfl, h2⟩
        | ret => exact ⟨_, hm, rfl, h2⟩
      · cases hl
    | loop b =>
      simp only [codeL] at hl
      exact loopL_ok (codeL_ok hD hE k b) 100000 r R S L μ a w hl hrd g fr
    | scope b =>
      simp only [codeL] at hl
      exact wpIn_scope (scopeL_ok (fun c => codeL_ok hD hE k c) 100000 b r R S L μ a w hl hrd g fr)
    | rangeFunc g₀ ps assign body =>
      simp only [codeL] at hl
      split at hl
      · rename_i f₀ first captured hg₀
        split at hl
        · rename_i hok
          split at hl
          · rename_i l F₁ S₁ hent
            obtain ⟨L₁, hcall, hall⟩ := bindO_some hl
            refine wpIn_rangeFunc fun fn _ => ?_
            obtain ⟨μ₁, p, mark, w₁, hen, hp, past⟩ := enterF_ok (P := P) hent hrd g fr fn
            obtain ⟨xs', ys', hval, hxs, hys⟩ : ∃ xs' ys' : List Value, a.eval g₀ = .func (.func f₀) ⟨xs'⟩ ⟨ys'⟩ ∧ VRs μ first.toList xs' ∧ VRs μ captured.toList ys' := by
              have hfv := fr.ev g.rel _ _ hg₀
              generalize a.eval g₀ = fv at hfv
              cases hfv with
              | dat hd => simp [dat] at hd
              | func _ h1 h2 => exact ⟨_, _, rfl, h1, h2⟩
            have hargs : VRs μ₁ (first.toList ++ [.func (.yield l) #[] #[]] ++ captured.toList) (xs' ++ [.func (.yield p.blk) #[] #[]] ++ ys') :=
              ((hxs.mono past.goes.le).append (.cons (.yield hp) .nil)).append (hys.mono past.goes.le)
            refine ⟨p.blk, mark, w₁, { target := .fn (.func f₀) ⟨ys'⟩, args := (xs' ++ [Value.func (.yield p.blk) #[] #[]]).toArray }, w₁, f₀, (xs' ++ [Value.func (.yield p.blk) #[] #[]] ++ ys').toArray, w₁, hen, ?_, fun _ _ => trivial, ?_, fun hd => (by cases hd), ?_⟩
            · have hcst : a.eval (.const (.func (.yield p.blk) #[] #[])) = .func (.yield p.blk) #[] #[] := rfl
              simp [resolve, rangeCall, hval, Deferred.ofValue, hcst]
            · simp [invoke, enterOk_run hok]
            · refine CallsIn.mono (hE.call _ _ _ _ hcall μ₁ w₁ _ past.good hargs) fun e w' he => ?_
              obtain ⟨⟨v₂, S₂⟩, hx, v', μ₂, rfl, _, hg₂, hgo, hnx⟩ := he
              obtain ⟨y, hy, hyin⟩ := hall _ hx
              dsimp only at hy hg₂ hgo hnx
              split at hy
              · rename_i S₃ hend
                cases hy
                obtain ⟨w₄, k1, k2, k3, k4⟩ := endF_ok (P := P) hend hg₂ (hgo.le _ _ hp)
                refine ⟨none, w₄, k1, _, hyin _ (List.mem_cons_self ..), rfl, μ₂, ?_⟩
                exact past.trans ⟨k2, (past.fr.mono hgo.le).mono (Mu.le_refl _), hgo.trans (k3.mono hnx (.inr hnx)), Nat.le_trans hnx k4⟩
              · rename_i c₁ S₃ hend
                obtain ⟨w₄, k1, k2, k3, k4⟩ := endF_ok (P := P) hend hg₂ (hgo.le _ _ hp)
                refine ⟨some c₁, w₄, k1, ?_⟩
                have past₃ : Past μ S w n μ₂ F₁ S₃ { a with defers := mark ++ a.defers } w₄ := past.trans ⟨k2, past.fr.mono hgo.le, hgo.trans (k3.mono hnx (.inr hnx)), Nat.le_trans hnx k4⟩
                exact wpIn_mono (codeL_ok hD hE k c₁ r _ _ _ _ _ _ hy (hrd.mono past₃.goes.le) past₃.good past₃.fr) fun e a₃ w₃ h3 => h3.trans past₃ hyin
              · cases hy
          · cases hl
        · cases hl
      · cases hl
    | refuse _ => simp only [codeL] at hl; cases hl
end code
end
end Go.Ge

/-
  Evaluation of closed calls, all that may come: calls, rounds; what is alike is told once.
-/
namespace Go.Ge
open Go.RowKit

/-! ### what is alike is told once -/
def sameVs : List Value → List Value → Bool
  | [], [] => true
  | x :: xs, y :: ys => sameV x y && sameVs xs ys
  | _, _ => false
theorem sameVs_eq : ∀ {a b : List Value}, sameVs a b = true → a = b
  | [], [], _ => rfl
  | x :: xs, y :: ys, h => by
    simp only [sameVs, Bool.and_eq_true] at h
    rw [sameV_eq h.1, sameVs_eq h.2]
  | [], _ :: _, h => by simp [sameVs] at h
  | _ :: _, [], h => by simp [sameVs] at h
def sameEs : List MapEntry → List MapEntry → Bool
  | [], [] => true
  | x :: xs, y :: ys => sameV x.key y.key && sameV x.val y.val && decide (x.born = y.born) && sameEs xs ys
  | _, _ => false
theorem sameEs_eq : ∀ {a b : List MapEntry}, sameEs a b = true → a = b
  | [], [], _ => rfl
  | ⟨k, v, n⟩ :: xs, ⟨k', v', n'⟩ :: ys, h => by
    simp only [sameEs, Bool.and_eq_true, decide_eq_true_eq] at h
    obtain ⟨⟨⟨h1, h2⟩, h3⟩, h4⟩ := h
    rw [sameV_eq h1, sameV_eq h2, h3, sameEs_eq h4]
  | [], _ :: _, h => by simp [sameEs] at h
  | _ :: _, [], h => by simp [sameEs] at h
def sameA : AObj → AObj → Bool
  | .cells c e g, .cells c' e' g' => sameVs c c' && decide (e = e') && decide (g = g')
  | .map es n, .map es' n' => sameEs es es' && decide (n = n')
  | .iterM m a s b, .iterM m' a' s' b' => decide (m = m') && decide (a = a') && decide (s.toList = s'.toList) && decide (b = b')
  | .mark, .mark => true
  | .spent, .spent => true
  | .tab i c, .tab i' c' => decide (i = i') && sameVs c c'
  | _, _ => false
theorem sameA_eq {a b : AObj} (h : sameA a b = true) : a = b := by
  unfold sameA at h
  split at h <;> simp at h
  · rw [sameVs_eq h.1.1, h.1.2, h.2]
  · rw [sameEs_eq h.1, h.2]
  · rw [h.1.1.1, h.1.1.2, h.1.2, h.2]
  · rfl
  · rfl
  · rw [h.1, sameVs_eq h.2]
def sameT : T AObj → T AObj → Bool
  | .leaf, .leaf => true
  | .val a, .val b => sameA a b
  | .node l r, .node l' r' => sameT l l' && sameT r r'
  | _, _ => false
theorem sameT_eq : ∀ {a b : T AObj}, sameT a b = true → a = b
  | .leaf, .leaf, _ => rfl
  | .val a, .val b, h => by rw [sameA_eq (show sameA a b = true from h)]
  | .node l r, .node l' r', h => by
    simp only [sameT, Bool.and_eq_true] at h
    rw [sameT_eq h.1, sameT_eq h.2]
  | .leaf, .val _, h => by simp [sameT] at h
  | .leaf, .node _ _, h => by simp [sameT] at h
  | .val _, .leaf, h => by simp [sameT] at h
  | .val _, .node _ _, h => by simp [sameT] at h
  | .node _ _, .leaf, h => by simp [sameT] at h
  | .node _ _, .val _, h => by simp [sameT] at h
def sameX (x y : Value × AS) : Bool := sameV x.1 y.1 && decide (x.2.nx = y.2.nx) && sameT x.2.h y.2.h
theorem sameX_eq {x y : Value × AS} (h : sameX x y = true) : x = y := by
  obtain ⟨v, ⟨a, n⟩⟩ := x
  obtain ⟨u, ⟨b, m⟩⟩ := y
  simp only [sameX, Bool.and_eq_true, decide_eq_true_eq] at h
  rw [sameV_eq h.1.1, h.1.2, sameT_eq h.2]
def onceL : List (Value × AS) → List (Value × AS)
  | [] => []
  | x :: l => let r := onceL l; if r.any (sameX x) = true then r else x :: r
theorem onceL_mem : ∀ {l : List (Value × AS)} {x : Value × AS}, x ∈ l → x ∈ onceL l
  | [], _, h => by cases h
  | y :: l, x, h => by
    simp only [onceL]
    split
    · rename_i hany
      obtain ⟨z, hz, he⟩ := List.any_eq_true.1 hany
      rcases List.mem_cons.1 h with rfl | h
      · rw [sameX_eq he]; exact hz
      · exact onceL_mem h
    · rcases List.mem_cons.1 h with rfl | h
      · exact List.mem_cons_self ..
      · exact List.mem_cons_of_mem _ (onceL_mem h)
/-- iterators are forgotten -/
def dropIt : Nat → Nat → Heap → Heap
  | 0, _, h => h
  | k + 1, i, h => dropIt k (i + 1) (match h.get i with
    | some (.iterM ..) => h.set i none
    | some (.iterS ..) => h.set i none
    | _ => h)
def tidy (nx : Nat) (l : List (Value × AS)) : List (Value × AS) := match l with
  | [] => []
  | [x] => [x]
  | l => onceL (l.map fun x => (x.1, ⟨dropIt (x.2.nx - nx) nx x.2.h, x.2.nx⟩))

section
variable {P : Program} {μ : Mu} {w w' : World} {R R' : T Value} {F F' : Fs} {n : Nat} {D : List Nat} {a : Act} {S S' : AS}
theorem Ends.drop {v : Value} {e : Ending} : ∀ (k i : Nat) {h : Heap} {nx : Nat}, Ends μ S w v ⟨h, nx⟩ e w' → Ends μ S w v ⟨dropIt k i h, nx⟩ e w'
  | 0, _, _, _, x => x
  | k + 1, i, h, nx, x => by
    simp only [dropIt]
    refine Ends.drop k (i + 1) ?_
    have one : ∀ o, h.get i = some o → o.isTab = false → Ends μ S w v ⟨h.set i none, nx⟩ e w' := fun o ho ht => by
      obtain ⟨v', μ', h1, h2, h3, h4, h5⟩ := x
      have hlt := Heap.get_lt ho
      exact ⟨v', μ', h1, h2, ⟨h3.rel.forget i hlt, h3.dom⟩, h4.trans (Goes.forget h3.rel i hlt fun o' ho' => by dsimp only at ho'; rw [ho] at ho'; cases ho'; exact ht), h5⟩
    split
    · rename_i ho; exact one _ ho rfl
    · rename_i ho; exact one _ ho rfl
    · exact x
theorem EndsL.tidy {L : List (Value × AS)} {e : Ending} (h : EndsL μ S w L e w') (nx : Nat) : EndsL μ S w (tidy nx L) e w' := by
  obtain ⟨x, hx, he⟩ := h
  unfold Ge.tidy
  split
  · cases hx
  · exact ⟨x, hx, he⟩
  · exact ⟨_, onceL_mem (List.mem_map.2 ⟨x, hx, rfl⟩), Ends.drop _ _ he⟩

section code
variable {dr : Drawn} {E : EvsL}
def resL (P : Program) (fn : Func) : CR → Option (List (Value × AS))
  | (.normal, F, S') | (.ret, F, S') => match leaveF F.D S' with
    | some S'' => match resF P S''.h F.R fn.results.toList with
      | some [v] => some [(v, S'')]
      | some vs => some [(.tuple ⟨vs⟩, S'')]
      | none => none
    | none => none
  | _ => none
def callL (P : Program) (dr : Drawn) (E : EvsL) (f : FuncId) (args : List Value) (S : AS) : Option (List (Value × AS)) :=
  match P.funcs[f]? with
  | some fn => match fn.body with
    | some c =>
      if args.length ≤ 1024 then
        match bindO (codeL P dr E (max args.length fn.ntmps) none 200 c ⟨argsR args 0 .leaf, []⟩ S) (resL P fn) with
        | some L => some (tidy S.nx L)
        | none => none
      else none
    | none => none
  | none => none
theorem callL_ok (hD : DrOk P dr) (hE : EvsLOk P E) : ∀ f args S L, callL P dr E f args S = some L → ∀ μ w args', Good μ S w → VRs μ args args' → CallsIn (W none) 0 P f args'.toArray w (EndsL μ S w L) := by
  intro f args S L hl μ w args' g ha
  unfold callL at hl
  split at hl
  · rename_i fn hfn
    split at hl
    · rename_i c hc
      split at hl
      · rename_i hlen
        split at hl
        · rename_i L₀ hl₀
          cases hl
          refine CallsIn.mono (R := EndsL μ S w L₀) ?_ fun e w' h => h.tidy S.nx
          have hal := ha.length
          refine callsIn_of_wp_marks hfn hc trivial ?_
          have hfr : FrR μ (argsR args 0 .leaf) (max args.length fn.ntmps) [] { tmps := args'.toArray ++ Array.replicate (fn.ntmps - args'.toArray.size) undef, defers := [] } := by
            refine ⟨by simp; omega, fun t u ht => ?_, .nil⟩
            unfold rget at ht
            split at ht
            · rename_i ht2
              rw [argsR_get args 0 .leaf t (by omega) ht2, T.get_leaf] at ht
              simp only [Nat.zero_le, true_and, Nat.zero_add, Nat.sub_zero] at ht
              by_cases h1 : t < args.length
              · rw [if_pos h1] at ht
                obtain ⟨v', k1, k2⟩ := ha.get t args[t] (List.getElem?_eq_getElem h1)
                rw [List.getElem?_eq_getElem h1] at ht
                simp at ht
                subst ht
                have : t < args'.length := by omega
                have k3 : args'[t] = v' := by
                  rw [List.getElem?_eq_getElem this] at k1
                  exact Option.some.inj k1
                simp only [Array.getD_eq_getD_getElem?]
                rw [Array.getElem?_append_left (by simpa using this)]
                simp [this, k3]
                exact k2
              · rw [if_neg h1] at ht
                simp at ht
                subst ht
                simp only [Array.getD_eq_getD_getElem?]
                rw [Array.getElem?_append_right (by simp; omega)]
                rw [Array.getElem?_replicate]
                split
                · exact undefVR
                · exact undefVR
            · cases ht
          obtain ⟨L₁, hb, hall⟩ := bindO_some hl₀
          refine wpIn_mono (codeL_ok hD hE 200 c none _ _ _ _ _ _ hb (.inl ⟨rfl, rfl⟩) g hfr) fun e a₂ w₂ h2 => ?_
          obtain ⟨⟨x, F₁, S₁⟩, hx, rfl, μ₂, h2⟩ := h2
          obtain ⟨y, hy, hyin⟩ := hall _ hx
          have post : (match leaveF F₁.D S₁ with
              | some S'' => match resF P S''.h F₁.R fn.results.toList with
                | some [v] => some [(v, S'')]
                | some vs => some [(.tuple ⟨vs⟩, S'')]
                | none => none
              | none => none : Option (List (Value × AS))) = some y → LeavesInM (W none) 0 P fn a₂.tmps (EndsL μ S w L₀) a₂.defers .returning w₂ := by
            intro hres
            dsimp only at h2
            split at hres
            · rename_i S'' hleave
              refine leaveF_ok F₁.D _ μ₂ S₁ S'' w₂ h2.fr.dn h2.good hleave fun w₃ g₃ go₃ nx₃ => ?_
              cases hr : resF P S''.h F₁.R fn.results.toList with
              | none => rw [hr] at hres; cases hres
              | some vs =>
                rw [hr] at hres
                obtain ⟨vs', k1, k2⟩ := resF_run h2.fr g₃.rel _ _ hr
                have hmap : (fn.results.mapM (fun
                    | .tmp t => pure (a₂.tmps.getD t undef)
                    | .cell b t => do loadVar t (← asAddr (a₂.tmps.getD b undef)) : ResultVar → Sem Value)).run P w₃ = .ok vs'.toArray w₃ := by
                  rw [Array.mapM_eq_mapM_toList]
                  simp only [Sem.run_map]
                  exact congrArg (fun r : Result (List Value) => r.andThen fun a w' => Result.ok a.toArray w') k1
                have hrun : (results fn a₂.tmps).run P w₃ = .ok (if h : vs'.toArray.size = 1 then vs'.toArray[0] else .tuple vs'.toArray) w₃ := by
                  unfold results
                  simp only [Sem.run_bind, Sem.run_pure]
                  exact congrArg (fun r : Result (Array Value) => r.andThen fun a w' => Result.ok (if h : a.size = 1 then a[0] else .tuple a) w') hmap
                refine ⟨_, hrun, ?_⟩
                have hgo := h2.goes.trans (go₃.mono h2.nx (.inr h2.nx))
                have hnx := Nat.le_trans h2.nx nx₃
                have hkl := k2.length
                match vs, vs', k2, hres, hkl with
                | [u], [u'], .cons hu .nil, hres, _ => cases hres; exact ⟨_, hyin _ (List.mem_cons_self ..), _, μ₂, rfl, hu, g₃, hgo, hnx⟩
                | [], [], .nil, hres, _ => cases hres; exact ⟨_, hyin _ (List.mem_cons_self ..), _, μ₂, rfl, .tuple .nil, g₃, hgo, hnx⟩
                | u :: u2 :: us, u' :: u2' :: us', k2, hres, _ =>
                  cases hres
                  refine ⟨_, hyin _ (List.mem_cons_self ..), _, μ₂, rfl, ?_, g₃, hgo, hnx⟩
                  rw [dif_neg (by simp)]
                  exact .tuple k2
            · cases hres
          cases x with
          | normal => exact post hy
          | ret => exact post hy
          | exit id => simp only [resL] at hy; cases hy
          | goto l => simp only [resL] at hy; cases hy
        · cases hl
      · cases hl
    · cases hl
  · cases hl

def endR (l : Nat) (x : CR) : Option (List (Value × AS)) := match x.2.2.h.get l with
  | some (.loop lo₂) => some [(.bool (jumpOf x.1).isNone, ⟨x.2.2.h.set l (some (.loop { lo₂ with state := if (jumpOf x.1).isNone then .ready else .done, pending := jumpOf x.1 })), x.2.2.nx⟩)]
  | _ => none
def midR (P : Program) (dr : Drawn) (E : EvsL) (l : Nat) (lo : ALoop) : CR → Option (List (Value × AS))
  | (.normal, F₁, S₁) => match S₁.h.get l with
    | some (.loop lo₁) => if lo₁.state = .ready then
        bindO (codeL P dr E lo.n (some l) 200 lo.body F₁ ⟨S₁.h.set l (some (.loop { lo₁ with state := .busy })), S₁.nx⟩) (endR l)
      else none
    | _ => none
  | _ => none
def roundL (P : Program) (dr : Drawn) (E : EvsL) (l : Nat) (args : List Value) (S : AS) : Option (List (Value × AS)) :=
  match S.h.get l with
  | some (.loop lo) => match roundR lo.n lo.params.toList args lo.tmps with
    | some R => bindO (codeL P dr E lo.n (some l) 200 lo.assign ⟨R, []⟩ S) (midR P dr E l lo)
    | none => none
  | _ => none
theorem roundL_ok (hD : DrOk P dr) (hE : EvsLOk P E) : ∀ l args S L, roundL P dr E l args S = some L → ∀ μ w p args', Good μ S w → μ l = some p → VRs μ args args' →
    ∃ f tmps assign body, (Instr.yield p.blk args'.toArray).run P w = .ok (.round p.blk f tmps assign body) w ∧ RoundIn (W none) 0 P p.blk f tmps assign body w (EndsL μ S w L) := by
  intro l args S L hl μ w p args' g hp ha
  unfold roundL at hl
  split at hl
  · rename_i lo hlo
    split at hl
    · rename_i R hR
      obtain ⟨_, fn, tmps', q, _, hget, _, hsz, hreg⟩ := getLoop_run (P := P) g hlo hp
      obtain ⟨hfr, hlen⟩ := roundR_ok lo.params.toList args args' lo.tmps R tmps' ha ⟨hsz, hreg, .nil⟩ hR
      refine ⟨fn, (lo.params.toList.zip args').foldl (fun tmps (x : Tmp × Value) => tmps.setIfInBounds x.1 x.2) tmps', lo.assign, lo.body, ?_, ?_⟩
      · have hs : ¬ args'.length ≠ lo.params.size := by simpa using hlen
        have hz : (lo.params.zip args'.toArray).foldl (fun tmps (x : Tmp × Value) => tmps.setIfInBounds x.1 x.2) tmps' = (lo.params.toList.zip args').foldl (fun tmps (x : Tmp × Value) => tmps.setIfInBounds x.1 x.2) tmps' := by
          rw [← Array.foldl_toList]
          congr 1
          simp
        simp only [Instr.yield, Sem.run_bind, hget, Result.andThen_ok, List.size_toArray]
        rw [if_neg hs]
        simp only [Sem.run_bind, Sem.run_pure, Result.andThen_ok]
        rw [← hz]
      · refine roundIn_of_wpIn trivial ?_
        obtain ⟨L₁, hassign, hall⟩ := bindO_some hl
        refine wpIn_mono (codeL_ok (rd := some l) hD hE 200 lo.assign (some p.blk) _ _ _ _ _ _ hassign (.inr ⟨l, p, rfl, hp, rfl⟩) g hfr) fun e a₁ w₁ h1 => ?_
        obtain ⟨⟨x₁, F₁, S₁⟩, hx₁, rfl, μ₁, h1⟩ := h1
        obtain ⟨y, hy, hyin⟩ := hall _ hx₁
        dsimp only at h1
        cases x₁ with
        | exit id => simp only [midR] at hy; cases hy
        | goto l => simp only [midR] at hy; cases hy
        | ret => simp only [midR] at hy; cases hy
        | normal =>
          simp only [midR] at hy
          split at hy
          · rename_i lo₁ hlo₁
            split at hy
            · rename_i hst
              have hp₁ := h1.goes.le _ _ hp
              obtain ⟨fn₁, tmps₁, q₁, w₂, k1, k2, k3, k4⟩ := setLoop_run (P := P) h1.good hlo₁ hp₁ .busy lo₁.pending
              refine ⟨w₂, ?_, ?_⟩
              · rw [hst] at k1
                simp only [Instr.beginRound, Sem.run_bind, k1, Result.andThen_ok]
                simp only [k2, Result.andThen_ok, Sem.run_pure]
              · obtain ⟨L₂, hbody, hall₂⟩ := bindO_some hy
                have past₂ : Past μ S w lo.n μ₁ F₁ ⟨S₁.h.set l (some (.loop { lo₁ with state := .busy })), S₁.nx⟩ a₁ w₂ := h1.trans ⟨k3, h1.fr, k4, Nat.le_refl _⟩
                refine wpIn_mono (codeL_ok (rd := some l) hD hE 200 lo.body (some p.blk) _ _ _ _ _ _ hbody (.inr ⟨l, p, rfl, hp₁, rfl⟩) k3 h1.fr) fun e a₂ w₃ h3 => ?_
                obtain ⟨⟨x, F₂, S₂⟩, hx₂, rfl, μ₃, h3⟩ := h3
                obtain ⟨z, hz, hzin⟩ := hall₂ _ hx₂
                dsimp only at h3
                unfold endR at hz
                dsimp only at hz
                split at hz
                · rename_i lo₂ hlo₂
                  cases hz
                  have hp₃ := h3.goes.le _ _ hp₁
                  obtain ⟨fn₂, tmps₂, q₂, w₄, m1, m2, m3, m4⟩ := setLoop_run (P := P) h3.good hlo₂ hp₃ (if (jumpOf x).isNone then .ready else .done) (jumpOf x)
                  have hends : Ends μ S w (.bool (jumpOf x).isNone) ⟨S₂.h.set l (some (.loop { lo₂ with state := if (jumpOf x).isNone then .ready else .done, pending := jumpOf x })), S₂.nx⟩ (.returned (.bool (jumpOf x).isNone)) w₄ := by
                    have past₄ := past₂.trans h3
                    exact ⟨_, μ₃, rfl, .dat rfl, m3, past₄.goes.trans (m4.mono past₄.nx (.inr past₄.nx)), past₄.nx⟩
                  have hin := hyin _ (hzin _ (List.mem_cons_self ..))
                  have hend : (Instr.endRound p.blk (jumpOf x)).run P w₃ = .ok (.bool (jumpOf x).isNone) w₄ := by
                    simp only [Instr.endRound, Sem.run_bind, m1, Result.andThen_ok]
                    simp only [m2, Result.andThen_ok, Sem.run_pure]
                  cases x with
                  | normal => exact ⟨_, w₄, hend, _, hin, hends⟩
                  | ret => exact ⟨_, w₄, hend, _, hin, hends⟩
                  | exit id => exact ⟨_, w₄, hend, _, hin, hends⟩
                  | goto l => exact ⟨_, w₄, hend, _, hin, hends⟩
                · cases hz
            · cases hy
          · cases hy
    · cases hl
  · cases hl

def levL (P : Program) (dr : Drawn) (kn : Kn) : Nat → EvsL
  | 0 => ⟨fun _ _ _ => none, fun _ _ _ => none⟩
  | k + 1 => ⟨fun f args S => match kn f args S with
      | some x => some [x]
      | none => callL P dr (levL P dr kn k) f args S, roundL P dr (levL P dr kn k)⟩
theorem levL_ok {kn : Kn} (hD : DrOk P dr) (hK : KnOk P kn) : ∀ k, EvsLOk P (levL P dr kn k)
  | 0 => ⟨fun _ _ _ _ h => (by cases h), fun _ _ _ _ h => (by cases h)⟩
  | k + 1 => ⟨fun f args S L h => by
      simp only [levL] at h
      split at h
      · rename_i x hx
        cases h
        intro μ w args' g ha
        exact CallsIn.mono (hK f args S x.1 x.2 hx μ w args' g ha) fun e w' he => ⟨x, List.mem_cons_self .., he⟩
      · exact callL_ok hD (levL_ok hD hK k) f args S L h, roundL_ok hD (levL_ok hD hK k)⟩
end code
end

/-- whatever comes, it is true -/
def saysTrueL (x : Option (List (Value × AS))) : Bool := match x with
  | some l => l.all fun y => match y.1 with | .bool true => true | _ => false
  | none => false
/-- no call is known -/
def kn0 : Kn := fun _ _ _ => none
theorem kn0_ok {P : Program} : KnOk P kn0 := fun _ _ _ _ _ h => by cases h

theorem groundL {P : Program} {E : EvsL} (hE : EvsLOk P E) {n : Nat} {f : FuncId} (tabs : List (Nat × List Value)) (hk : tabsOk n tabs = true) (hn : n ≤ 65536) {args args' : List Value} (vals : List Value)
    (h : saysTrueL (E.call f args ⟨tabsH tabs, n⟩) = true) (ha : VRs (nameOf (tabsH tabs) vals) args args') (w : World)
    (hT : ∀ g c, (g, c) ∈ tabs → ∀ i v, c[i]? = some v → w.cell? ⟨g, i, none⟩ = some v) :
    Calls P f args'.toArray w fun e w' => e = .returned (.bool true) ∧ Below w.heap.size w w' := by
  obtain ⟨L, hc, htrue⟩ : ∃ L, E.call f args ⟨tabsH tabs, n⟩ = some L ∧ ∀ y ∈ L, y.1 = .bool true := by
    unfold saysTrueL at h
    split at h
    · rename_i l hl
      refine ⟨l, hl, fun y hy => ?_⟩
      have := List.all_eq_true.1 h y hy
      split at this
      · assumption
      · cases this
    · cases h
  have hget := tabsH_get hn tabs hk
  have hlow : ∀ i, i < 65536 → nameOf (tabsH tabs) vals i = if ((tabsH tabs).get i).isSome then some ⟨i, 0, 0, .nilFunc⟩ else none := fun i hi => by
    unfold nameOf
    rw [if_neg (by omega)]
  have hgood : Good (nameOf (tabsH tabs) vals) ⟨tabsH tabs, n⟩ w := by
    refine ⟨⟨fun i o hi => ?_, fun i j o o' p q hi hj hp hq e => ?_⟩, fun i h1 h2 => ?_⟩
    · obtain ⟨c, h1, rfl, h2, h3, h4⟩ := hget i o hi
      refine ⟨⟨i, 0, 0, .nilFunc⟩, by rw [hlow i (Heap.get_lt hi)]; simp [hi], rfl, ?_⟩
      have hcell := hT i c h1
      cases c with
      | nil => exact absurd rfl h4
      | cons v0 cs =>
        have h0 := hcell 0 v0 rfl
        simp only [World.cell?] at h0
        split at h0
        · rename_i c' e fz hb
          refine ⟨c', e, fz, hb, fun j v hj => ⟨?_, List.all_eq_true.1 h3 v (List.mem_of_getElem? hj)⟩⟩
          have := hcell j v hj
          simp only [World.cell?, hb] at this
          simpa using this
        · cases h0
    · rw [hlow i (Heap.get_lt hi)] at hp
      rw [hlow j (Heap.get_lt hj)] at hq
      simp only [hi, hj] at hp hq
      cases hp; cases hq
      exact e
    · rw [hlow i h2]
      cases hg : (tabsH tabs).get i with
      | none => simp
      | some o => obtain ⟨_, _, _, h3, _⟩ := hget i o hg; dsimp only at h1; omega
  have := hE.call f args ⟨tabsH tabs, n⟩ _ hc _ w args' hgood ha
  refine (callsIn_wide (n := 0)).1 (CallsIn.mono this fun e w' he => ?_)
  obtain ⟨y, hy, v', μ', rfl, hvr, _, hg, _⟩ := he
  rw [htrue y hy] at hvr
  rw [hvr.eq_of_dat rfl]
  exact ⟨rfl, hg.os, hg.tape, hg.output, hg.size, fun k hk => hg.frame k hk fun j o p hj ht => (by obtain ⟨c, _, rfl, _⟩ := hget j o hj; cases ht)⟩
end Go.Ge

