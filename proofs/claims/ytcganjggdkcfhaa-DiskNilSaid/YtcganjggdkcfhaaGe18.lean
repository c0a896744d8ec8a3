/-
  Evaluation of closed calls: regions that draw their order do what was reckoned, whichever order is drawn.
-/
import Derived.Test.YtcganjggdkcfhaaGe17
set_option linter.unusedVariables false
set_option linter.unusedSimpArgs false
namespace Go.Ge

/-! ### an invariant of what is done -/
section gen
variable {F : Fence} {P : Program} {ops : Array Oper} {Q : Exit → Act → World → Prop}
def unl (ops : Array Oper) (listed : Array Bool) : Nat := (List.range ops.size).countP fun i => !listed.getD i true
theorem countP_lt {p q : Nat → Bool} : ∀ {l : List Nat} {i : Nat}, i ∈ l → p i = true → q i = false → (∀ j, q j = true → p j = true) → l.countP q < l.countP p
  | x :: l, i, hi, hp, hq, h => by
    have hle : l.countP q ≤ l.countP p := List.countP_mono_left fun j _ hj => h j hj
    rcases List.mem_cons.1 hi with rfl | hi
    · rw [List.countP_cons_of_pos hp, List.countP_cons_of_neg (by rw [hq]; simp)]
      omega
    · have := countP_lt hi hp hq h
      by_cases hqx : q x = true
      · rw [List.countP_cons_of_pos hqx, List.countP_cons_of_pos (h x hqx)]; omega
      · rw [List.countP_cons_of_neg hqx]
        by_cases hpx : p x = true
        · rw [List.countP_cons_of_pos hpx]; omega
        · rw [List.countP_cons_of_neg hpx]; exact this
theorem wpAnyIn_of (I : Array Bool → Act → World → Prop) (h : ∀ listed a w, I listed a w → listed.size = ops.size ∧ (Region.ready .any ops listed = [] → Q .normal a w) ∧ ∀ i ∈ Region.ready .any ops listed, wpOpIn F 0 P ops Q i (I (listed.setIfInBounds i true)) a w) :
    ∀ (fuel : Nat) (listed : Array Bool) (a : Act) (w : World), I listed a w → unl ops listed ≤ fuel → wpAnyIn F 0 P .any ops Q fuel listed a w
  | 0, listed, a, w, hI, hf => by
    obtain ⟨hs, h1, h2⟩ := h listed a w hI
    have hr : Region.ready .any ops listed = [] := by
      cases hc : Region.ready .any ops listed with
      | nil => rfl
      | cons i l =>
        have hi : i ∈ Region.ready .any ops listed := by rw [hc]; exact List.mem_cons_self ..
        rw [mem_ready] at hi
        obtain ⟨h0, o, ho, _⟩ := hi
        have hlt : i < ops.size := (Array.getElem?_eq_some_iff.1 ho).1
        have : 0 < unl ops listed := List.countP_pos_iff.2 ⟨i, List.mem_range.2 hlt, by simp [h0]⟩
        omega
    exact ⟨hr, h1 hr⟩
  | fuel + 1, listed, a, w, hI, hf => by
    obtain ⟨hs, h1, h2⟩ := h listed a w hI
    refine ⟨h1, fun i hi => wpOpIn_mono (fun a' w' hI' => wpAnyIn_of I h fuel _ a' w' hI' ?_) (h2 i hi)⟩
    rw [mem_ready] at hi
    obtain ⟨h0, o, ho, _⟩ := hi
    have hlt : i < ops.size := (Array.getElem?_eq_some_iff.1 ho).1
    have : unl ops (listed.setIfInBounds i true) < unl ops listed := by
      refine countP_lt (i := i) (List.mem_range.2 hlt) (by simp [h0]) ?_ fun j hj => ?_
      · simp [hs, hlt]
      · by_cases e : i = j
        · subst e; simp [hs, hlt] at hj
        · rw [getD_set_ne true e] at hj; exact hj
    omega
end gen

section
variable {P : Program} {E : Evs} {ops : Array Oper} {M : T Nat} {base n : Nat} {D : List Nat} {R0 : T Value} {h0 : Heap} {Vf : T Value} {Of : T AObj} {HK : AS}
def L (listed : Array Bool) (i : Nat) : Prop := listed.getD i false = true
def evAt (ops : Array Oper) (Vf : T Value) (R0 : T Value) (listed : Array Bool) (t : Tmp) : Option Value :=
  match wrF ops t (List.range ops.size) with
  | some y => if listed.getD y false = true then T.get 10 Vf y else rget R0 t
  | none => rget R0 t
structure FrAt (ops : Array Oper) (n : Nat) (D : List Nat) (Vf : T Value) (R0 : T Value) (listed : Array Bool) (μ : Mu) (a : Act) : Prop where
  sz : n ≤ a.tmps.size
  dn : DR μ D a.defers
  reg : ∀ t v, evAt ops Vf R0 listed t = some v → VR μ v (a.tmps.getD t undef)
theorem FrAt.mono {listed : Array Bool} {μ ν : Mu} {a : Act} (h : μ.le ν) (f : FrAt ops n D Vf R0 listed μ a) : FrAt ops n D Vf R0 listed ν a := ⟨f.sz, f.dn.mono h, fun t v ht => (f.reg t v ht).mono h⟩

theorem L_set {listed : Array Bool} {i j : Nat} (hs : i < listed.size) : L (listed.setIfInBounds i true) j ↔ L listed j ∨ j = i := by
  unfold L
  by_cases e : i = j
  · subst e; simp [hs]
  · rw [getD_set_ne false e]
    constructor
    · exact .inl
    · rintro (h | rfl)
      · exact h
      · exact absurd rfl e

theorem dstsOk_spec (hd : dstsOk ops n = true) {i : Nat} (hi : i < ops.size) {d : Tmp} (hdi : dstOf ops i = some d) : d < n ∧ d < 1024 ∧ wrF ops d (List.range ops.size) = some i := by
  have := List.all_eq_true.1 hd i (List.mem_range.2 hi)
  rw [hdi] at this
  simp at this
  exact ⟨this.1.1, this.1.2, this.2⟩

/-- behind an operation -/
theorem FrAt.put {listed : Array Bool} {μ : Mu} {a : Act} {i : Nat} {v v' : Value} (hd : dstsOk ops n = true) (hi : i < ops.size) (hs : listed.size = ops.size) (f : FrAt ops n D Vf R0 listed μ a) (hv : VR μ v v') (hV : T.get 10 Vf i = some v) {o : Oper} (ho : ops[i]? = some o) :
    FrAt ops n D Vf R0 (listed.setIfInBounds i true) μ (a.put o.dst v') := by
  have hdst : dstOf ops i = o.dst := by unfold dstOf; rw [ho]; rfl
  refine ⟨by cases o.dst <;> simp [Act.put]; exact f.sz; exact f.sz, by cases o.dst <;> exact f.dn, fun t u ht => ?_⟩
  unfold evAt at ht
  have other : o.dst ≠ some t → VR μ u (a.tmps.getD t undef) := by
    intro hne
    refine f.reg t u ?_
    unfold evAt
    split at ht
    · rename_i y hy
      have hyi : i ≠ y := by
        rintro rfl
        obtain ⟨_, h2⟩ := wrF_spec hy
        rw [hdst] at h2
        exact hne h2
      rw [getD_set_ne false hyi] at ht
      exact ht
    · exact ht
  cases hod : o.dst with
  | none => simp only [Act.put]; exact other (by rw [hod]; simp)
  | some d =>
    by_cases e : d = t
    · subst e
      obtain ⟨h1, h2, h3⟩ := dstsOk_spec hd hi (hdst.trans hod)
      rw [h3] at ht
      simp only at ht
      rw [if_pos (by simp [hs, hi])] at ht
      rw [hV] at ht
      cases ht
      have : d < a.tmps.size := Nat.lt_of_lt_of_le h1 f.sz
      simpa [Act.put, Array.getD_eq_getD_getElem?, this] using hv
    · have := other (by rw [hod]; simpa using e)
      simpa [Act.put, Array.getD_eq_getD_getElem?, Array.getElem?_setIfInBounds, e] using this

/-- operands of an operation that is ready -/
theorem FrAt.ev {ν : Mu} {w : World} (r0 : Rel ν h0 w) {listed : Array Bool} {μ : Mu} {a : Act} {i : Nat} {V : T Value} {O : T AObj} (hν : ν.le μ) (hsz : ops.size ≤ 1000) (f : FrAt ops n D Vf R0 listed μ a) (hle : Le2 V O Vf Of) (hdone : ∀ x, (msk M i).testBit x = true → L listed x) (hun : ¬ L listed i)
    (hcl : ∀ y, y < ops.size → L listed y → ∀ x, (msk M y).testBit x = true → L listed x) : EvR μ (evD ops M V R0 h0 i) a.eval := by
  intro x v hx
  cases x with
  | tmp t =>
    refine f.reg t v ?_
    simp only [evD] at hx
    unfold evAt
    split at hx
    · rename_i y hy
      rw [hy]
      simp only
      have hym := List.mem_range.1 (wrF_spec hy).1
      split at hx
      · rename_i hb
        rw [if_pos (show listed.getD y false = true from hdone y hb)]
        exact (hle y v (by omega) hx).1
      · split at hx
        · rename_i hc
          rw [if_neg]
          · exact hx
          · intro hL
            rcases hc with rfl | hc
            · exact hun hL
            · exact hun (hcl y hym hL i hc)
        · cases hx
    · rename_i hy; rw [hy]; exact hx
  | const u =>
    simp only [evD, aev] at hx
    split at hx
    · rename_i hc; cases hx; exact VR.of_closed hc
    · cases hx
  | func g => simp only [evD, aev] at hx; cases hx; exact .func (fun _ => by simp) .nil .nil
  | global g =>
    simp only [evD, aev] at hx
    split at hx
    · rename_i g' c hg
      split at hx
      · rename_i e
        subst e
        cases hx
        obtain ⟨q, hq, rfl, _⟩ := r0.live _ _ hg
        have := VR.ptr (o := 0) (hν _ _ hq)
        exact (by simpa using this : VR μ (.pointer (some ⟨g', 0, none⟩)) (.pointer (some ⟨g', 0, none⟩)))
      · cases hx
    · cases hx
theorem FrAt.wanted {listed : Array Bool} {μ : Mu} {a : Act} {i : Nat} {V : T Value} {O : T AObj} {o : Oper} {q : Bool} (hsz : ops.size ≤ 1000) (hd : dstsOk ops n = true) (f : FrAt ops n D Vf R0 listed μ a) (hle : Le2 V O Vf Of) (hdone : ∀ x, (msk M i).testBit x = true → L listed x)
    (hl : wantD ops M V i o = some q) : Region.wanted o (yielded ops a.tmps) = q := by
  unfold wantD at hl
  unfold Region.wanted
  split at hl
  · rename_i hg; cases hl; rw [hg]
  · rename_i j want hg
    rw [hg]
    split at hl
    · rename_i d hdj
      split at hl
      · rename_i hb
        split at hl
        · rename_i b hV
          cases hl
          have hjlt : j < ops.size := by
            unfold dstOf at hdj
            cases ho : ops[j]? with
            | none => rw [ho] at hdj; cases hdj
            | some o' => exact (Array.getElem?_eq_some_iff.1 ho).1
          obtain ⟨k1, k2, k3⟩ := dstsOk_spec hd hjlt hdj
          have hev : evAt ops Vf R0 listed d = some (.bool b) := by
            unfold evAt
            rw [k3]
            simp only
            rw [if_pos (show listed.getD j false = true from hdone j hb)]
            exact (hle j _ (by omega) hV).1
          have hv := (f.reg d _ hev).eq_of_dat rfl
          have hs : a.tmps[d]? = some (.bool b) := by
            rw [Array.getD_eq_getD_getElem?] at hv
            cases h : a.tmps[d]? with
            | none => rw [h] at hv; simp [undef] at hv
            | some x => rw [h] at hv; simp at hv; rw [hv]
          have hy : yielded ops a.tmps j = some b := by
            unfold yielded
            have : (ops[j]?).bind (·.dst) = some d := hdj
            rw [this]
            simp [hs]
          simp [hy]
        · cases hl
      · cases hl
    · cases hl

/-- what holds while a region is under way -/
structure Inv (P : Program) (E : Evs) (ops : Array Oper) (M : T Nat) (n : Nat) (D : List Nat) (R0 : T Value) (Vf : T Value) (Of : T AObj) (HK : AS) (μ₀ : Mu) (S₀ : AS) (w₀ : World) (listed : Array Bool) (a : Act) (w : World) (pre rest : List Nat) (H : AS) (μ : Mu) (f : Nat → Option AObj) : Prop where
  size : listed.size = ops.size
  closed : ∀ i o, i < ops.size → L listed i → ops[i]? = some o → ∀ e ∈ o.after, Region.binds .any e = true → L listed e.on
  split : bigs ops = pre ++ rest
  facts : Facts P E ops M S₀.nx R0 S₀.h Vf Of HK rest pre H
  done : ∀ d ∈ pre, L listed d
  todo : ∀ d ∈ rest, ¬ L listed d
  fr : FrAt ops n D Vf R0 listed μ a
  rel : RelF μ f w
  goes : GoesF S₀.nx μ₀ S₀.h w₀ μ f w
  base : S₀.nx + ops.size ≤ H.nx
  has : ∀ j o, H.h.get j = some o → f j = some o
  objs : ∀ y o, y < ops.size → L listed y → inD M pre y = false → T.get 10 Of y = some o → f (S₀.nx + y) = some o
  dom : ∀ i, H.nx ≤ i → i < 65536 → μ i = none
  names : ∀ y, y < ops.size → ¬ L listed y → μ (S₀.nx + y) = none
  small : ∀ j o, f j = some o → j < 65536
  absent : ∀ y, y < ops.size → y ∉ pre → inD M pre y = false → H.h.get (S₀.nx + y) = none
  bigO : ∀ d ∈ pre, T.get 10 Of d = none
  good0 : ∃ w₁, Good μ₀ S₀ w₁
  tabs : ∀ j o, S₀.h.get j = some o → o.isTab = true → H.h.get j = some o

theorem mem_bigs {d : Nat} (h : d ∈ bigs ops) : d < ops.size ∧ ∃ o, ops[d]? = some o ∧ isBig o.op = true := by
  unfold bigs at h
  rw [List.mem_filter] at h
  have hlt := List.mem_range.1 h.1
  refine ⟨hlt, ops[d], Array.getElem?_eq_getElem hlt, ?_⟩
  have := h.2
  rw [Array.getElem?_eq_getElem hlt] at this
  exact this

section main
variable {r : Option Nat} {μ₀ : Mu} {S₀ : AS} {w₀ : World} {listed : Array Bool} {a : Act} {w : World} {pre rest : List Nat} {H : AS} {μ : Mu} {f : Nat → Option AObj}
theorem Inv.inD_done (I : Inv P E ops M n D R0 Vf Of HK μ₀ S₀ w₀ listed a w pre rest H μ f) (hm : Made ops ops.size M) {d x : Nat} (hd : d < ops.size) (hL : L listed d) (hx : (msk M d).testBit x = true) : L listed x :=
  hm.done (L := L listed) I.closed d hd (fun o ho => I.closed d o hd hL ho) x hx
theorem Inv.pre_lt (I : Inv P E ops M n D R0 Vf Of HK μ₀ S₀ w₀ listed a w pre rest H μ f) {d : Nat} (h : d ∈ pre) : d < ops.size := (mem_bigs (by rw [I.split]; exact List.mem_append_left _ h)).1
/-- what is at hand for an operation that is ready lies in the heap -/
theorem Inv.at_sub (I : Inv P E ops M n D R0 Vf Of HK μ₀ S₀ w₀ listed a w pre rest H μ f) (hsz : ops.size ≤ 1000) (hlt : S₀.nx + ops.size < 65536) {i : Nat} {V : T Value} {O : T AObj} (hle : Le2 V O Vf Of) (hal : Al V O) (hdone : ∀ x, (msk M i).testBit x = true → L listed x) :
    ∀ j o, (heapAt ops M S₀.nx pre O H.h i).get j = some o → f j = some o := by
  intro j o hj
  rcases addO_get _ _ j o (fun y hy => by have := List.mem_range.1 hy; omega) hj with ⟨y, h1, rfl, h3, h4⟩ | h1
  · have hy := List.mem_range.1 h1
    simp only [selS, Bool.and_eq_true, Bool.not_eq_true'] at h3
    exact I.objs y o hy (hdone y h3.1) h3.2 (hle.obj hal (by omega) h4)
  · exact I.has j o h1
theorem Inv.lt (I : Inv P E ops M n D R0 Vf Of HK μ₀ S₀ w₀ listed a w pre rest H μ f) {j : Nat} {o : AObj} (hj : f j = some o) : j < H.nx := by
  rcases Nat.lt_or_ge j H.nx with h | h
  · exact h
  · obtain ⟨p, hp, _⟩ := I.rel.live j o hj
    rw [I.dom j h (I.small j o hj)] at hp
    cases hp
theorem closed_set (I : Inv P E ops M n D R0 Vf Of HK μ₀ S₀ w₀ listed a w pre rest H μ f) {i : Nat} (hi : i < ops.size) {o : Oper} (ho : ops[i]? = some o) (hp : ∀ e ∈ o.after, Region.binds .any e = true → listed.getD e.on false = true) :
    ∀ j o', j < ops.size → L (listed.setIfInBounds i true) j → ops[j]? = some o' → ∀ e ∈ o'.after, Region.binds .any e = true → L (listed.setIfInBounds i true) e.on := by
  intro j o' hj hL ho' e he hb
  have hs : i < listed.size := by rw [I.size]; exact hi
  rw [L_set hs] at hL ⊢
  rcases hL with hL | rfl
  · exact .inl (I.closed j o' hj hL ho' e he hb)
  · rw [ho] at ho'; cases ho'; exact .inl (hp e he hb)

theorem Facts.phase {rest pre : List Nat} {H : AS} (h : Facts P E ops M base R0 h0 Vf Of HK rest pre H) : PhaseFact P ops M base R0 h0 Vf Of pre rest H.h := by
  cases rest with
  | nil => exact h.1
  | cons d rest => exact h.1
theorem inD_snoc {y d : Nat} : inD M (pre ++ [d]) y = (inD M pre y || (msk M d).testBit y) := by simp [inD]

/-- an operation that changes nothing that is there -/
theorem inv_small (hE : EvsOk P E) (hm : Made ops ops.size M) (hsz : ops.size ≤ 1000) (hlt : S₀.nx + ops.size < 65536) (hd : dstsOk ops n = true) {Q : Exit → Act → World → Prop}
    (I : Inv P E ops M n D R0 Vf Of HK μ₀ S₀ w₀ listed a w pre rest H μ f) {i : Nat} {o : Oper} (hi : i < ops.size) (hun : ¬ L listed i) (ho : ops[i]? = some o) (hp : ∀ e ∈ o.after, Region.binds .any e = true → listed.getD e.on false = true) (hb : isBig o.op = false)
    {K : Act → World → Prop} (hK : ∀ a' w', (∃ pre rest H μ f, Inv P E ops M n D R0 Vf Of HK μ₀ S₀ w₀ (listed.setIfInBounds i true) a' w' pre rest H μ f) → K a' w') : wpOpIn (W r) 0 P ops Q i K a w := by
  have hdone := hm.done (L := L listed) I.closed i hi (fun o' ho' => by rw [ho] at ho'; cases ho'; exact hp)
  have hlive : live M pre rest i = true := by
    unfold live
    simp only [Bool.and_eq_true, List.all_eq_true, Bool.not_eq_true']
    refine ⟨fun d hd => ?_, ?_⟩
    · cases hc : (msk M i).testBit d with
      | false => rfl
      | true => exact absurd (hdone d hc) (I.todo d hd)
    · cases hc : inD M pre i with
      | false => rfl
      | true =>
        unfold inD at hc
        rw [List.any_eq_true] at hc
        obtain ⟨d, h1, h2⟩ := hc
        exact absurd (I.inD_done hm (I.pre_lt h1) (I.done d h1) h2) hun
  have hs : i < listed.size := by rw [I.size]; exact hi
  obtain ⟨V, O, o', v, hle, hal, ho', hr, hV⟩ := I.facts.phase i o hi ho hb hlive
  rw [ho] at ho'
  cases ho'
  have hev := I.fr.ev (Exists.choose_spec I.good0).rel I.goes.le hsz hle hdone hun (fun y hy hL => fun x hx => I.inD_done hm hy hL hx)
  have hnotpre : i ∉ pre := fun h => hun (I.done i h)
  have hset : ∀ j, L (listed.setIfInBounds i true) j ↔ L listed j ∨ j = i := fun j => L_set hs
  unfold smallR at hr
  split at hr
  · cases hr
  · rename_i hw
    split at hr
    · rename_i v' h' hop
      simp only [Option.some.injEq, Prod.mk.injEq] at hr
      obtain ⟨rfl, hob⟩ := hr
      have hwt := I.fr.wanted hsz hd hle hdone hw
      unfold wpOpIn
      simp only [ho, hwt, if_true]
      have hsub := I.at_sub hsz hlt hle hal hdone
      have hg : Good μ ⟨heapAt ops M S₀.nx pre O H.h i, H.nx⟩ w := ⟨I.rel.toRel hsub, I.dom⟩
      have hidn := I.names i hi hun
      have hidlt : S₀.nx + i < H.nx := by have := I.base; omega
      refine plain_wp (S := ⟨heapAt ops M S₀.nx pre O H.h i, H.nx⟩) hg hev hidn hidlt hop fun μ' u w' hu hbh => hK _ _ ?_
      have hfid : f (S₀.nx + i) = none := by
        cases hc : f (S₀.nx + i) with
        | none => rfl
        | some o => obtain ⟨p, h1, _⟩ := I.rel.live _ o hc; rw [hidn] at h1; cases h1
      have hother := fun j (hj : j ≠ S₀.nx + i) => small_only hb hop j hj
      obtain ⟨g, g1, g2, g3, g4, g5⟩ := step_in I.rel I.goes hsub hbh.goes hbh.good.rel (fun j o hj _ => ⟨I.lt hj, fun e => by subst e; rw [hfid] at hj; cases hj⟩) (by have := I.base; dsimp only; omega) (by omega)
      have hf : ∀ j o, f j = some o → g j = some o := by
        intro j o hj
        cases hh : (heapAt ops M S₀.nx pre O H.h i).get j with
        | none => exact g4 j o hj hh
        | some o2 =>
          have e := hsub j o2 hh
          rw [hj] at e
          cases e
          refine g3 j o ?_
          rw [hother j (fun e => by subst e; rw [hfid] at hj; cases hj)]
          exact hh
      refine ⟨pre, rest, H, μ', g, ⟨by simp [I.size], closed_set I hi ho hp, I.split, I.facts, fun d hd => (hset d).2 (.inl (I.done d hd)), fun d hd hL => ?_, (I.fr.mono hbh.goes.le).put hd hi I.size hu hV ho, g1, g2, I.base, fun j o hj => hf j o (I.has j o hj), fun y o2 hy hL hin hO => ?_, hbh.good.dom, fun y hy hL => ?_, fun j o hj => ?_, I.absent, I.bigO, I.good0, I.tabs⟩⟩
      · rcases (hset d).1 hL with h | rfl
        · exact I.todo d hd h
        · obtain ⟨_, o2, h1, h2⟩ := mem_bigs (by rw [I.split]; exact List.mem_append_right _ hd)
          rw [ho] at h1; cases h1; rw [hb] at h2; cases h2
      · rcases (hset y).1 hL with h | rfl
        · exact hf _ _ (I.objs y o2 hy h hin hO)
        · exact g3 _ _ (by rw [hob]; exact hO)
      · have hne : ¬ L listed y ∧ y ≠ i := by
          constructor
          · exact fun h => hL ((hset y).2 (.inl h))
          · exact fun h => hL ((hset y).2 (.inr h))
        rw [(hbh.goes.low (S₀.nx + y) (by have := I.base; dsimp only; omega) (by omega)).1]
        exact I.names y hy hne.1
      · rcases g5 j (by rw [hj]; simp) with h | h
        · cases hc : f j with
          | none => exact absurd hc h
          | some o2 => exact I.small j o2 hc
        · cases hc : h'.get j with
          | none => exact absurd hc h
          | some o2 => exact Heap.get_lt hc
    · cases hr
  · rename_i hw
    simp only [Option.some.injEq, Prod.mk.injEq] at hr
    obtain ⟨rfl, hob⟩ := hr
    have hwt := I.fr.wanted hsz hd hle hdone hw
    unfold wpOpIn
    simp only [ho, hwt, Bool.false_eq_true, if_false]
    refine ⟨fun _ _ => trivial, hK _ _ ⟨pre, rest, H, μ, f, ⟨by simp [I.size], closed_set I hi ho hp, I.split, I.facts, fun d hd => (hset d).2 (.inl (I.done d hd)), fun d hd hL => ?_, I.fr.put hd hi I.size undefVR hV ho, I.rel, I.goes, I.base, I.has, fun y o2 hy hL hin hO => ?_, I.dom, fun y hy hL => I.names y hy fun h => hL ((hset y).2 (.inl h)), I.small, I.absent, I.bigO, I.good0, I.tabs⟩⟩⟩
    · rcases (hset d).1 hL with h | rfl
      · exact I.todo d hd h
      · obtain ⟨_, o2, h1, h2⟩ := mem_bigs (by rw [I.split]; exact List.mem_append_right _ hd)
        rw [ho] at h1; cases h1; rw [hb] at h2; cases h2
    · rcases (hset y).1 hL with h | rfl
      · exact I.objs y o2 hy h hin hO
      · rw [← hob] at hO; cases hO
end main
end
end Go.Ge
