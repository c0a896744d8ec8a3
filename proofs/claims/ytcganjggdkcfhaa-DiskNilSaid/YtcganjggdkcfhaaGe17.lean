/-
  Evaluation of closed calls: regions that draw their order: what is reckoned.
-/
import Derived.Test.YtcganjggdkcfhaaGe16
set_option linter.unusedVariables false
set_option linter.unusedSimpArgs false
namespace Go.Ge

def dstOf (ops : Array Oper) (i : Nat) : Option Tmp := (ops[i]?).bind (·.dst)
def wrF (ops : Array Oper) (t : Tmp) : List Nat → Option Nat
  | [] => none
  | i :: l => if dstOf ops i = some t then some i else wrF ops t l
theorem wrF_spec {ops : Array Oper} {t : Tmp} : ∀ {l : List Nat} {y : Nat}, wrF ops t l = some y → y ∈ l ∧ dstOf ops y = some t
  | [], y, h => by simp [wrF] at h
  | i :: l, y, h => by
    simp only [wrF] at h
    split at h
    · rename_i hd; cases h; exact ⟨List.mem_cons_self .., hd⟩
    · obtain ⟨h1, h2⟩ := wrF_spec h; exact ⟨List.mem_cons_of_mem _ h1, h2⟩
theorem wrF_none {ops : Array Oper} {t : Tmp} : ∀ {l : List Nat}, wrF ops t l = none → ∀ y ∈ l, dstOf ops y ≠ some t
  | [], h, y, hy => by cases hy
  | i :: l, h, y, hy => by
    simp only [wrF] at h
    split at h
    · cases h
    · rename_i hd
      rcases List.mem_cons.1 hy with rfl | hy
      · exact hd
      · exact wrF_none h y hy

def evD (ops : Array Oper) (M : T Nat) (V : T Value) (R0 : T Value) (h0 : Heap) (i : Nat) : Operand → Option Value
  | .tmp t => match wrF ops t (List.range ops.size) with
    | some y => if (msk M i).testBit y = true then T.get 10 V y else if y = i ∨ (msk M y).testBit i = true then rget R0 t else none
    | none => rget R0 t
  | x => aev R0 h0 x
def wantD (ops : Array Oper) (M : T Nat) (V : T Value) (i : Nat) (o : Oper) : Option Bool :=
  match o.guard with
  | none => some true
  | some (j, want) => match dstOf ops j with
    | some d => if (msk M i).testBit j = true then (match T.get 10 V j with
      | some (.bool b) => some (b == want)
      | _ => none) else none
    | none => none
def inD (M : T Nat) (pre : List Nat) (y : Nat) : Bool := pre.any fun d => (msk M d).testBit y
def live (M : T Nat) (pre rest : List Nat) (i : Nat) : Bool := (rest.all fun d => !(msk M i).testBit d) && !inD M pre i
def addO (base : Nat) (O : T AObj) (sel : Nat → Bool) : List Nat → Heap → Heap
  | [], h => h
  | y :: l, h => match T.get 10 O y with
    | some o => if sel y = true then addO base O sel l (h.set (base + y) (some o)) else addO base O sel l h
    | none => addO base O sel l h

section
variable (P : Program) (E : Evs) (ops : Array Oper) (M : T Nat) (base : Nat) (R0 : T Value) (h0 : Heap)
def selS (pre : List Nat) (i : Nat) (y : Nat) : Bool := (msk M i).testBit y && !inD M pre y
def heapAt (pre : List Nat) (O : T AObj) (h : Heap) (i : Nat) : Heap := addO base O (selS M pre i) (List.range ops.size) h
def smallR (pre : List Nat) (V : T Value) (O : T AObj) (h : Heap) (i : Nat) (o : Oper) : Option (Value × Option AObj) :=
  match wantD ops M V i o with
  | none => none
  | some true => match aop P (base + i) (heapAt ops M base pre O h i) (evD ops M V R0 h0 i) o.op with
    | some (v, h') => some (v, h'.get (base + i))
    | none => none
  | some false => some (undef, none)
def smallsF (pre rest : List Nat) (h : Heap) : List Nat → T Value → T AObj → Option (T Value × T AObj)
  | [], V, O => some (V, O)
  | i :: l, V, O => match ops[i]? with
    | none => none
    | some o =>
      if isBig o.op = true then smallsF pre rest h l V O else
      if live M pre rest i = false then smallsF pre rest h l V O else
      match smallR P ops M base R0 h0 pre V O h i o with
      | some (v, ob) => match T.get 10 V i with
        | none => smallsF pre rest h l (T.put 10 V i (some v)) (T.put 10 O i ob)
        | some v0 => if sameV v0 v = true ∧ sameO (T.get 10 O i) ob = true then smallsF pre rest h l V O else none
      | none => none
def bigR (pre : List Nat) (V : T Value) (O : T AObj) (H : AS) (d : Nat) (o : Oper) : Option (Value × AS) :=
  match wantD ops M V d o with
  | none => none
  | some true => opStep P E (evD ops M V R0 h0 d) (base + d) o ⟨heapAt ops M base pre O H.h d, H.nx⟩
  | some false => some (undef, ⟨heapAt ops M base pre O H.h d, H.nx⟩)
def phF : List Nat → List Nat → AS → T Value → T AObj → Option (T Value × T AObj × AS)
  | [], pre, H, V, O => match smallsF P ops M base R0 h0 pre [] H.h (List.range ops.size) V O with
    | some (V', O') => some (V', O', H)
    | none => none
  | d :: rest, pre, H, V, O => match smallsF P ops M base R0 h0 pre (d :: rest) H.h (List.range ops.size) V O with
    | some (V', O') => match ops[d]?, T.get 10 V' d with
      | some o, none => match bigR P E ops M base R0 h0 pre V' O' H d o with
        | some (v, H') => phF rest (pre ++ [d]) H' (T.put 10 V' d (some v)) O'
        | none => none
      | _, _ => none
    | none => none
end
def finR (ops : Array Oper) (n : Nat) (V : T Value) : List Nat → T Value → Option (T Value)
  | [], R => some R
  | i :: l, R => match T.get 10 V i with
    | some v => match rput R n (dstOf ops i) v with
      | some R' => finR ops n V l R'
      | none => none
    | none => none
def chainOk (M : T Nat) : List Nat → Bool
  | [] => true
  | d :: l => (l.all fun i => (msk M i).testBit d) && chainOk M l
def dstsOk (ops : Array Oper) (n : Nat) : Bool := (List.range ops.size).all fun i => match dstOf ops i with
  | some d => decide (d < n) && decide (d < 1024) && (wrF ops d (List.range ops.size) == some i)
  | none => true
def bigs (ops : Array Oper) : List Nat := (List.range ops.size).filter fun i => match ops[i]? with
  | some o => isBig o.op
  | none => false
def drawF (P : Program) : Drawn := fun E ops n R S =>
  if P.follows .mixedOrders = true ∧ ops.size ≤ 1000 ∧ S.nx + ops.size < 65536 ∧ dstsOk ops n = true then
    match maskF ops.toList 0 .leaf with
    | some M =>
      if chainOk M (bigs ops) = true then
        match phF P E ops M S.nx R S.h (bigs ops) [] ⟨S.h, S.nx + ops.size⟩ .leaf .leaf with
        | some (V, O, H) => match finR ops n V (List.range ops.size) R with
          | some R' => some (R', ⟨addO S.nx O (fun y => !inD M (bigs ops) y) (List.range ops.size) H.h, H.nx⟩)
          | none => none
        | none => none
      else none
    | none => none
  else none

/-! ### the facts that it gives -/
def Le2 (V : T Value) (O : T AObj) (V' : T Value) (O' : T AObj) : Prop := ∀ i v, i < 1024 → T.get 10 V i = some v → T.get 10 V' i = some v ∧ T.get 10 O' i = T.get 10 O i
def Al (V : T Value) (O : T AObj) : Prop := ∀ i, i < 1024 → T.get 10 V i = none → T.get 10 O i = none
theorem Le2.refl (V : T Value) (O : T AObj) : Le2 V O V O := fun _ _ _ h => ⟨h, rfl⟩
theorem Le2.trans {V V' V'' : T Value} {O O' O'' : T AObj} (a : Le2 V O V' O') (b : Le2 V' O' V'' O'') : Le2 V O V'' O'' := fun i v hi h => by
  obtain ⟨h1, h2⟩ := a i v hi h
  obtain ⟨h3, h4⟩ := b i v hi h1
  exact ⟨h3, h4.trans h2⟩
theorem Le2.obj {V V' : T Value} {O O' : T AObj} (a : Le2 V O V' O') (al : Al V O) {i : Nat} {o : AObj} (hi : i < 1024) (h : T.get 10 O i = some o) : T.get 10 O' i = some o := by
  cases hv : T.get 10 V i with
  | none => rw [al i hi hv] at h; cases h
  | some v => rw [(a i v hi hv).2]; exact h
theorem Le2.put {V : T Value} {O : T AObj} {i : Nat} {v : Value} {ob : Option AObj} (hi : i < 1024) (hn : T.get 10 V i = none) : Le2 V O (T.put 10 V i (some v)) (T.put 10 O i ob) := fun j u hj h => by
  have hne : j ≠ i := by rintro rfl; rw [hn] at h; cases h
  rw [T.get_put 10 V i j _ (by omega) (by omega), if_neg hne, T.get_put 10 O i j _ (by omega) (by omega), if_neg hne]
  exact ⟨h, rfl⟩
theorem Al.put {V : T Value} {O : T AObj} {i : Nat} {v : Value} {ob : Option AObj} (hi : i < 1024) (al : Al V O) : Al (T.put 10 V i (some v)) (T.put 10 O i ob) := fun j hj h => by
  rw [T.get_put 10 V i j _ (by omega) (by omega)] at h
  split at h
  · cases h
  · rename_i hne
    rw [T.get_put 10 O i j _ (by omega) (by omega), if_neg hne]
    exact al j hj h
theorem Al.putV {V : T Value} {O : T AObj} {i : Nat} {v : Value} (hi : i < 1024) (al : Al V O) : Al (T.put 10 V i (some v)) O := fun j hj h => by
  rw [T.get_put 10 V i j _ (by omega) (by omega)] at h
  split at h
  · cases h
  · exact al j hj h
theorem Le2.putV {V : T Value} {O : T AObj} {i : Nat} {v : Value} (hi : i < 1024) (hn : T.get 10 V i = none) : Le2 V O (T.put 10 V i (some v)) O := fun j u hj h => by
  have hne : j ≠ i := by rintro rfl; rw [hn] at h; cases h
  rw [T.get_put 10 V i j _ (by omega) (by omega), if_neg hne]
  exact ⟨h, rfl⟩

section
variable {P : Program} {E : Evs} {ops : Array Oper} {M : T Nat} {base : Nat} {R0 : T Value} {h0 : Heap}
def SmallFact (P : Program) (ops : Array Oper) (M : T Nat) (base : Nat) (R0 : T Value) (h0 : Heap) (Vf : T Value) (Of : T AObj) (pre : List Nat) (h : Heap) (i : Nat) : Prop :=
  ∃ V O o v, Le2 V O Vf Of ∧ Al V O ∧ ops[i]? = some o ∧ smallR P ops M base R0 h0 pre V O h i o = some (v, T.get 10 Of i) ∧ T.get 10 Vf i = some v
def PhaseFact (P : Program) (ops : Array Oper) (M : T Nat) (base : Nat) (R0 : T Value) (h0 : Heap) (Vf : T Value) (Of : T AObj) (pre rest : List Nat) (h : Heap) : Prop :=
  ∀ i o, i < ops.size → ops[i]? = some o → isBig o.op = false → live M pre rest i = true → SmallFact P ops M base R0 h0 Vf Of pre h i
theorem SmallFact.mono {V V' : T Value} {O O' : T AObj} {pre : List Nat} {h : Heap} {i : Nat} (hi : i < 1024) (x : SmallFact P ops M base R0 h0 V O pre h i) (hl : Le2 V O V' O') : SmallFact P ops M base R0 h0 V' O' pre h i := by
  obtain ⟨V0, O0, o, v, h1, h2, h3, h4, h5⟩ := x
  obtain ⟨h6, h7⟩ := hl i v hi h5
  exact ⟨V0, O0, o, v, h1.trans hl, h2, h3, by rw [h7]; exact h4, h6⟩
theorem smallsF_ok {pre rest : List Nat} {h : Heap} (hsz : ops.size ≤ 1000) : ∀ (l : List Nat) (V : T Value) (O : T AObj) (V' : T Value) (O' : T AObj), (∀ i ∈ l, i < 1024) → Al V O → smallsF P ops M base R0 h0 pre rest h l V O = some (V', O') →
    Le2 V O V' O' ∧ Al V' O' ∧ ∀ i ∈ l, ∀ o, ops[i]? = some o → isBig o.op = false → live M pre rest i = true → SmallFact P ops M base R0 h0 V' O' pre h i
  | [], V, O, V', O', _, al, hl => by simp only [smallsF] at hl; cases hl; exact ⟨Le2.refl _ _, al, fun i hi => by cases hi⟩
  | i :: l, V, O, V', O', hlt, al, hl => by
    have hi : i < 1024 := hlt i (List.mem_cons_self ..)
    have hlt' : ∀ j ∈ l, j < 1024 := fun j hj => hlt j (List.mem_cons_of_mem _ hj)
    simp only [smallsF] at hl
    split at hl
    · cases hl
    · rename_i o ho
      split at hl
      · rename_i hbig
        obtain ⟨h1, h2, h3⟩ := smallsF_ok hsz l V O V' O' hlt' al hl
        refine ⟨h1, h2, fun j hj o' ho' hb hv => ?_⟩
        rcases List.mem_cons.1 hj with rfl | hj
        · rw [ho] at ho'; cases ho'; rw [hbig] at hb; cases hb
        · exact h3 j hj o' ho' hb hv
      · split at hl
        · rename_i hlive
          obtain ⟨h1, h2, h3⟩ := smallsF_ok hsz l V O V' O' hlt' al hl
          refine ⟨h1, h2, fun j hj o' ho' hb hv => ?_⟩
          rcases List.mem_cons.1 hj with rfl | hj
          · rw [hlive] at hv; cases hv
          · exact h3 j hj o' ho' hb hv
        · split at hl
          · rename_i v ob hr
            split at hl
            · rename_i hn
              obtain ⟨h1, h2, h3⟩ := smallsF_ok hsz l _ _ V' O' hlt' (al.put hi) hl
              have hle : Le2 V O (T.put 10 V i (some v)) (T.put 10 O i ob) := Le2.put hi hn
              refine ⟨hle.trans h1, h2, fun j hj o' ho' hb hv => ?_⟩
              rcases List.mem_cons.1 hj with rfl | hj
              · rw [ho] at ho'
                cases ho'
                have k1 : T.get 10 (T.put 10 V j (some v)) j = some v := by rw [T.get_put 10 V j j _ (by omega) (by omega), if_pos rfl]
                have k2 : T.get 10 (T.put 10 O j ob) j = ob := by rw [T.get_put 10 O j j _ (by omega) (by omega), if_pos rfl]
                obtain ⟨k3, k4⟩ := h1 j v hi k1
                exact ⟨V, O, o, v, hle.trans h1, al, ho, by rw [k4, k2]; exact hr, k3⟩
              · exact h3 j hj o' ho' hb hv
            · rename_i v0 hv0
              split at hl
              · rename_i hs
                obtain ⟨h1, h2, h3⟩ := smallsF_ok hsz l V O V' O' hlt' al hl
                refine ⟨h1, h2, fun j hj o' ho' hb hv => ?_⟩
                rcases List.mem_cons.1 hj with rfl | hj
                · rw [ho] at ho'
                  cases ho'
                  have e1 := sameV_eq hs.1
                  have e2 := sameO_eq hs.2
                  obtain ⟨k3, k4⟩ := h1 j v0 hi hv0
                  exact ⟨V, O, o, v, h1, al, ho, by rw [k4, e2]; exact hr, by rw [← e1]; exact k3⟩
                · exact h3 j hj o' ho' hb hv
              · cases hl
          · cases hl

def BigFact (P : Program) (E : Evs) (ops : Array Oper) (M : T Nat) (base : Nat) (R0 : T Value) (h0 : Heap) (Vf : T Value) (Of : T AObj) (pre : List Nat) (H : AS) (d : Nat) (H' : AS) : Prop :=
  ∃ V O o v, Le2 V O Vf Of ∧ Al V O ∧ ops[d]? = some o ∧ bigR P E ops M base R0 h0 pre V O H d o = some (v, H') ∧ T.get 10 Vf d = some v ∧ T.get 10 Of d = none
def Facts (P : Program) (E : Evs) (ops : Array Oper) (M : T Nat) (base : Nat) (R0 : T Value) (h0 : Heap) (Vf : T Value) (Of : T AObj) (HK : AS) : List Nat → List Nat → AS → Prop
  | [], pre, H => PhaseFact P ops M base R0 h0 Vf Of pre [] H.h ∧ H = HK
  | d :: rest, pre, H => PhaseFact P ops M base R0 h0 Vf Of pre (d :: rest) H.h ∧ ∃ H', BigFact P E ops M base R0 h0 Vf Of pre H d H' ∧ Facts P E ops M base R0 h0 Vf Of HK rest (pre ++ [d]) H'
theorem phF_ok (hsz : ops.size ≤ 1000) : ∀ (rest pre : List Nat) (H : AS) (V : T Value) (O : T AObj) (Vf : T Value) (Of : T AObj) (HK : AS), (∀ d ∈ rest, d < 1024) → Al V O → phF P E ops M base R0 h0 rest pre H V O = some (Vf, Of, HK) →
    Le2 V O Vf Of ∧ Al Vf Of ∧ Facts P E ops M base R0 h0 Vf Of HK rest pre H
  | [], pre, H, V, O, Vf, Of, HK, _, al, hl => by
    simp only [phF] at hl
    split at hl
    · rename_i V' O' hs
      cases hl
      obtain ⟨h1, h2, h3⟩ := smallsF_ok hsz _ V O _ _ (fun i hi => by have := List.mem_range.1 hi; omega) al hs
      exact ⟨h1, h2, fun i o hi ho hb hv => h3 i (List.mem_range.2 hi) o ho hb hv, rfl⟩
    · cases hl
  | d :: rest, pre, H, V, O, Vf, Of, HK, hlt, al, hl => by
    have hd : d < 1024 := hlt d (List.mem_cons_self ..)
    simp only [phF] at hl
    split at hl
    · rename_i V' O' hs
      obtain ⟨h1, h2, h3⟩ := smallsF_ok hsz _ V O _ _ (fun i hi => by have := List.mem_range.1 hi; omega) al hs
      split at hl
      · rename_i o ho hn
        split at hl
        · rename_i v H' hb
          obtain ⟨k1, k2, k3⟩ := phF_ok hsz rest (pre ++ [d]) H' _ O' Vf Of HK (fun x hx => hlt x (List.mem_cons_of_mem _ hx)) (h2.putV hd) hl
          have hle : Le2 V' O' (T.put 10 V' d (some v)) O' := Le2.putV hd hn
          have hget : T.get 10 (T.put 10 V' d (some v)) d = some v := by rw [T.get_put 10 V' d d _ (by omega) (by omega), if_pos rfl]
          obtain ⟨k4, k5⟩ := k1 d v hd hget
          refine ⟨h1.trans (hle.trans k1), k2, fun i o hi ho hb hv => (h3 i (List.mem_range.2 hi) o ho hb hv).mono (by omega) (hle.trans k1), H', ⟨V', O', o, v, hle.trans k1, h2, ho, hb, k4, ?_⟩, k3⟩
          rw [k5]
          exact h2 d hd hn
        · cases hl
      · cases hl
    · cases hl

theorem addO_get {O : T AObj} {sel : Nat → Bool} : ∀ (l : List Nat) (h : Heap) (j : Nat) (o : AObj), (∀ y ∈ l, base + y < 65536) → (addO base O sel l h).get j = some o → (∃ y ∈ l, j = base + y ∧ sel y = true ∧ T.get 10 O y = some o) ∨ h.get j = some o
  | [], h, j, o, _, hl => .inr hl
  | y :: l, h, j, o, hlt, hl => by
    have hlt' : ∀ z ∈ l, base + z < 65536 := fun z hz => hlt z (List.mem_cons_of_mem _ hz)
    have up : ((∃ z ∈ l, j = base + z ∧ sel z = true ∧ T.get 10 O z = some o) → ∃ z ∈ y :: l, j = base + z ∧ sel z = true ∧ T.get 10 O z = some o) := fun ⟨z, h1, h2⟩ => ⟨z, List.mem_cons_of_mem _ h1, h2⟩
    simp only [addO] at hl
    split at hl
    · rename_i o' ho'
      split at hl
      · rename_i hs
        rcases addO_get l _ j o hlt' hl with h1 | h1
        · exact .inl (up h1)
        · rw [Heap.get_set _ _ _ _ (hlt y (List.mem_cons_self ..))] at h1
          split at h1
          · rename_i e; cases h1; exact .inl ⟨y, List.mem_cons_self .., e, hs, ho'⟩
          · exact .inr h1
      · rcases addO_get l _ j o hlt' hl with h1 | h1
        · exact .inl (up h1)
        · exact .inr h1
    · rcases addO_get l _ j o hlt' hl with h1 | h1
      · exact .inl (up h1)
      · exact .inr h1
theorem addO_keep {O : T AObj} {sel : Nat → Bool} : ∀ (l : List Nat) (h : Heap) (j : Nat) (o : AObj), (∀ y ∈ l, base + y < 65536) → (∀ y ∈ l, j ≠ base + y) → h.get j = some o → (addO base O sel l h).get j = some o
  | [], h, j, o, _, _, hj => hj
  | y :: l, h, j, o, hlt, hne, hj => by
    have hlt' : ∀ z ∈ l, base + z < 65536 := fun z hz => hlt z (List.mem_cons_of_mem _ hz)
    have hne' : ∀ z ∈ l, j ≠ base + z := fun z hz => hne z (List.mem_cons_of_mem _ hz)
    simp only [addO]
    split
    · split
      · refine addO_keep l _ j o hlt' hne' ?_
        rw [Heap.get_set _ _ _ _ (hlt y (List.mem_cons_self ..)), if_neg (hne y (List.mem_cons_self ..))]
        exact hj
      · exact addO_keep l _ j o hlt' hne' hj
    · exact addO_keep l _ j o hlt' hne' hj
theorem addO_none {O : T AObj} {sel : Nat → Bool} : ∀ (l : List Nat) (h : Heap) (j : Nat), (∀ y ∈ l, base + y < 65536) → h.get j = none → (∀ y ∈ l, j = base + y → sel y = false) → (addO base O sel l h).get j = none := by
  intro l h j hlt hj hs
  cases hg : (addO base O sel l h).get j with
  | none => rfl
  | some o =>
    rcases addO_get l h j o hlt hg with ⟨y, h1, h2, h3, _⟩ | h1
    · rw [hs y h1 h2] at h3; cases h3
    · rw [hj] at h1; cases h1

theorem finR_get {n : Nat} {V : T Value} : ∀ (l : List Nat) (R R' : T Value), finR ops n V l R = some R' → ∀ t v, rget R' t = some v → (∃ y ∈ l, dstOf ops y = some t ∧ T.get 10 V y = some v) ∨ ((∀ y ∈ l, dstOf ops y ≠ some t) ∧ rget R t = some v)
  | [], R, R', hl, t, v, hv => by simp only [finR] at hl; cases hl; exact .inr ⟨fun y hy => (by cases hy), hv⟩
  | i :: l, R, R', hl, t, v, hv => by
    simp only [finR] at hl
    split at hl
    · rename_i u hu
      split at hl
      · rename_i R₁ hR
        rcases finR_get l R₁ R' hl t v hv with ⟨y, h1, h2⟩ | ⟨h1, h2⟩
        · exact .inl ⟨y, List.mem_cons_of_mem _ h1, h2⟩
        · by_cases e : dstOf ops i = some t
          · refine .inl ⟨i, List.mem_cons_self .., e, ?_⟩
            rw [e] at hR
            simp only [rput] at hR
            split at hR
            · rename_i hd
              cases hR
              unfold rget at h2
              rw [if_pos hd.2, T.get_put 10 R t t _ hd.2 hd.2, if_pos rfl] at h2
              simp at h2
              rw [hu, h2]
            · cases hR
          · refine .inr ⟨fun y hy => ?_, ?_⟩
            · rcases List.mem_cons.1 hy with rfl | hy
              · exact e
              · exact h1 y hy
            · cases hd : dstOf ops i with
              | none => rw [hd] at hR; simp only [rput] at hR; cases hR; exact h2
              | some d =>
                rw [hd] at hR
                simp only [rput] at hR
                split at hR
                · rename_i hlt
                  cases hR
                  have hne : t ≠ d := by rintro rfl; exact e hd
                  unfold rget at h2 ⊢
                  split at h2
                  · rename_i ht
                    rw [if_pos ht]
                    rw [T.get_put 10 R d t _ hlt.2 ht, if_neg hne] at h2
                    exact h2
                  · cases h2
                · cases hR
      · cases hl
    · cases hl
theorem chainOk_pair : ∀ {l : List Nat}, chainOk M l = true → l.Pairwise fun d i => (msk M i).testBit d = true
  | [], _ => .nil
  | d :: l, h => by
    simp only [chainOk, Bool.and_eq_true, List.all_eq_true] at h
    exact .cons (fun i hi => h.1 i hi) (chainOk_pair h.2)
end
end Go.Ge
