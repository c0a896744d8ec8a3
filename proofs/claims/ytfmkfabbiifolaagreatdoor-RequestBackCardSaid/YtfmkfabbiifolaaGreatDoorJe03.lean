/-
  Joined of: ClauseS, ClauseT, ClauseU.
-/
set_option linter.unusedVariables false
set_option linter.unusedSimpArgs false
/-
  Plain: what a clause's tokens say. Over tokens with their texts; 'rd' reads a value's text; 'len' is the text's length (where the end is).
-/
namespace Go.Proofs.ClauseS

structure Tx where
  kind : Int
  txt : List UInt8
  fr : Int
deriving DecidableEq
structure Tm where
  var : List UInt8
  sym : List UInt8
  num : Int
deriving DecidableEq
structure Lt where
  kind : Int
  who : Tm
  pred : List UInt8
  args : List Tm
deriving DecidableEq
structure Cl where
  head : Lt
  body : List Lt
deriving DecidableEq
def tm0 : Tm := ⟨[], [], 0⟩
/-- gave up: the error, the place; else what was read and what is left -/
abbrev PR (α : Type) := Except (Int × Int) (α × List Tx)
def atT (len : Int) : List Tx → Int
  | [] => len
  | t :: _ => t.fr
def txtT (l : List Tx) (n : Nat) : List UInt8 := ((l[n]?).map (·.txt)).getD []
def kindT : List Tx → Int
  | [] => 0
  | t :: _ => t.kind
-- the signs and words: ':-' ',' '.' '(' ')' '<' '!=' 'not' 'says'
def wIf : List UInt8 := [58, 45]
def wComma : List UInt8 := [44]
def wDot : List UInt8 := [46]
def wOpen : List UInt8 := [40]
def wShut : List UInt8 := [41]
def wLess : List UInt8 := [60]
def wUnlike : List UInt8 := [33, 61]
def wNot : List UInt8 := [110, 111, 116]
def wSays : List UInt8 := [115, 97, 121, 115]

section
variable (rd : List UInt8 → List UInt8 × Int) (len : Int)
def wantS (s : List UInt8) (ts : List Tx) : Except (Int × Int) (List Tx) := if txtT ts 0 = s then .ok ts.tail else .error (6, atT len ts)
def termS : List Tx → PR Tm
  | [] => .error (6, len)
  | t :: r =>
    if t.kind = 2 then .ok (⟨t.txt, [], 0⟩, r)
    else if t.kind = 1 ∨ t.kind = 3 then .ok (⟨[], (rd t.txt).1, (rd t.txt).2⟩, r)
    else .error (6, t.fr)
/-- more of them, each behind a comma, at most so many -/
def moreS {α : Type} (one : List Tx → PR α) : Nat → List α → List Tx → PR (List α)
  | 0, acc, ts => if txtT ts 0 = wComma then .error (2, atT len ts) else .ok (acc, ts)
  | n + 1, acc, ts =>
    if txtT ts 0 = wComma then
      match one ts.tail with
      | .error e => .error e
      | .ok (x, ts') => moreS one n (acc ++ [x]) ts'
    else .ok (acc, ts)
def listS {α : Type} (one : List Tx → PR α) (most : Nat) (ts : List Tx) : PR (List α) :=
  match one ts with
  | .error e => .error e
  | .ok (x, ts') => moreS len one (most - 1) [x] ts'
def atomS (ts : List Tx) : PR (List UInt8 × List Tm) :=
  if kindT ts = 1 then
    if txtT ts.tail 0 = wOpen then
      match listS len (termS rd len) 4 ts.tail.tail with
      | .error e => .error e
      | .ok (l, ts') =>
        match wantS len wShut ts' with
        | .error e => .error e
        | .ok ts'' => .ok ((txtT ts 0, l), ts'')
    else .ok ((txtT ts 0, []), ts.tail)
  else .error (6, atT len ts)
def saidS (kind : Int) (ts : List Tx) : PR Lt :=
  if kindT ts = 2 ∨ (kindT ts = 1 ∧ txtT ts 1 = wSays) then
    match termS rd len ts with
    | .error e => .error e
    | .ok (w, ts') =>
      match wantS len wSays ts' with
      | .error e => .error e
      | .ok ts'' =>
        match atomS rd len ts'' with
        | .error e => .error e
        | .ok (a, r) => .ok (⟨kind, w, a.1, a.2⟩, r)
  else
    match atomS rd len ts with
    | .error e => .error e
    | .ok (a, r) => .ok (⟨kind, tm0, a.1, a.2⟩, r)
def compS (ts : List Tx) : PR Lt :=
  match termS rd len ts with
  | .error e => .error e
  | .ok (a, ts') =>
    if txtT ts' 0 = wLess then
      match termS rd len ts'.tail with
      | .error e => .error e
      | .ok (b, r) => .ok (⟨3, tm0, [], [a, b]⟩, r)
    else if txtT ts' 0 = wUnlike then
      match termS rd len ts'.tail with
      | .error e => .error e
      | .ok (b, r) => .ok (⟨4, tm0, [], [a, b]⟩, r)
    else .error (6, atT len ts')
def literalS (ts : List Tx) : PR Lt :=
  if txtT ts 0 = wNot then saidS rd len 2 ts.tail
  else if kindT ts = 3 ∨ txtT ts 1 = wLess ∨ txtT ts 1 = wUnlike then compS rd len ts
  else saidS rd len 1 ts
def endS (ts : List Tx) : Except (Int × Int) Unit := if ts = [] then .ok () else .error (6, atT len ts)
def clauseS (ts : List Tx) : PR Cl :=
  match atomS rd len ts with
  | .error e => .error e
  | .ok (a, ts1) =>
    if txtT ts1 0 = wIf then
      match listS len (literalS rd len) 6 ts1.tail with
      | .error e => .error e
      | .ok (b, ts2) =>
        match wantS len wDot ts2 with
        | .error e => .error e
        | .ok ts3 => .ok (⟨⟨1, tm0, a.1, a.2⟩, b⟩, ts3)
    else
      match wantS len wDot ts1 with
      | .error e => .error e
      | .ok ts3 => .ok (⟨⟨1, tm0, a.1, a.2⟩, []⟩, ts3)
def wholeS {α : Type} (one : List Tx → PR α) (ts : List Tx) : Except (Int × Int) α :=
  match one ts with
  | .error e => .error e
  | .ok (x, r) => match endS len r with
    | .error e => .error e
    | .ok _ => .ok x

/-! What is left is the end of what was there. -/
def Ends (r ts : List Tx) : Prop := ∃ n, r = ts.drop n
theorem Ends.refl (ts : List Tx) : Ends ts ts := ⟨0, rfl⟩
theorem Ends.tail (ts : List Tx) : Ends ts.tail ts := ⟨1, by simp⟩
theorem Ends.trans {a b c : List Tx} (h : Ends a b) (k : Ends b c) : Ends a c := by
  obtain ⟨n, rfl⟩ := h; obtain ⟨m, rfl⟩ := k; exact ⟨m + n, by rw [List.drop_drop]⟩
theorem wantS_ends {s : List UInt8} {ts r : List Tx} (h : wantS len s ts = .ok r) : Ends r ts := by
  unfold wantS at h; split at h
  · injection h with h; subst h; exact Ends.tail _
  · cases h
theorem termS_ends {ts r : List Tx} {x : Tm} (h : termS rd len ts = .ok (x, r)) : Ends r ts := by
  unfold termS at h
  split at h
  · cases h
  · split at h
    · injection h with h; injection h with _ h; subst h; exact ⟨1, rfl⟩
    · split at h
      · injection h with h; injection h with _ h; subst h; exact ⟨1, rfl⟩
      · cases h
theorem moreS_ends {α : Type} {one : List Tx → PR α} (ho : ∀ ts x r, one ts = .ok (x, r) → Ends r ts) : ∀ (n : Nat) (acc : List α) (ts : List Tx) (l : List α) (r : List Tx), moreS len one n acc ts = .ok (l, r) → Ends r ts
  | 0, acc, ts, l, r, h => by
    unfold moreS at h; split at h
    · cases h
    · injection h with h; injection h with _ h; subst h; exact Ends.refl _
  | n + 1, acc, ts, l, r, h => by
    unfold moreS at h; split at h
    · split at h
      · cases h
      · rename_i x ts' hx
        exact ((moreS_ends ho n _ _ _ _ h).trans (ho _ _ _ hx)).trans (Ends.tail _)
    · injection h with h; injection h with _ h; subst h; exact Ends.refl _
theorem listS_ends {α : Type} {one : List Tx → PR α} (ho : ∀ ts x r, one ts = .ok (x, r) → Ends r ts) {n : Nat} {ts r : List Tx} {l : List α} (h : listS len one n ts = .ok (l, r)) : Ends r ts := by
  unfold listS at h; split at h
  · cases h
  · rename_i x ts' hx
    exact (moreS_ends len ho _ _ _ _ _ h).trans (ho _ _ _ hx)
theorem atomS_ends {ts r : List Tx} {x : List UInt8 × List Tm} (h : atomS rd len ts = .ok (x, r)) : Ends r ts := by
  unfold atomS at h; split at h
  · split at h
    · split at h
      · cases h
      · rename_i l ts' hl
        split at h
        · cases h
        · rename_i ts'' hw
          injection h with h; injection h with _ h; subst h
          exact ((wantS_ends len hw).trans (listS_ends len (fun _ _ _ h => termS_ends rd len h) hl)).trans ((Ends.tail _).trans (Ends.tail _))
    · injection h with h; injection h with _ h; subst h; exact Ends.tail _
  · cases h
theorem saidS_ends {k : Int} {ts r : List Tx} {x : Lt} (h : saidS rd len k ts = .ok (x, r)) : Ends r ts := by
  unfold saidS at h; split at h
  · split at h
    · cases h
    · rename_i w ts' hw
      split at h
      · cases h
      · rename_i ts'' hs
        split at h
        · cases h
        · rename_i a r' ha
          injection h with h; injection h with _ h; subst h
          exact ((atomS_ends rd len ha).trans (wantS_ends len hs)).trans (termS_ends rd len hw)
  · split at h
    · cases h
    · rename_i a r' ha
      injection h with h; injection h with _ h; subst h
      exact atomS_ends rd len ha
theorem compS_ends {ts r : List Tx} {x : Lt} (h : compS rd len ts = .ok (x, r)) : Ends r ts := by
  unfold compS at h; split at h
  · cases h
  · rename_i a ts' ha
    split at h
    · split at h
      · cases h
      · rename_i b r' hb
        injection h with h; injection h with _ h; subst h
        exact ((termS_ends rd len hb).trans (Ends.tail _)).trans (termS_ends rd len ha)
    · split at h
      · split at h
        · cases h
        · rename_i b r' hb
          injection h with h; injection h with _ h; subst h
          exact ((termS_ends rd len hb).trans (Ends.tail _)).trans (termS_ends rd len ha)
      · cases h
theorem literalS_ends {ts r : List Tx} {x : Lt} (h : literalS rd len ts = .ok (x, r)) : Ends r ts := by
  unfold literalS at h; split at h
  · exact (saidS_ends rd len h).trans (Ends.tail _)
  · split at h
    · exact compS_ends rd len h
    · exact saidS_ends rd len h

/-! The document's reader asks otherwise which literal is a comparison; it comes to the same. -/
def literalR (ts : List Tx) : PR Lt :=
  if txtT ts 0 = wNot then saidS rd len 2 ts.tail
  else if kindT ts = 3 ∨ (kindT ts = 2 ∧ txtT ts 1 ≠ wSays) ∨ (kindT ts = 1 ∧ (txtT ts 1 = wLess ∨ txtT ts 1 = wUnlike)) then compS rd len ts
  else saidS rd len 1 ts
theorem literalR_eq (ts : List Tx) : literalR rd len ts = literalS rd len ts := by
  unfold literalR literalS
  split
  · rfl
  · cases ts with
    | nil => simp [kindT, txtT, wLess, wUnlike]
    | cons t r =>
      have h1 : txtT (t :: r) 1 = txtT r 0 := by simp [txtT]
      have hk : kindT (t :: r) = t.kind := rfl
      rw [h1, hk]
      by_cases k3 : t.kind = 3
      · simp [k3]
      · by_cases k2 : t.kind = 2
        · by_cases hl : txtT r 0 = wLess
          · rw [if_pos (.inr (.inl ⟨k2, by rw [hl]; decide⟩)), if_pos (.inr (.inl hl))]
          · by_cases hu : txtT r 0 = wUnlike
            · rw [if_pos (.inr (.inl ⟨k2, by rw [hu]; decide⟩)), if_pos (.inr (.inr hu))]
            · rw [if_neg (show ¬ (t.kind = 3 ∨ txtT r 0 = wLess ∨ txtT r 0 = wUnlike) from fun h => h.elim k3 fun h => h.elim hl hu)]
              by_cases hs : txtT r 0 = wSays
              · rw [if_neg (fun h => h.elim k3 fun h => h.elim (fun h => h.2 hs) fun h => by omega)]
              · rw [if_pos (.inr (.inl ⟨k2, hs⟩))]
                simp [compS, saidS, termS, k2, hl, hu, hk, wantS, hs]
        · by_cases k1 : t.kind = 1
          · by_cases hc : txtT r 0 = wLess ∨ txtT r 0 = wUnlike
            · rw [if_pos (.inr (.inr ⟨k1, hc⟩)), if_pos (.inr hc)]
            · rw [if_neg (fun h => h.elim k3 fun h => h.elim (fun h => k2 h.1) fun h => hc h.2), if_neg (fun h => h.elim k3 hc)]
          · rw [if_neg (fun h => h.elim k3 fun h => h.elim (fun h => k2 h.1) fun h => k1 h.1)]
            split
            · simp [compS, saidS, termS, atomS, k1, k2, k3, hk, atT]
            · rfl
end
end Go.Proofs.ClauseS

/-
  Plain: the tokens that a clause is written as are read as that clause.
-/
namespace Go.Proofs.ClauseS

abbrev KT := Int × List UInt8
def Tx.kt (t : Tx) : KT := (t.kind, t.txt)
def words : List (List UInt8) := [wIf, wComma, wDot, wOpen, wShut, wLess, wUnlike, wNot, wSays]
/-- what can stand behind a term or an atom in a list -/
def Fol (r : List Tx) : Prop := txtT r 0 = wComma ∨ txtT r 0 = wShut ∨ txtT r 0 = wDot ∨ txtT r 0 = []
theorem txt_cons (t : Tx) (r : List Tx) : txtT (t :: r) 0 = t.txt := rfl
theorem txt_succ (t : Tx) (r : List Tx) (n : Nat) : txtT (t :: r) (n + 1) = txtT r n := by simp [txtT]
theorem kind_cons (t : Tx) (r : List Tx) : kindT (t :: r) = t.kind := rfl
theorem not_word {s w : List UInt8} (h : s ∉ words) (hw : w ∈ words) : s ≠ w := fun e => h (e ▸ hw)
theorem Fol.ne {r : List Tx} (h : Fol r) {w : List UInt8} (hc : wComma ≠ w) (hs : wShut ≠ w) (hd : wDot ≠ w) (hn : [] ≠ w) : txtT r 0 ≠ w := by
  rcases h with h | h | h | h <;> rw [h] <;> assumption

section
variable (rd : List UInt8 → List UInt8 × Int) (tv : List UInt8 → Int → List UInt8) (len : Int)
def tkTm (t : Tm) : KT := if t.var ≠ [] then (2, t.var) else if t.sym ≠ [] then (1, tv t.sym t.num) else (3, tv t.sym t.num)
/-- a term that may be: its text is no sign and no word, and is read as it was -/
structure GoodT (t : Tm) : Prop where
  var : t.var ≠ [] → t.sym = [] ∧ t.num = 0 ∧ t.var ∉ words
  val : t.var = [] → rd (tv t.sym t.num) = (t.sym, t.num) ∧ tv t.sym t.num ∉ words
theorem tk_plain {t : Tm} (h : GoodT rd tv t) : (tkTm tv t).2 ∉ words := by
  unfold tkTm
  by_cases hv : t.var = []
  · rw [if_neg (by simpa using hv)]
    split <;> exact (h.val hv).2
  · rw [if_pos hv]; exact (h.var hv).2.2
theorem term_tok {t : Tm} (h : GoodT rd tv t) {x : Tx} (hx : x.kt = tkTm tv t) (r : List Tx) : termS rd len (x :: r) = .ok (t, r) := by
  obtain ⟨k, s, f⟩ := x
  obtain ⟨v, y, n⟩ := t
  unfold tkTm Tx.kt at hx
  unfold termS
  dsimp only at hx ⊢
  by_cases hv : v = []
  · subst hv
    rw [if_neg (by simp)] at hx
    have h2 := (h.val rfl).1
    dsimp only at h2
    split at hx
    all_goals
      injection hx with hk hs
      subst hk hs
      rw [if_neg (by decide), if_pos (by decide), h2]
  · rw [if_pos hv] at hx
    injection hx with hk hs
    subst hk hs
    obtain ⟨h1, h2, _⟩ := h.var hv
    dsimp only at h1 h2
    subst h1 h2
    rw [if_pos rfl]
def sepL {α : Type} (f : α → List KT) : List α → List KT
  | [] => []
  | x :: l => f x ++ l.flatMap fun y => (4, wComma) :: f y
def tkAtom (p : List UInt8) (l : List Tm) : List KT := (1, p) :: (if l = [] then [] else (4, wOpen) :: (sepL (fun t => [tkTm tv t]) l ++ [(4, wShut)]))
theorem kt_fol {c : Tx} (h : c.kt = (4, wComma)) (r : List Tx) : Fol (c :: r) := .inl (by rw [txt_cons]; exact (Prod.mk.inj h).2)
theorem moreS_tok {α : Type} (one : List Tx → PR α) (tk : α → List KT) (r : List Tx) (hr : txtT r 0 ≠ wComma) (hf : Fol r) : ∀ (l : List α) (_ : ∀ x ∈ l, ∀ pre r', pre.map Tx.kt = tk x → Fol r' → one (pre ++ r') = .ok (x, r'))
    (n : Nat) (acc : List α) (pre : List Tx), pre.map Tx.kt = (l.flatMap fun y => (4, wComma) :: tk y) → l.length ≤ n → moreS len one n acc (pre ++ r) = .ok (acc ++ l, r)
  | [], _, n, acc, pre, hp, _ => by
    have : pre = [] := by simpa using hp
    subst this
    rw [List.nil_append, List.append_nil]
    cases n <;> unfold moreS <;> rw [if_neg hr]
  | x :: l, ho, 0, acc, pre, hp, hn => by simp at hn
  | x :: l, ho, n + 1, acc, pre, hp, hn => by
    rw [List.flatMap_cons, List.cons_append] at hp
    obtain ⟨c, p, rfl, hc, hp⟩ := List.map_eq_cons_iff.1 hp
    obtain ⟨p1, p2, rfl, h1, h2⟩ := List.map_eq_append_iff.1 hp
    have hfol : Fol (p2 ++ r) := by
      cases l with
      | nil =>
        have : p2 = [] := by simpa using h2
        subst this; exact hf
      | cons y l =>
        rw [List.flatMap_cons, List.cons_append] at h2
        obtain ⟨c2, p3, rfl, hc2, _⟩ := List.map_eq_cons_iff.1 h2
        exact kt_fol hc2 _
    have hone := ho x (List.mem_cons_self ..) p1 (p2 ++ r) h1 hfol
    have ih := moreS_tok one tk r hr hf l (fun y hy => ho y (List.mem_cons_of_mem _ hy)) n (acc ++ [x]) p2 h2 (by simpa using hn)
    rw [List.cons_append, List.append_assoc]
    unfold moreS
    rw [txt_cons, if_pos (Prod.mk.inj hc).2, List.tail_cons, hone]
    dsimp only
    rw [ih, List.append_assoc]; rfl
theorem listS_tok {α : Type} (one : List Tx → PR α) (tk : α → List KT) (r : List Tx) (hr : txtT r 0 ≠ wComma) (hf : Fol r) (l : List α) (hl : l ≠ []) (ho : ∀ x ∈ l, ∀ pre r', pre.map Tx.kt = tk x → Fol r' → one (pre ++ r') = .ok (x, r'))
    (n : Nat) (pre : List Tx) (hp : pre.map Tx.kt = sepL tk l) (hn : l.length ≤ n) : listS len one n (pre ++ r) = .ok (l, r) := by
  cases l with
  | nil => exact absurd rfl hl
  | cons x l =>
    obtain ⟨p1, p2, rfl, h1, h2⟩ := List.map_eq_append_iff.1 hp
    have hfol : Fol (p2 ++ r) := by
      cases l with
      | nil =>
        have : p2 = [] := by simpa using h2
        subst this; exact hf
      | cons y l =>
        rw [List.flatMap_cons, List.cons_append] at h2
        obtain ⟨c2, p3, rfl, hc2, _⟩ := List.map_eq_cons_iff.1 h2
        exact kt_fol hc2 _
    have hone := ho x (List.mem_cons_self ..) p1 (p2 ++ r) h1 hfol
    unfold listS
    rw [List.append_assoc, hone]
    dsimp only
    rw [moreS_tok len one tk r hr hf l (fun y hy => ho y (List.mem_cons_of_mem _ hy)) (n - 1) [x] p2 h2 (by simp at hn; omega)]
    rfl
theorem atom_tok {p : List UInt8} {l : List Tm} (hl : l.length ≤ 4) (hg : ∀ t ∈ l, GoodT rd tv t) (pre r : List Tx) (hp : pre.map Tx.kt = tkAtom tv p l) (hr : txtT r 0 ≠ wOpen) : atomS rd len (pre ++ r) = .ok ((p, l), r) := by
  unfold tkAtom at hp
  obtain ⟨c, q, rfl, hc, hq⟩ := List.map_eq_cons_iff.1 hp
  obtain ⟨hk, ht⟩ := Prod.mk.inj hc
  rw [List.cons_append]
  unfold atomS
  rw [kind_cons, if_pos hk, List.tail_cons]
  by_cases h0 : l = []
  · rw [if_pos h0] at hq
    have : q = [] := by simpa using hq
    subst this
    rw [List.nil_append, if_neg hr, txt_cons, ht, h0]
  · rw [if_neg h0] at hq
    obtain ⟨o, q1, rfl, ho, hq1⟩ := List.map_eq_cons_iff.1 hq
    obtain ⟨q2, q3, rfl, h2, h3⟩ := List.map_eq_append_iff.1 hq1
    obtain ⟨s, q4, rfl, hs, h4⟩ := List.map_eq_cons_iff.1 h3
    have : q4 = [] := by simpa using h4
    subst this
    have hst : s.txt = wShut := (Prod.mk.inj hs).2
    rw [List.cons_append, txt_cons, if_pos (Prod.mk.inj ho).2, List.tail_cons, List.append_assoc, List.singleton_append,
      listS_tok len (termS rd len) (fun t => [tkTm tv t]) (s :: r) (by rw [txt_cons, hst]; decide) (.inr (.inl (by rw [txt_cons, hst]))) l h0
        (fun x hx pre r' hpre _ => by
          obtain ⟨a, b, rfl, ha, hb⟩ := List.map_eq_cons_iff.1 hpre
          have : b = [] := by simpa using hb
          subst this
          exact term_tok rd tv len (hg x hx) ha r') 4 q2 h2 hl]
    dsimp only
    unfold wantS
    rw [txt_cons, if_pos hst]
    dsimp only
    rw [txt_cons, ht]; rfl
end
end Go.Proofs.ClauseS

/-
  Plain: the tokens that a literal, a clause is written as are read as it.
-/
namespace Go.Proofs.ClauseS
section
variable (rd : List UInt8 → List UInt8 × Int) (tv : List UInt8 → Int → List UInt8) (len : Int)
def whoT (t : Tm) : List KT := if t = tm0 then [] else [tkTm tv t, (5, wSays)]
def tkSaid (l : Lt) : List KT := whoT tv l.who ++ tkAtom tv l.pred l.args
def tkLit (l : Lt) : List KT :=
  if l.kind = 1 then tkSaid tv l
  else if l.kind = 2 then (5, wNot) :: tkSaid tv l
  else [tkTm tv (l.args.getD 0 tm0), (4, if l.kind = 3 then wLess else wUnlike), tkTm tv (l.args.getD 1 tm0)]
/-- what may be said: its speaker, its name, its terms -/
structure GoodS (l : Lt) : Prop where
  who : l.who = tm0 ∨ GoodT rd tv l.who ∧ (l.who.var ≠ [] ∨ l.who.sym ≠ [])
  pred : l.pred ∉ words
  few : l.args.length ≤ 4
  args : ∀ t ∈ l.args, GoodT rd tv t
/-- a comparison that may be -/
structure GoodC (l : Lt) : Prop where
  kind : l.kind = 3 ∨ l.kind = 4
  who : l.who = tm0
  pred : l.pred = []
  two : ∃ a b, l.args = [a, b] ∧ GoodT rd tv a ∧ GoodT rd tv b
def GoodL (l : Lt) : Prop := (l.kind = 1 ∨ l.kind = 2) ∧ GoodS rd tv l ∨ GoodC rd tv l
structure GoodK (c : Cl) : Prop where
  kind : c.head.kind = 1
  who : c.head.who = tm0
  head : GoodS rd tv c.head
  few : c.body.length ≤ 6
  body : ∀ l ∈ c.body, GoodL rd tv l
def tkCl (c : Cl) : List KT := tkAtom tv c.head.pred c.head.args ++ ((if c.body = [] then [] else (4, wIf) :: sepL (tkLit tv) c.body) ++ [(4, wDot)])
theorem atom_second {p : List UInt8} {l : List Tm} {pre r : List Tx} (hp : pre.map Tx.kt = tkAtom tv p l) (hf : Fol r) {w : List UInt8} (hc : wComma ≠ w) (hs : wShut ≠ w) (hd : wDot ≠ w) (hn : [] ≠ w) (ho : wOpen ≠ w) : txtT (pre ++ r) 1 ≠ w := by
  unfold tkAtom at hp
  obtain ⟨c, q, rfl, _, hq⟩ := List.map_eq_cons_iff.1 hp
  rw [List.cons_append, txt_succ]
  split at hq
  · have : q = [] := by simpa using hq
    subst this
    exact hf.ne hc hs hd hn
  · obtain ⟨o, q1, rfl, hk, _⟩ := List.map_eq_cons_iff.1 hq
    rw [List.cons_append, txt_cons, (Prod.mk.inj hk).2]
    exact ho
theorem atom_first {p : List UInt8} {l : List Tm} {pre : List Tx} (hp : pre.map Tx.kt = tkAtom tv p l) (r : List Tx) : kindT (pre ++ r) = 1 ∧ txtT (pre ++ r) 0 = p := by
  unfold tkAtom at hp
  obtain ⟨c, q, rfl, hc, _⟩ := List.map_eq_cons_iff.1 hp
  exact ⟨(Prod.mk.inj hc).1, (Prod.mk.inj hc).2⟩
theorem said_tok {l : Lt} (h : GoodS rd tv l) (k : Int) (pre r : List Tx) (hp : pre.map Tx.kt = tkSaid tv l) (hf : Fol r) : saidS rd len k (pre ++ r) = .ok (⟨k, l.who, l.pred, l.args⟩, r) := by
  unfold tkSaid whoT at hp
  have hro : txtT r 0 ≠ wOpen := hf.ne (by decide) (by decide) (by decide) (by decide)
  by_cases hw : l.who = tm0
  · rw [if_pos hw, List.nil_append] at hp
    unfold saidS
    rw [if_neg, atom_tok rd tv len h.few h.args pre r hp hro, hw]
    intro hh
    have hk := (atom_first tv hp r).1
    rcases hh with e | ⟨_, e⟩
    · omega
    · exact atom_second tv hp hf (by decide) (by decide) (by decide) (by decide) (by decide) e
  · rw [if_neg hw] at hp
    obtain ⟨x, q, rfl, hx, hq⟩ := List.map_eq_cons_iff.1 hp
    obtain ⟨s, p, rfl, hs, hp⟩ := List.map_eq_cons_iff.1 hq
    have hp : p.map Tx.kt = tkAtom tv l.pred l.args := hp
    have hst : s.txt = wSays := (Prod.mk.inj hs).2
    obtain ⟨hg, hv⟩ := h.who.resolve_left hw
    unfold saidS
    rw [List.cons_append, List.cons_append, if_pos, term_tok rd tv len hg hx]
    · dsimp only
      unfold wantS
      rw [txt_cons, if_pos hst]
      dsimp only
      rw [List.tail_cons, atom_tok rd tv len h.few h.args p r hp hro]
    · rw [kind_cons, txt_succ, txt_cons]
      unfold tkTm Tx.kt at hx
      by_cases hv0 : l.who.var = []
      · rw [if_neg (by simpa using hv0), if_pos (hv.resolve_left (fun e => e hv0))] at hx
        exact .inr ⟨(Prod.mk.inj hx).1, hst⟩
      · rw [if_pos hv0] at hx
        exact .inl (Prod.mk.inj hx).1
theorem said_firsts {l : Lt} (h : GoodS rd tv l) {pre r : List Tx} (hp : pre.map Tx.kt = tkSaid tv l) (hf : Fol r) : txtT (pre ++ r) 0 ≠ wNot ∧ kindT (pre ++ r) ≠ 3 ∧ txtT (pre ++ r) 1 ≠ wLess ∧ txtT (pre ++ r) 1 ≠ wUnlike := by
  unfold tkSaid whoT at hp
  by_cases hw : l.who = tm0
  · rw [if_pos hw, List.nil_append] at hp
    obtain ⟨h1, h2⟩ := atom_first tv hp r
    refine ⟨by rw [h2]; exact not_word h.pred (by decide), by omega, ?_, ?_⟩ <;> exact atom_second tv hp hf (by decide) (by decide) (by decide) (by decide) (by decide)
  · rw [if_neg hw] at hp
    obtain ⟨x, q, rfl, hx, hq⟩ := List.map_eq_cons_iff.1 hp
    obtain ⟨s, p, rfl, hs, hp⟩ := List.map_eq_cons_iff.1 hq
    have hst : s.txt = wSays := (Prod.mk.inj hs).2
    obtain ⟨hg, hv⟩ := h.who.resolve_left hw
    have hxt : x.txt ∉ words := by
      have := tk_plain rd tv hg
      rw [← hx] at this; exact this
    refine ⟨by rw [List.cons_append, txt_cons]; exact not_word hxt (by decide), ?_, ?_, ?_⟩
    · rw [List.cons_append, kind_cons]
      unfold tkTm Tx.kt at hx
      by_cases hv0 : l.who.var = []
      · rw [if_neg (by simpa using hv0), if_pos (hv.resolve_left (fun e => e hv0))] at hx
        rw [(Prod.mk.inj hx).1]; decide
      · rw [if_pos hv0] at hx
        rw [(Prod.mk.inj hx).1]; decide
    · rw [List.cons_append, List.cons_append, txt_succ, txt_cons, hst]; decide
    · rw [List.cons_append, List.cons_append, txt_succ, txt_cons, hst]; decide
theorem lit_tok {l : Lt} (h : GoodL rd tv l) (pre r : List Tx) (hp : pre.map Tx.kt = tkLit tv l) (hf : Fol r) : literalS rd len (pre ++ r) = .ok (l, r) := by
  unfold tkLit at hp
  rcases h with ⟨hk, h⟩ | h
  · by_cases k1 : l.kind = 1
    · rw [if_pos k1] at hp
      obtain ⟨n0, n1, n2, n3⟩ := said_firsts rd tv h hp hf
      unfold literalS
      rw [if_neg n0, if_neg (fun e => e.elim n1 fun e => e.elim n2 n3), said_tok rd tv len h 1 pre r hp hf, ← k1]
    · have k2 : l.kind = 2 := hk.resolve_left k1
      rw [if_neg k1, if_pos k2] at hp
      obtain ⟨x, q, rfl, hx, hq⟩ := List.map_eq_cons_iff.1 hp
      unfold literalS
      rw [List.cons_append, txt_cons, if_pos (Prod.mk.inj hx).2, List.tail_cons, said_tok rd tv len h 2 q r hq hf, ← k2]
  · obtain ⟨a, b, hab, ha, hb⟩ := h.two
    have hl : l = ⟨l.kind, tm0, [], [a, b]⟩ := by
      have h1 := h.who; have h2 := h.pred
      obtain ⟨k, w, p, g⟩ := l
      dsimp only at h1 h2 hab
      rw [h1, h2, hab]
    have k1 : l.kind ≠ 1 := fun e => by have := h.kind; omega
    have k2 : l.kind ≠ 2 := fun e => by have := h.kind; omega
    rw [if_neg k1, if_neg k2, hab] at hp
    obtain ⟨x, q, rfl, hx, hq⟩ := List.map_eq_cons_iff.1 hp
    obtain ⟨s, q2, rfl, hs, hq2⟩ := List.map_eq_cons_iff.1 hq
    obtain ⟨y, q3, rfl, hy, hq3⟩ := List.map_eq_cons_iff.1 hq2
    have : q3 = [] := by simpa using hq3
    subst this
    have hxt : x.txt ∉ words := by
      have := tk_plain rd tv ha
      rw [← (show x.kt = tkTm tv a from hx)] at this; exact this
    have hst : s.txt = if l.kind = 3 then wLess else wUnlike := (Prod.mk.inj hs).2
    unfold literalS
    rw [List.cons_append, List.cons_append, List.cons_append, List.nil_append, txt_cons, if_neg (not_word hxt (by decide)), if_pos]
    · unfold compS
      rw [term_tok rd tv len ha hx]
      dsimp only
      rw [txt_cons, List.tail_cons, term_tok rd tv len hb hy]
      by_cases k3 : l.kind = 3
      · rw [if_pos k3] at hst
        rw [if_pos hst]
        dsimp only
        rw [hl, k3]
      · have k4 := h.kind.resolve_left k3
        rw [if_neg k3] at hst
        rw [if_neg (by rw [hst]; decide), if_pos hst]
        dsimp only
        rw [hl, k4]
    · rw [txt_succ, txt_cons, hst]
      by_cases k3 : l.kind = 3
      · rw [if_pos k3]; exact .inr (.inl rfl)
      · rw [if_neg k3]; exact .inr (.inr rfl)
/-- a clause's tokens are read as the clause -/
theorem clause_tok {c : Cl} (h : GoodK rd tv c) (ts : List Tx) (hp : ts.map Tx.kt = tkCl tv c) : wholeS len (clauseS rd len) ts = .ok c := by
  unfold tkCl at hp
  obtain ⟨p1, p2, rfl, h1, h2⟩ := List.map_eq_append_iff.1 hp
  obtain ⟨p3, p4, rfl, h3, h4⟩ := List.map_eq_append_iff.1 h2
  obtain ⟨d, p5, rfl, hd, h5⟩ := List.map_eq_cons_iff.1 h4
  have : p5 = [] := by simpa using h5
  subst this
  have hdt : d.txt = wDot := (Prod.mk.inj hd).2
  have hfd : Fol [d] := .inr (.inr (.inl (by rw [txt_cons, hdt])))
  have hc : c = ⟨⟨1, tm0, c.head.pred, c.head.args⟩, c.body⟩ := by
    have h1 := h.who; have h2 := h.kind
    obtain ⟨⟨k, w, p, g⟩, b⟩ := c
    dsimp only at h1 h2
    rw [h1, h2]
  have hno : txtT (p3 ++ [d]) 0 ≠ wOpen := by
    split at h3
    · have : p3 = [] := by simpa using h3
      subst this
      rw [List.nil_append, txt_cons, hdt]; decide
    · obtain ⟨i, q, rfl, hi, _⟩ := List.map_eq_cons_iff.1 h3
      rw [List.cons_append, txt_cons, (Prod.mk.inj hi).2]; decide
  have hcl : clauseS rd len (p1 ++ (p3 ++ [d])) = .ok (c, []) := by
    unfold clauseS
    rw [atom_tok rd tv len h.head.few h.head.args p1 (p3 ++ [d]) h1 hno]
    dsimp only
    by_cases hb : c.body = []
    · rw [if_pos hb] at h3
      have : p3 = [] := by simpa using h3
      subst this
      rw [List.nil_append, txt_cons, hdt, if_neg (by decide)]
      unfold wantS
      rw [txt_cons, if_pos hdt]
      dsimp only
      rw [hc, hb]; rfl
    · rw [if_neg hb] at h3
      obtain ⟨i, q, rfl, hi, hq⟩ := List.map_eq_cons_iff.1 h3
      rw [List.cons_append, txt_cons, if_pos (Prod.mk.inj hi).2, List.tail_cons,
        listS_tok len (literalS rd len) (tkLit tv) [d] (by rw [txt_cons, hdt]; decide) hfd c.body hb (fun x hx pre r' hpre hf => lit_tok rd tv len (h.body x hx) pre r' hpre hf) 6 q hq h.few]
      dsimp only
      unfold wantS
      rw [txt_cons, if_pos hdt]
      dsimp only
      rw [hc]; rfl
  unfold wholeS
  rw [hcl]
  rfl
/-- and a literal's, that is asked for -/
theorem asked_tok {l : Lt} (h : GoodS rd tv l) (hk : l.kind = 1) (ts : List Tx) (hp : ts.map Tx.kt = tkSaid tv l) : wholeS len (saidS rd len 1) ts = .ok l := by
  have := said_tok rd tv len h 1 ts [] hp (.inr (.inr (.inr rfl)))
  rw [List.append_nil] at this
  unfold wholeS
  rw [this, ← hk]
  rfl
end
end Go.Proofs.ClauseS
