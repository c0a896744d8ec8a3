/-
  Joined of: ClauseV, ClauseX, Tja, CtkA.
-/
import Derived.Test.YtfmkfabbiifolaaGreatDoorJe03
import Derived.Test.YtfmkfabbiifolaaGreatDoorJa10
import Derived.Test.YtfmkfabbiifolaaGreatDoorJc01
import Derived.Test.YtfmkfabbiifolaaGreatDoorJc02
import Derived.Test.YtfmkfabbiifolaaGreatDoorJa04
set_option linter.unusedVariables false
set_option linter.unusedSimpArgs false
/-
  Plain: whatever is read as a clause is a clause that may be.
-/
namespace Go.Proofs.ClauseS
section
variable (rd : List UInt8 → List UInt8 × Int) (len : Int) (PT PW : Tm → Prop) (PN : List UInt8 → Prop)
structure ShS (l : Lt) : Prop where
  who : l.who = tm0 ∨ PT l.who ∧ PW l.who
  pred : PN l.pred
  few : l.args.length ≤ 4
  args : ∀ t ∈ l.args, PT t
structure ShC (l : Lt) : Prop where
  kind : l.kind = 3 ∨ l.kind = 4
  who : l.who = tm0
  pred : l.pred = []
  two : ∃ a b, l.args = [a, b] ∧ PT a ∧ PT b
def ShL (l : Lt) : Prop := (l.kind = 1 ∨ l.kind = 2) ∧ ShS PT PW PN l ∨ ShC PT l
structure ShK (c : Cl) : Prop where
  kind : c.head.kind = 1
  who : c.head.who = tm0
  head : ShS PT PW PN c.head
  few : c.body.length ≤ 6
  body : ∀ l ∈ c.body, ShL PT PW PN l
/-- what the tokens promise -/
structure TokS (t : Tx) : Prop where
  term : ∀ x r, termS rd len (t :: r) = .ok (x, r) → PT x
  who : t.kind = 1 ∨ t.kind = 2 → ∀ x r, termS rd len (t :: r) = .ok (x, r) → PW x
  name : t.kind = 1 → PN t.txt
def AllT (ts : List Tx) : Prop := ∀ t ∈ ts, TokS rd len PT PW PN t
theorem AllT.ends {ts r : List Tx} (h : AllT rd len PT PW PN ts) (he : Ends r ts) : AllT rd len PT PW PN r := by
  obtain ⟨n, rfl⟩ := he
  exact fun t ht => h t (List.mem_of_mem_drop ht)
theorem AllT.tail {ts : List Tx} (h : AllT rd len PT PW PN ts) : AllT rd len PT PW PN ts.tail := h.ends _ _ _ _ _ (Ends.tail _)
theorem term_form {ts r : List Tx} {x : Tm} (h : termS rd len ts = .ok (x, r)) : ∃ t, ts = t :: r := by
  unfold termS at h
  split at h
  · cases h
  · rename_i t r'
    split at h
    · injection h with h; injection h with _ h; subst h; exact ⟨t, rfl⟩
    · split at h
      · injection h with h; injection h with _ h; subst h; exact ⟨t, rfl⟩
      · cases h
theorem term_sh {ts r : List Tx} {x : Tm} (ha : AllT rd len PT PW PN ts) (h : termS rd len ts = .ok (x, r)) : PT x := by
  obtain ⟨t, rfl⟩ := term_form rd len h
  exact (ha t (List.mem_cons_self ..)).term x r h
theorem moreS_sh {α : Type} {one : List Tx → PR α} {P : α → Prop} (hend : ∀ ts x r, one ts = .ok (x, r) → Ends r ts) (ho : ∀ ts x r, AllT rd len PT PW PN ts → one ts = .ok (x, r) → P x) :
    ∀ (n : Nat) (acc : List α) (ts : List Tx) (l : List α) (r : List Tx), AllT rd len PT PW PN ts → (∀ x ∈ acc, P x) → moreS len one n acc ts = .ok (l, r) → (∀ x ∈ l, P x) ∧ l.length ≤ acc.length + n
  | 0, acc, ts, l, r, _, hacc, h => by
    unfold moreS at h; split at h
    · cases h
    · injection h with h; injection h with h _; subst h; exact ⟨hacc, by omega⟩
  | n + 1, acc, ts, l, r, ha, hacc, h => by
    unfold moreS at h; split at h
    · split at h
      · cases h
      · rename_i x ts' hx
        have hat := ha.tail
        obtain ⟨h1, h2⟩ := moreS_sh hend ho n _ _ _ _ (hat.ends _ _ _ _ _ (hend _ _ _ hx)) (by
          intro y hy
          rcases List.mem_append.1 hy with hy | hy
          · exact hacc y hy
          · rw [List.mem_singleton] at hy; subst hy; exact ho _ _ _ hat hx) h
        exact ⟨h1, by simp at h2; omega⟩
    · injection h with h; injection h with h _; subst h; exact ⟨hacc, by omega⟩
theorem listS_sh {α : Type} {one : List Tx → PR α} {P : α → Prop} (hend : ∀ ts x r, one ts = .ok (x, r) → Ends r ts) (ho : ∀ ts x r, AllT rd len PT PW PN ts → one ts = .ok (x, r) → P x) {n : Nat} (hn : 1 ≤ n) {ts r : List Tx} {l : List α}
    (ha : AllT rd len PT PW PN ts) (h : listS len one n ts = .ok (l, r)) : (∀ x ∈ l, P x) ∧ l.length ≤ n := by
  unfold listS at h; split at h
  · cases h
  · rename_i x ts' hx
    obtain ⟨h1, h2⟩ := moreS_sh rd len PT PW PN hend ho _ _ _ _ _ (ha.ends _ _ _ _ _ (hend _ _ _ hx)) (by
      intro y hy
      rw [List.mem_singleton] at hy; subst hy; exact ho _ _ _ ha hx) h
    exact ⟨h1, by simp at h2; omega⟩
theorem atom_sh {ts r : List Tx} {x : List UInt8 × List Tm} (ha : AllT rd len PT PW PN ts) (h : atomS rd len ts = .ok (x, r)) : PN x.1 ∧ x.2.length ≤ 4 ∧ ∀ t ∈ x.2, PT t := by
  unfold atomS at h; split at h
  · rename_i hk
    have hn : PN (txtT ts 0) := by
      cases ts with
      | nil => cases hk
      | cons t r => exact (ha t (List.mem_cons_self ..)).name hk
    split at h
    · split at h
      · cases h
      · rename_i l ts' hl
        split at h
        · cases h
        · injection h with h; injection h with h _; subst h
          obtain ⟨h1, h2⟩ := listS_sh rd len PT PW PN (fun _ _ _ h => termS_ends rd len h) (fun _ _ _ ha h => term_sh rd len PT PW PN ha h) (by omega) ha.tail.tail hl
          exact ⟨hn, h2, h1⟩
    · injection h with h; injection h with h _; subst h
      exact ⟨hn, by simp, by simp⟩
  · cases h
theorem said_sh {k : Int} {ts r : List Tx} {x : Lt} (ha : AllT rd len PT PW PN ts) (h : saidS rd len k ts = .ok (x, r)) : x.kind = k ∧ ShS PT PW PN x := by
  unfold saidS at h; split at h
  · rename_i hk
    split at h
    · cases h
    · rename_i w ts' hw
      split at h
      · cases h
      · rename_i ts'' hs
        split at h
        · cases h
        · rename_i a r' hat
          injection h with h; injection h with h _; subst h
          obtain ⟨t, rfl⟩ := term_form rd len hw
          have h1 := ha t (List.mem_cons_self ..)
          obtain ⟨a1, a2, a3⟩ := atom_sh rd len PT PW PN ((ha.ends _ _ _ _ _ (termS_ends rd len hw)).ends _ _ _ _ _ (wantS_ends len hs)) hat
          refine ⟨rfl, .inr ⟨h1.term _ _ hw, h1.who ?_ _ _ hw⟩, a1, a2, a3⟩
          rw [kind_cons] at hk
          exact hk.elim .inr fun h => .inl h.1
  · split at h
    · cases h
    · rename_i a r' hat
      injection h with h; injection h with h _; subst h
      obtain ⟨a1, a2, a3⟩ := atom_sh rd len PT PW PN ha hat
      exact ⟨rfl, .inl rfl, a1, a2, a3⟩
theorem comp_sh {ts r : List Tx} {x : Lt} (ha : AllT rd len PT PW PN ts) (h : compS rd len ts = .ok (x, r)) : ShC PT x := by
  unfold compS at h; split at h
  · cases h
  · rename_i a ts' hta
    have h1 := term_sh rd len PT PW PN ha hta
    have ht := (ha.ends _ _ _ _ _ (termS_ends rd len hta)).tail
    split at h
    · split at h
      · cases h
      · rename_i b r' hb
        injection h with h; injection h with h _; subst h
        exact ⟨.inl rfl, rfl, rfl, a, b, rfl, h1, term_sh rd len PT PW PN ht hb⟩
    · split at h
      · split at h
        · cases h
        · rename_i b r' hb
          injection h with h; injection h with h _; subst h
          exact ⟨.inr rfl, rfl, rfl, a, b, rfl, h1, term_sh rd len PT PW PN ht hb⟩
      · cases h
theorem lit_sh {ts r : List Tx} {x : Lt} (ha : AllT rd len PT PW PN ts) (h : literalS rd len ts = .ok (x, r)) : ShL PT PW PN x := by
  unfold literalS at h; split at h
  · obtain ⟨h1, h2⟩ := said_sh rd len PT PW PN ha.tail h
    exact .inl ⟨.inr h1, h2⟩
  · split at h
    · exact .inr (comp_sh rd len PT PW PN ha h)
    · obtain ⟨h1, h2⟩ := said_sh rd len PT PW PN ha h
      exact .inl ⟨.inl h1, h2⟩
/-- what is read may be -/
theorem clause_sh {ts : List Tx} {c : Cl} (ha : AllT rd len PT PW PN ts) (h : wholeS len (clauseS rd len) ts = .ok c) : ShK PT PW PN c := by
  unfold wholeS at h
  split at h
  · cases h
  · rename_i x r hx
    split at h
    · cases h
    · injection h with h; subst h
      unfold clauseS at hx
      split at hx
      · cases hx
      · rename_i a ts1 hat
        obtain ⟨a1, a2, a3⟩ := atom_sh rd len PT PW PN ha hat
        split at hx
        · split at hx
          · cases hx
          · rename_i b ts2 hb
            split at hx
            · cases hx
            · injection hx with hx; injection hx with hx _; subst hx
              obtain ⟨h1, h2⟩ := listS_sh rd len PT PW PN (fun _ _ _ h => literalS_ends rd len h) (fun _ _ _ ha h => lit_sh rd len PT PW PN ha h) (by omega) (ha.ends _ _ _ _ _ (atomS_ends rd len hat)).tail hb
              exact ⟨rfl, rfl, ⟨.inl rfl, a1, a2, a3⟩, h2, h1⟩
        · split at hx
          · cases hx
          · injection hx with hx; injection hx with hx _; subst hx
            exact ⟨rfl, rfl, ⟨.inl rfl, a1, a2, a3⟩, by simp, by simp⟩
theorem asked_sh {ts : List Tx} {x : Lt} (ha : AllT rd len PT PW PN ts) (h : wholeS len (saidS rd len 1) ts = .ok x) : x.kind = 1 ∧ ShS PT PW PN x := by
  unfold wholeS at h
  split at h
  · cases h
  · rename_i y r hx
    split at h
    · cases h
    · injection h with h; subst h
      exact said_sh rd len PT PW PN ha hx
end
end Go.Proofs.ClauseS

/-
  Plain: how a clause is written, what tokens that text has; a clause's variables.
  'Lx' is what a text's tokens are, for any 'one' (the token at a text's head: error, kind, length) and any 'stop' (a token may end ahead of this).
-/
namespace Go.Proofs.ClauseS
section
variable (tv : List UInt8 → Int → List UInt8)
def textTm (t : Tm) : List UInt8 := if t.var ≠ [] then t.var else tv t.sym t.num
/-- one behind the other, with a comma and a blank between -/
def joinX (l : List (List UInt8)) : List UInt8 :=
  match l with
  | [] => []
  | x :: l => x ++ l.flatMap fun y => [44, 32] ++ y
def whoX (t : Tm) : List UInt8 := if t = tm0 then [] else textTm tv t ++ ([32] ++ (wSays ++ [32]))
def atomX (p : List UInt8) (l : List Tm) : List UInt8 := p ++ (if l = [] then [] else [40] ++ (joinX (l.map (textTm tv)) ++ [41]))
def saidX (l : Lt) : List UInt8 := whoX tv l.who ++ atomX tv l.pred l.args
def litX (l : Lt) : List UInt8 :=
  if l.kind = 1 then saidX tv l
  else if l.kind = 2 then wNot ++ ([32] ++ saidX tv l)
  else textTm tv (l.args.getD 0 tm0) ++ ([32] ++ ((if l.kind = 3 then wLess else wUnlike) ++ ([32] ++ textTm tv (l.args.getD 1 tm0))))
def clX (c : Cl) : List UInt8 := atomX tv c.head.pred c.head.args ++ ((if c.body = [] then [] else [32] ++ (wIf ++ ([32] ++ joinX (c.body.map (litX tv))))) ++ wDot)

variable (one : List UInt8 → Int × Int × Nat) (stop : List UInt8 → Prop)
inductive Lx : List UInt8 → List KT → Prop
  | nil : Lx [] []
  | blank {c : UInt8} {r : List UInt8} {ks : List KT} : (one (c :: r)).1 = 4 → Lx r ks → Lx (c :: r) ks
  | tok {w r : List UInt8} {k : Int} {ks : List KT} : w ≠ [] → one (w ++ r) = (0, k, w.length) → Lx r ks → Lx (w ++ r) ((k, w) :: ks)
/-- ahead of whatever stops a token -/
def LxT (w : List UInt8) (ks : List KT) : Prop := ∀ r ks', stop r → Lx one r ks' → Lx one (w ++ r) (ks ++ ks')
/-- ahead of anything -/
def LxA (w : List UInt8) (ks : List KT) : Prop := ∀ r ks', Lx one r ks' → Lx one (w ++ r) (ks ++ ks')
/-- a text that begins with a stop, whatever is behind -/
def Stops (w : List UInt8) : Prop := ∀ r, stop (w ++ r)
variable {one stop}
theorem LxA.toT {w : List UInt8} {ks : List KT} (h : LxA one w ks) : LxT one stop w ks := fun r ks' _ hr => h r ks' hr
theorem LxA.cat {a b : List UInt8} {ka kb : List KT} (h : LxA one a ka) (k : LxA one b kb) : LxA one (a ++ b) (ka ++ kb) := fun r ks' hr => by
  rw [List.append_assoc, List.append_assoc]; exact h _ _ (k _ _ hr)
theorem LxA.catT {a b : List UInt8} {ka kb : List KT} (h : LxA one a ka) (k : LxT one stop b kb) : LxT one stop (a ++ b) (ka ++ kb) := fun r ks' hs hr => by
  rw [List.append_assoc, List.append_assoc]; exact h _ _ (k _ _ hs hr)
theorem LxT.catA {a b : List UInt8} {ka kb : List KT} (h : LxT one stop a ka) (hs : Stops stop b) (k : LxA one b kb) : LxA one (a ++ b) (ka ++ kb) := fun r ks' hr => by
  rw [List.append_assoc, List.append_assoc]; exact h _ _ (hs r) (k _ _ hr)
theorem LxT.cat {a b : List UInt8} {ka kb : List KT} (h : LxT one stop a ka) (hs : Stops stop b) (k : LxT one stop b kb) : LxT one stop (a ++ b) (ka ++ kb) := fun r ks' hr hx => by
  rw [List.append_assoc, List.append_assoc]; exact h _ _ (hs r) (k _ _ hr hx)
theorem LxA.nil : LxA one [] [] := fun _ _ h => h
theorem Stops.app {a b : List UInt8} (h : Stops stop a) : Stops stop (a ++ b) := fun r => by rw [List.append_assoc]; exact h _

/-- what is asked of the reading of tokens -/
structure Reads (one : List UInt8 → Int × Int × Nat) (stop : List UInt8 → Prop) : Prop where
  blank : ∀ r, (one (32 :: r)).1 = 4
  sign : ∀ w, w ∈ [wIf, wComma, wDot, wOpen, wShut, wLess, wUnlike] → ∀ r, one (w ++ r) = (0, 4, w.length)
  word : ∀ w, w ∈ [wNot, wSays] → ∀ r, stop r → one (w ++ r) = (0, 5, w.length)
  stops : ∀ c, c ∈ [(32 : UInt8), 40, 41, 44, 46] → ∀ r, stop (c :: r)
theorem Reads.bl (R : Reads one stop) : LxA one [32] [] := fun r _ hr => Lx.blank (R.blank r) hr
theorem Reads.sg (R : Reads one stop) {w : List UInt8} (hw : w ∈ [wIf, wComma, wDot, wOpen, wShut, wLess, wUnlike]) (h0 : w ≠ []) : LxA one w [(4, w)] := fun r _ hr => Lx.tok h0 (R.sign w hw r) hr
theorem Reads.wd (R : Reads one stop) {w : List UInt8} (hw : w ∈ [wNot, wSays]) (h0 : w ≠ []) : LxT one stop w [(5, w)] := fun r _ hs hr => Lx.tok h0 (R.word w hw r hs) hr
theorem Reads.st (R : Reads one stop) {c : UInt8} (hc : c ∈ [(32 : UInt8), 40, 41, 44, 46]) : Stops stop [c] := fun r => R.stops c hc r
/-- a term, a name that is read as itself -/
def TmX (one : List UInt8 → Int × Int × Nat) (stop : List UInt8 → Prop) (t : Tm) : Prop := textTm tv t ≠ [] ∧ ∀ r, stop r → one (textTm tv t ++ r) = (0, (tkTm tv t).1, (textTm tv t).length)
def NmX (one : List UInt8 → Int × Int × Nat) (stop : List UInt8 → Prop) (p : List UInt8) : Prop := p ≠ [] ∧ ∀ r, stop r → one (p ++ r) = (0, 1, p.length)
theorem tkTm_text (t : Tm) : (tkTm tv t).2 = textTm tv t := by unfold tkTm textTm; split; rfl; split <;> rfl
theorem TmX.lx {t : Tm} (h : TmX tv one stop t) : LxT one stop (textTm tv t) [tkTm tv t] := fun r _ hs hr => by
  have e : tkTm tv t = ((tkTm tv t).1, textTm tv t) := by rw [← tkTm_text]
  rw [e]
  exact Lx.tok h.1 (h.2 r hs) hr
theorem NmX.lx {p : List UInt8} (h : NmX one stop p) : LxT one stop p [(1, p)] := fun r _ hs hr => Lx.tok h.1 (h.2 r hs) hr
/-- a list's text -/
theorem join_lx {α : Type} (R : Reads one stop) (tx : α → List UInt8) (tk : α → List KT) : ∀ (l : List α), (∀ x ∈ l, LxT one stop (tx x) (tk x)) → LxT one stop (joinX (l.map tx)) (sepL tk l)
  | [], _ => LxA.nil.toT
  | x :: l, h => by
    show LxT one stop (tx x ++ (l.map tx).flatMap fun y => [44, 32] ++ y) (tk x ++ l.flatMap fun y => (4, wComma) :: tk y)
    have rest : ∀ l : List α, (∀ x ∈ l, LxT one stop (tx x) (tk x)) → (LxT one stop ((l.map tx).flatMap fun y => [44, 32] ++ y) (l.flatMap fun y => (4, wComma) :: tk y)) ∧ (l ≠ [] → Stops stop ((l.map tx).flatMap fun y => [44, 32] ++ y)) := by
      intro l
      induction l with
      | nil => exact fun _ => ⟨LxA.nil.toT, fun e => absurd rfl e⟩
      | cons y l ih =>
        intro h
        obtain ⟨i1, i2⟩ := ih (fun z hz => h z (List.mem_cons_of_mem _ hz))
        have hy := h y (List.mem_cons_self ..)
        rw [List.map_cons, List.flatMap_cons, List.flatMap_cons]
        have hc : LxA one [44, 32] [(4, wComma)] := (R.sg (w := wComma) (by decide) (by decide)).cat R.bl
        refine ⟨?_, fun _ r => R.stops 44 (by decide) _⟩
        have hcy : LxT one stop ([44, 32] ++ tx y) ((4, wComma) :: tk y) := hc.catT hy
        by_cases e : l = []
        · subst e
          simpa using hcy
        · exact hcy.cat (i2 e) i1
    obtain ⟨i1, i2⟩ := rest l (fun z hz => h z (List.mem_cons_of_mem _ hz))
    by_cases e : l = []
    · subst e
      simpa using h x (List.mem_cons_self ..)
    · exact (h x (List.mem_cons_self ..)).cat (i2 e) i1
theorem atom_lx (R : Reads one stop) {p : List UInt8} {l : List Tm} (hp : NmX one stop p) (hl : ∀ t ∈ l, TmX tv one stop t) : LxT one stop (atomX tv p l) (tkAtom tv p l) := by
  unfold atomX tkAtom
  by_cases e : l = []
  · rw [if_pos e, if_pos e]
    rw [List.append_nil]; exact hp.lx
  · rw [if_neg e, if_neg e]
    have ho : LxA one [40] [(4, wOpen)] := R.sg (w := wOpen) (by decide) (by decide)
    have hs : LxA one [41] [(4, wShut)] := R.sg (w := wShut) (by decide) (by decide)
    have hj := join_lx R (textTm tv) (fun t => [tkTm tv t]) l (fun t ht => (hl t ht).lx)
    have h1 : LxA one ([40] ++ (joinX (l.map (textTm tv)) ++ [41])) ([(4, wOpen)] ++ (sepL (fun t => [tkTm tv t]) l ++ [(4, wShut)])) := ho.cat (hj.catA (R.st (by decide)) hs)
    exact (hp.lx.catA (Stops.app (R.st (by decide))) h1).toT
theorem said_lx (R : Reads one stop) {l : Lt} (hw : l.who = tm0 ∨ TmX tv one stop l.who) (hp : NmX one stop l.pred) (hl : ∀ t ∈ l.args, TmX tv one stop t) : LxT one stop (saidX tv l) (tkSaid tv l) := by
  unfold saidX tkSaid whoX whoT
  have ha := atom_lx tv R hp hl
  by_cases e : l.who = tm0
  · rw [if_pos e, if_pos e]; exact ha
  · rw [if_neg e, if_neg e]
    have hs : LxA one (wSays ++ [32]) ([(5, wSays)] ++ []) := (R.wd (w := wSays) (by decide) (by decide)).catA (R.st (by decide)) R.bl
    have h1 : LxA one ([32] ++ (wSays ++ [32])) ([] ++ ([(5, wSays)] ++ [])) := R.bl.cat hs
    have h2 := ((hw.resolve_left e).lx).catA (Stops.app (R.st (c := 32) (by decide))) h1
    exact h2.catT ha
theorem lit_lx (R : Reads one stop) {l : Lt} (h : (l.kind = 1 ∨ l.kind = 2) ∧ (l.who = tm0 ∨ TmX tv one stop l.who) ∧ NmX one stop l.pred ∧ (∀ t ∈ l.args, TmX tv one stop t) ∨
    (l.kind = 3 ∨ l.kind = 4) ∧ TmX tv one stop (l.args.getD 0 tm0) ∧ TmX tv one stop (l.args.getD 1 tm0)) : LxT one stop (litX tv l) (tkLit tv l) := by
  unfold litX tkLit
  rcases h with ⟨hk, hw, hp, hl⟩ | ⟨hk, ha, hb⟩
  · have hs := said_lx tv R hw hp hl
    by_cases k1 : l.kind = 1
    · rw [if_pos k1, if_pos k1]; exact hs
    · rw [if_neg k1, if_neg k1, if_pos (hk.resolve_left k1), if_pos (hk.resolve_left k1)]
      have hn := (R.wd (w := wNot) (by decide) (by decide))
      have h1 : LxT one stop ([32] ++ saidX tv l) ([] ++ tkSaid tv l) := R.bl.catT hs
      exact hn.cat (Stops.app (R.st (c := 32) (by decide))) h1
  · have k1 : ¬ l.kind = 1 := fun e => by omega
    have k2 : ¬ l.kind = 2 := fun e => by omega
    rw [if_neg k1, if_neg k2, if_neg k1, if_neg k2]
    have hs : LxA one (if l.kind = 3 then wLess else wUnlike) [(4, if l.kind = 3 then wLess else wUnlike)] := by
      split
      · exact R.sg (by decide) (by decide)
      · exact R.sg (by decide) (by decide)
    have h1 := hs.catT ((R.bl).catT hb.lx)
    have h2 := (R.bl).catT h1
    exact ha.lx.cat (Stops.app (R.st (c := 32) (by decide))) h2
/-- the text that a clause is written as has the clause's tokens -/
theorem clause_lx (R : Reads one stop) {c : Cl} (hp : NmX one stop c.head.pred) (hl : ∀ t ∈ c.head.args, TmX tv one stop t) (hb : ∀ l ∈ c.body, LxT one stop (litX tv l) (tkLit tv l)) : Lx one (clX tv c) (tkCl tv c) := by
  have hd : LxA one wDot [(4, wDot)] := R.sg (by decide) (by decide)
  have ha := atom_lx tv R hp hl
  have key : LxA one (clX tv c) (tkCl tv c) := by
    unfold clX tkCl
    by_cases e : c.body = []
    · rw [if_pos e, if_pos e]
      exact ha.catA (R.st (c := 46) (by decide)) hd
    · rw [if_neg e, if_neg e]
      have hj := join_lx R (litX tv) (tkLit tv) c.body hb
      have hi : LxA one wIf [(4, wIf)] := R.sg (by decide) (by decide)
      have h1 := (R.bl).catT (hi.catT ((R.bl).catT hj))
      have h2 := h1.catA (R.st (c := 46) (by decide)) hd
      exact ha.catA (Stops.app (Stops.app (R.st (c := 32) (by decide)))) h2
  have := key [] [] Lx.nil
  simpa using this
end

/-! A clause's variables. -/
def putV (l : List (List UInt8)) (t : Tm) : List (List UInt8) := if t.var = [] then l else if t.var ∈ l then l else l ++ [t.var]
def litV (l : List (List UInt8)) (x : Lt) : List (List UInt8) := (x.who :: x.args).foldl putV l
def varsS (c : Cl) : List (List UInt8) := (c.head :: c.body).foldl litV []
theorem putV_nil {l : List (List UInt8)} {t : Tm} : putV l t = [] ↔ l = [] ∧ t.var = [] := by
  unfold putV
  split
  · rename_i h; simp [h]
  · rename_i h
    split
    · rename_i h2
      refine ⟨fun e => ?_, fun e => absurd e.2 h⟩
      subst e; cases h2
    · simp [h]
theorem foldV_nil : ∀ (ts : List Tm) (l : List (List UInt8)), ts.foldl putV l = [] ↔ l = [] ∧ ∀ t ∈ ts, t.var = []
  | [], l => by simp
  | t :: ts, l => by
    rw [List.foldl_cons, foldV_nil ts, putV_nil]
    simp only [List.mem_cons, forall_eq_or_imp]
    exact and_assoc
/-- a clause without literals has no variables just if none of its terms is one -/
theorem varsS_bare (h : Lt) : varsS ⟨h, []⟩ = [] ↔ h.who.var = [] ∧ ∀ t ∈ h.args, t.var = [] := by
  show (h.who :: h.args).foldl putV [] = [] ↔ _
  rw [foldV_nil]
  simp
end Go.Proofs.ClauseS

/-
  Plain: the parser's words over a token's number are those over what is left of the tokens.
-/
namespace Go.Proofs.YtfmkfabbiifolaaGreatDoor
open Go.RowKit

/-- the tokens with their texts -/
def txOf (s : ByteArray) (t : Tok) : ClauseS.Tx := ⟨t.kind, (s.extract t.fr.toNat t.to.toNat).data.toList, t.fr⟩
def txs (s : ByteArray) (ts : List Tok) : List ClauseS.Tx := ts.map (txOf s)
theorem txs_get (s : ByteArray) (ts : List Tok) (k : Nat) : (txs s ts)[k]? = (ts[k]?).map (txOf s) := by simp [txs]
theorem drop_get (s : ByteArray) (ts : List Tok) (k n : Nat) : ((txs s ts).drop k)[n]? = (ts[k + n]?).map (txOf s) := by rw [List.getElem?_drop, txs_get]
theorem txt_tie (s : ByteArray) (ts : List Tok) (k n : Nat) : ClauseS.txtT ((txs s ts).drop k) n = (textAt s ts (k + n)).data.toList := by
  unfold ClauseS.txtT textAt
  rw [drop_get]
  cases ts[k + n]? <;> rfl
theorem kind_tie (s : ByteArray) (ts : List Tok) (k : Nat) : ClauseS.kindT ((txs s ts).drop k) = kindAt ts k := by
  have h := drop_get s ts k 0
  unfold kindAt
  rw [Nat.add_zero] at h
  cases hd : (txs s ts).drop k with
  | nil => rw [hd] at h; cases ht : ts[k]? with
    | none => rfl
    | some t => rw [ht] at h; cases h
  | cons x r => rw [hd] at h; cases ht : ts[k]? with
    | none => rw [ht] at h; cases h
    | some t => rw [ht] at h; simp at h; rw [h]; rfl
theorem at_tie (s : ByteArray) (ts : List Tok) (k : Nat) : ClauseS.atT s.size ((txs s ts).drop k) = placeAt s ts k := by
  have h := drop_get s ts k 0
  unfold placeAt
  rw [Nat.add_zero] at h
  cases hd : (txs s ts).drop k with
  | nil => rw [hd] at h; cases ht : ts[k]? with
    | none => rfl
    | some t => rw [ht] at h; cases h
  | cons x r => rw [hd] at h; cases ht : ts[k]? with
    | none => rw [ht] at h; cases h
    | some t => rw [ht] at h; simp at h; rw [h]; rfl
theorem tail_tie (s : ByteArray) (ts : List Tok) (k : Nat) : ((txs s ts).drop k).tail = (txs s ts).drop (k + 1) := by simp
/-- a term with its texts as lists -/
def tmL (t : Tm) : ClauseS.Tm := ⟨t.v.data.toList, t.s.data.toList, t.n⟩
/-- the value of a text -/
def rdL (l : List UInt8) : List UInt8 × Int := ((readP ⟨l.toArray⟩).1.data.toList, (readP ⟨l.toArray⟩).2)
theorem term_tie (s : ByteArray) (ts : List Tok) (k : Nat) :
    ClauseS.termS rdL s.size ((txs s ts).drop k) = if isT ts k then .ok (tmL (termR s ts k), (txs s ts).drop (k + 1)) else .error (6, placeAt s ts k) := by
  have hk := kind_tie s ts k
  have hp := at_tie s ts k
  have ht := txt_tie s ts k 0
  have htl := tail_tie s ts k
  unfold isT termR
  rw [Nat.add_zero] at ht
  generalize placeAt s ts k = pl at *
  generalize textAt s ts k = x at *
  generalize kindAt ts k = kd at *
  cases hd : (txs s ts).drop k with
  | nil =>
    rw [hd] at hk hp
    subst hk; subst hp; rfl
  | cons t r =>
    rw [hd] at hk hp ht htl
    have e1 : t.kind = kd := hk
    have e2 : t.fr = pl := hp
    have e3 : t.txt = x.data.toList := by simpa [ClauseS.txtT] using ht
    have e4 : r = (txs s ts).drop (k + 1) := htl
    subst e1; subst e2
    unfold ClauseS.termS
    simp only
    have hx : (⟨t.txt.toArray⟩ : ByteArray) = x := by rw [e3]
    by_cases h2 : t.kind = 2
    · simp [h2, tmL, e3, e4]
    · by_cases h1 : t.kind = 1 ∨ t.kind = 3
      · rw [if_neg h2, if_pos h1, if_pos (by rcases h1 with h | h <;> simp [h]), if_neg h2]
        simp [rdL, tmL, hx, e4]
      · rw [if_neg h2, if_neg h1, if_neg (by simp; omega)]
theorem word_tie (x : ByteArray) (l : List UInt8) : x.data.toList = l ↔ x = ⟨l.toArray⟩ := by
  constructor
  · intro h; subst h; rcases x with ⟨⟨a⟩⟩; rfl
  · intro h; subst h; simp
/-- an answer in lists, and what is left -/
def tieR {α β : Type} (f : α → β) (s : ByteArray) (ts : List Tok) : Except (Int × Int) (α × Nat) → ClauseS.PR β
  | .ok (x, k) => .ok (f x, (txs s ts).drop k)
  | .error e => .error e
theorem more_tie (s : ByteArray) (ts : List Tok) : ∀ (n : Nat) (acc : List Tm) (k : Nat),
    ClauseS.moreS s.size (ClauseS.termS rdL s.size) n (acc.map tmL) ((txs s ts).drop k) = tieR (List.map tmL) s ts (moreT s ts n acc k)
  | 0, acc, k => by
    unfold ClauseS.moreS moreT
    rw [txt_tie, at_tie, Nat.add_zero]
    by_cases h : textAt s ts k = comma
    · rw [if_pos h, if_pos ((word_tie _ ClauseS.wComma).2 h)]; rfl
    · rw [if_neg h, if_neg (fun hx => h ((word_tie _ ClauseS.wComma).1 hx))]; rfl
  | n + 1, acc, k => by
    unfold ClauseS.moreS moreT
    rw [txt_tie, tail_tie, Nat.add_zero, term_tie]
    by_cases h : textAt s ts k = comma
    · rw [if_pos h, if_pos ((word_tie _ ClauseS.wComma).2 h)]
      cases hk : isT ts (k + 1) with
      | true =>
        have := more_tie s ts n (acc ++ [termR s ts (k + 1)]) (k + 2)
        rw [List.map_append] at this
        simpa using this
      | false => rfl
    · rw [if_neg h, if_neg (fun hx => h ((word_tie _ ClauseS.wComma).1 hx))]; rfl
theorem list_tie (s : ByteArray) (ts : List Tok) (k : Nat) :
    ClauseS.listS s.size (ClauseS.termS rdL s.size) 4 ((txs s ts).drop k) = tieR (List.map tmL) s ts (listT s ts 3 k) := by
  unfold ClauseS.listS listT
  rw [term_tie]
  cases hk : isT ts k with
  | true => simpa using more_tie s ts 3 [termR s ts k] (k + 1)
  | false => rfl
theorem want_tie (s : ByteArray) (ts : List Tok) (k : Nat) (l : List UInt8) :
    ClauseS.wantS s.size l ((txs s ts).drop k) = if textAt s ts k = ⟨l.toArray⟩ then .ok ((txs s ts).drop (k + 1)) else .error (6, placeAt s ts k) := by
  unfold ClauseS.wantS
  rw [txt_tie, tail_tie, at_tie, Nat.add_zero]
  by_cases h : textAt s ts k = ⟨l.toArray⟩
  · rw [if_pos h, if_pos ((word_tie _ _).2 h)]
  · rw [if_neg h, if_neg (fun hx => h ((word_tie _ _).1 hx))]
theorem atom_tie (s : ByteArray) (ts : List Tok) (k : Nat) :
    ClauseS.atomS rdL s.size ((txs s ts).drop k) = tieR (fun a => (a.1.data.toList, a.2.map tmL)) s ts (atomR s ts k) := by
  unfold ClauseS.atomS atomR
  rw [kind_tie, tail_tie, txt_tie, tail_tie, at_tie, txt_tie, list_tie]
  simp only [Nat.add_zero]
  by_cases h1 : kindAt ts k = 1
  · rw [if_pos h1, if_pos h1]
    by_cases h2 : textAt s ts (k + 1) = popen
    · rw [if_pos h2, if_pos ((word_tie _ ClauseS.wOpen).2 h2)]
      cases hl : listT s ts 3 (k + 2) with
      | error e => rfl
      | ok lk =>
        obtain ⟨l, k'⟩ := lk
        simp only [tieR]
        rw [want_tie]
        by_cases h3 : textAt s ts k' = pshut
        · rw [if_pos h3, if_pos (show textAt s ts k' = ⟨ClauseS.wShut.toArray⟩ from h3)]
        · rw [if_neg h3, if_neg (show ¬ textAt s ts k' = ⟨ClauseS.wShut.toArray⟩ from h3)]
    · rw [if_neg h2, if_neg (fun hx => h2 ((word_tie _ ClauseS.wOpen).1 hx))]; rfl
  · rw [if_neg h1, if_neg h1]; rfl
end Go.Proofs.YtfmkfabbiifolaaGreatDoor

/-
  Plain: a word, a name, a variable, a number at a text's head is one token.
-/
namespace Go.Proofs.YtfmkfabbiifolaaGreatDoor
open Go.RowKit

def oneX (l : List UInt8) : Int × Int × Nat := ((oneL l).err, (oneL l).kind, (oneL l).len)
def stopX (r : List UInt8) : Prop := runL r = 0
def tvL (sym : List UInt8) (num : Int) : List UInt8 := (textS ⟨sym.toArray⟩ num).data.toList
theorem runL_cat : ∀ (a r : List UInt8), (∀ c ∈ a, winB (c.toNat : Int) = true) → runL (a ++ r) = a.length + runL r
  | [], r, _ => by simp
  | c :: a, r, h => by
    rw [List.cons_append, runL, if_pos (h c List.mem_cons_self), runL_cat a r (fun x hx => h x (List.mem_cons_of_mem _ hx)), List.length_cons]
    omega
theorem win_cases {c : UInt8} (h : winB (c.toNat : Int) = true) : (97 ≤ c.toNat ∧ c.toNat ≤ 122) ∨ (48 ≤ c.toNat ∧ c.toNat ≤ 57) ∨ c.toNat = 95 ∨ (65 ≤ c.toNat ∧ c.toNat ≤ 90) := by
  simp only [winB, lowB, letB, digB, upB, Bool.or_eq_true, Bool.and_eq_true, decide_eq_true_eq, beq_iff_eq] at h
  omega
theorem piece_cat (c : UInt8) (b r : List UInt8) (hb : ∀ x ∈ b, winB (x.toNat : Int) = true) (hs : stopX r) (hk : kindL (c :: b) ≠ 0) : pieceL (c :: (b ++ r)) (1 + runL (b ++ r)) = ⟨0, kindL (c :: b), (c :: b).length⟩ := by
  have h1 : runL (b ++ r) = b.length := by rw [runL_cat b r hb, show runL r = 0 from hs]; rfl
  have h2 : (c :: (b ++ r)).take (1 + b.length) = c :: b := by
    rw [Nat.add_comm, List.take_succ_cons, List.take_left']
    rfl
  unfold pieceL
  rw [h1, h2, if_neg hk, List.length_cons, Nat.add_comm]
theorem one_piece (c : UInt8) (b r : List UInt8) (hc : winB (c.toNat : Int) = true) (hb : ∀ x ∈ b, winB (x.toNat : Int) = true) (hs : stopX r) (hk : kindL (c :: b) ≠ 0) : oneX ((c :: b) ++ r) = (0, kindL (c :: b), (c :: b).length) := by
  have hcs := win_cases hc
  have hne : ∀ n : Nat, n ∈ [32, 9, 40, 41, 44, 46, 60, 58, 33, 45] → (c.toNat == n) = false := fun n hn => beq_eq_false_iff_ne.2 (by
    simp only [List.mem_cons, List.not_mem_nil, or_false] at hn
    omega)
  have e : oneL (c :: (b ++ r)) = pieceL (c :: (b ++ r)) (1 + runL (b ++ r)) := by
    rw [oneL, hne 32 (by simp), hne 9 (by simp), hne 40 (by simp), hne 41 (by simp), hne 44 (by simp), hne 46 (by simp), hne 60 (by simp), hne 58 (by simp), hne 33 (by simp), hne 45 (by simp), hc]
    rfl
  unfold oneX
  rw [List.cons_append, e, piece_cat c b r hb hs hk]
theorem one_minus (d : UInt8) (b r : List UInt8) (hd : digB (d.toNat : Int) = true) (hb : ∀ x ∈ d :: b, winB (x.toNat : Int) = true) (hs : stopX r) (hk : kindL (45 :: d :: b) ≠ 0) : oneX ((45 :: d :: b) ++ r) = (0, kindL (45 :: d :: b), (45 :: d :: b).length) := by
  have e : oneL ((45 : UInt8) :: ((d :: b) ++ r)) = pieceL (45 :: ((d :: b) ++ r)) (1 + runL ((d :: b) ++ r)) := by
    rw [oneL]
    show (if digB ((((d :: b) ++ r).headD 0).toNat : Int) = true then _ else _) = _
    rw [if_pos (show digB ((((d :: b) ++ r).headD 0).toNat : Int) = true from hd)]
  unfold oneX
  rw [List.cons_append, e, piece_cat 45 (d :: b) r hb hs hk]
/-- what is asked of the reading of tokens holds of the lexer -/
theorem reads_one : ClauseS.Reads oneX stopX where
  blank := fun r => by unfold oneX; rw [oneL_blank _ _ rfl]
  sign := fun w hw r => by
    simp only [List.mem_cons, List.not_mem_nil, or_false] at hw
    rcases hw with rfl | rfl | rfl | rfl | rfl | rfl | rfl <;> rfl
  word := fun w hw r hs => by
    simp only [List.mem_cons, List.not_mem_nil, or_false] at hw
    rcases hw with rfl | rfl
    · exact one_piece 110 [111, 116] r (by decide) (by decide) hs (by decide)
    · exact one_piece 115 [97, 121, 115] r (by decide) (by decide) hs (by decide)
  stops := fun c hc r => by
    simp only [List.mem_cons, List.not_mem_nil, or_false] at hc
    rcases hc with rfl | rfl | rfl | rfl | rfl <;> rfl
theorem name_lx {p : ByteArray} (h : nameB p = true) : ClauseS.NmX oneX stopX p.data.toList ∧ p.data.toList ∉ ClauseS.words := by
  rw [nameB_eq] at h
  generalize p.data.toList = l at *
  have h0 := h
  unfold nameL at h
  simp only [Bool.and_eq_true, Bool.not_eq_true', decide_eq_true_eq, List.all_eq_true] at h
  obtain ⟨⟨⟨⟨h1, h2⟩, h3⟩, h4⟩, h5⟩ := h
  cases l with
  | nil => simp at h1
  | cons c b =>
    have hh : letB (c.toNat : Int) = true := h4
    have hc : 97 ≤ c.toNat ∧ c.toNat ≤ 122 := by
      simp only [letB, Bool.and_eq_true, decide_eq_true_eq] at hh
      omega
    have hu : upB (((c :: b).headD 0).toNat : Int) = false := by
      show upB (c.toNat : Int) = false
      simp only [upB, Bool.and_eq_false_iff, decide_eq_false_iff_not]
      omega
    have hk : kindL (c :: b) = 1 := by
      unfold kindL
      rw [h3, hu, h0]
      rfl
    have hw : ∀ x ∈ c :: b, winB (x.toNat : Int) = true := fun x hx => by unfold winB; rw [h5 x hx]; rfl
    refine ⟨⟨by simp, fun r hs => ?_⟩, fun hm => ?_⟩
    · rw [one_piece c b r (hw c List.mem_cons_self) (fun x hx => hw x (List.mem_cons_of_mem _ hx)) hs (by rw [hk]; decide), hk]
    · simp only [ClauseS.words, List.mem_cons, List.not_mem_nil, or_false] at hm
      rcases hm with hm | hm | hm | hm | hm | hm | hm | hm | hm
      all_goals
        first
          | (rw [hm] at h3; exact absurd h3 (by decide))
          | (injection hm with e _; rw [e] at hc; exact absurd hc (by decide))
end Go.Proofs.YtfmkfabbiifolaaGreatDoor
