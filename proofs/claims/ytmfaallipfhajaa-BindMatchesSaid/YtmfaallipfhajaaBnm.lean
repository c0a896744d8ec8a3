/-
  What matching and filling come to, plain; contracts: slices.Clip and slices.Clone of bindings.
-/
import Derived.Test.YtmfaallipfhajaaBnd
import Derived.StillTailTactics
namespace Go.Proofs.Ytmfaallipfhajaa
open Go.RowKit

def eqV (a b : Vl) : Bool := a.1.toList == b.1.toList && a.2 == b.2
theorem eqV_eq {a b : Vl} : eqV a b = true ↔ a = b := by
  obtain ⟨⟨⟨x⟩⟩, n⟩ := a
  obtain ⟨⟨⟨y⟩⟩, m⟩ := b
  simp [eqV, ByteArray.toList_eq]
theorem eqV_refl (a : Vl) : eqV a a = true := eqV_eq.2 rfl
def bindT (x : Tm) (v : Vl) : Tm := ⟨x.v, v.1, v.2⟩
/-- The bindings with which a literal's terms are a tuple's values. -/
def matchS : List Tm → List Vl → List Tm → Option (List Tm)
  | x :: xs, v :: vs, b => match look b x with
    | some u => if eqV u v then matchS xs vs b else none
    | none => matchS xs vs (b ++ [bindT x v])
  | _, _, b => some b
theorem matchS_step (xs : List Tm) (vs : List Vl) (b : List Tm) (k : Nat) (h : k < xs.length) (g : k < vs.length) : matchS (xs.drop k) (vs.drop k) b = match look b xs[k] with
    | some u => if eqV u vs[k] then matchS (xs.drop (k + 1)) (vs.drop (k + 1)) b else none
    | none => matchS (xs.drop (k + 1)) (vs.drop (k + 1)) (b ++ [bindT xs[k] vs[k]]) := by
  rw [List.drop_eq_getElem_cons h, List.drop_eq_getElem_cons g, matchS]
theorem matchS_end (xs : List Tm) (vs : List Vl) (b : List Tm) (k : Nat) (h : xs.length ≤ k) : matchS (xs.drop k) (vs.drop k) b = some b := by
  rw [List.drop_eq_nil_of_le h]; rfl
/-- A literal's values. -/
def fillS : List Tm → List Tm → Option (List Vl)
  | [], _ => some []
  | x :: xs, b => match look b x with
    | some u => (fillS xs b).map (u :: ·)
    | none => none

theorem eqVr (s t : ByteArray) (n m : Int) (w : World) : (binOp .eql 46 (.agg #[.string s, .int .i64 n]) (.agg #[.string t, .int .i64 m])).run Try.prog w = .ok (.bool (s.toList == t.toList && n == m)) w := by
  have u9 := Try.underlying9
  have u2 := Try.underlying2
  have a9 := Try.isAgg9
  have z9 := Try.sizeOf9
  have a2 := Try.isAgg2
  have z2 := Try.sizeOf2
  have hS : Try.prog.underlying 46 = some (.struct (Try.prog.fieldsOf 46)) := by kernel_rfl
  have hp : Try.prog.stoodInHeld 46 = false := by kernel_rfl
  rw [run_eql_struct, show (10000 : Nat) = 9999 + 1 from rfl, run_equalIn_agg w 9999 46 _ _ hS hp]
  simp only [Program.fieldsOf, Try.underlying46]
  go_simp
  by_cases h1 : s.toList = t.toList <;> by_cases h2 : n = m <;> simp [h1, h2]
theorem neVr (s t : ByteArray) (n m : Int) (w : World) : (binOp .neq 46 (.agg #[.string s, .int .i64 n]) (.agg #[.string t, .int .i64 m])).run Try.prog w = .ok (.bool (!(s.toList == t.toList && n == m))) w := by
  have u9 := Try.underlying9
  have u2 := Try.underlying2
  have a9 := Try.isAgg9
  have z9 := Try.sizeOf9
  have a2 := Try.isAgg2
  have z2 := Try.sizeOf2
  have hS : Try.prog.underlying 46 = some (.struct (Try.prog.fieldsOf 46)) := by kernel_rfl
  have hp : Try.prog.stoodInHeld 46 = false := by kernel_rfl
  rw [run_neq_struct, show (10000 : Nat) = 9999 + 1 from rfl, run_equalIn_agg w 9999 46 _ _ hS hp]
  simp only [Program.fieldsOf, Try.underlying46]
  go_simp
  by_cases h1 : s.toList = t.toList <;> by_cases h2 : n = m <;> simp [h1, h2]
theorem neV (a b : Vl) (w : World) : (binOp .neq 46 (.agg #[.string a.1, .int .i64 a.2]) (.agg #[.string b.1, .int .i64 b.2])).run Try.prog w = .ok (.bool (!eqV a b)) w := neVr _ _ _ _ _

theorem clip_any (q : Option Addr) (n c : Nat) (w : World) (hn : n ≤ c) (hc : c ≤ maxLen) (hq : q = none → c = 0) :
    Calls Try.prog 21 #[.slice q n c] w fun e w' => e = .returned (.slice q n n) ∧ w = w' := by
  unfold maxLen at hc
  cases q with
  | none =>
    obtain rfl := hq rfl
    obtain rfl : n = 0 := by omega
    go_enter Try.func21, Try.ntmps21
    go_wp2_with fail
    go_ret
    exact ⟨rfl, rfl⟩
  | some a =>
    clear hq
    go_enter Try.func21, Try.ntmps21
    go_wp2_with fail
    go_ret
    exact ⟨rfl, rfl⟩

/-- A slice that reads as l, and whose room is known. -/
def Made {α : Type} (enc : α → List Value) (k : Nat) (l : List α) (v : Value) (w : World) : Prop :=
  ∃ q c, v = .slice q l.length c ∧ Rd enc k w w.heap.size q l ∧ l.length ≤ c ∧ c ≤ maxLen ∧ (q = none → c = 0)
theorem Made.grow {α : Type} {enc : α → List Value} {k : Nat} {l : List α} {v : Value} {w w' : World} (h : Made enc k l v w) (hb : Below w.heap.size w w') : Made enc k l v w' := by
  obtain ⟨q, c, h1, h2, h3⟩ := h
  exact ⟨q, c, h1, h2.grow hb, h3⟩
theorem made_nil {α : Type} {enc : α → List Value} {k : Nat} {w : World} : Made enc k [] (.slice none 0 0) w := ⟨none, 0, rfl, .nil, Nat.le_refl _, Nat.zero_le _, fun _ => rfl⟩
theorem owns_cap {w : World} {base E k n c : Nat} {p : Option Addr} {xs : List Value} (h : w.ownsRow base E k (.slice p n c) n xs) : n ≤ c ∧ c ≤ maxLen ∧ (p = none → c = 0) := by
  rcases h.2 with ⟨h1, h2⟩ | ⟨g, cap, cur, h1, _, _, h3, h4, _⟩
  · cases h1; exact ⟨Nat.le_refl _, Nat.zero_le _, fun _ => rfl⟩
  · cases h1; exact ⟨h3, h4, fun h => by cases h⟩
theorem made_of_copy {α : Type} {enc : α → List Value} {k : Nat} {w : World} {base E d cap : Nat} {p p' : Option Addr} {l : List α} (h1 : w.ownsRow base E k (.slice p' l.length cap) l.length (flatE enc l) ∨ l = []) (h2 : Rd enc k w w.heap.size p' l) (h3 : l = [] → p' = p ∧ cap = d) (hd : d = 0) : Made enc k l (.slice p' l.length cap) w := by
  by_cases hl : l = []
  · obtain ⟨rfl, rfl⟩ := h3 hl
    subst hl hd
    exact ⟨p', 0, rfl, .nil, Nat.le_refl _, Nat.zero_le _, fun _ => rfl⟩
  · rcases h1 with h1 | h1
    · obtain ⟨a, b, c⟩ := owns_cap h1
      exact ⟨p', cap, rfl, h2, a, b, c⟩
    · exact absurd h1 hl

theorem underB : Try.prog.underlying 28 = some (.slice 50) := Try.underlying28
set_option maxHeartbeats 2000000 in
set_option maxRecDepth 100000 in
theorem cloneB_any (q : Option Addr) (l : List Tm) (c : Nat) (w : World) (h : Tms w w.heap.size q l) (hm : l.length * 40 ≤ 140737488355328) :
    Calls Try.prog 23 #[.slice q l.length c] w fun e w' => ∃ v, e = .returned v ∧ Made encM 3 l v w' ∧ Below w.heap.size w w' := by
  cases q with
  | none =>
    have hl : l = [] := by
      rcases h with h | ⟨_, _, h, _⟩
      · exact h
      · cases h
    subst hl
    have hne := fun wx => Lib.run_eql_slice_nil (P := Try.prog) wx 28 50 none 0 c 0 0 underB
    go_enter Try.func23, Try.ntmps23
    go_wp2_with fail
    go_ret
    exact ⟨_, rfl, made_nil, Below.refl _ _⟩
  | some a =>
    obtain ⟨i0, hi, hz0, hz1, hz2⟩ := info_parts infoBind
    have hne := fun wx => Lib.run_eql_slice_nil (P := Try.prog) wx 28 50 (some a) l.length c 0 0 underB
    have hb0 := below1 w (.cells #[] 50)
    have HG := Lib.hid (grw_made (w := w) (base := w.heap.size) (E := 50) (k := 3) (Nat.le_refl _))
    have HR := Lib.hid (h.grow hb0)
    have hm1 : l.length ≤ maxLen := by unfold maxLen; omega
    have hbs : w.heap.size ≤ (w.alloc (.cells #[] 50)).heap.size := by simp
    clear h
    go_enter Try.func23, Try.ntmps23
    go_wp2_with (at_builtin; refine wpList_copyE EM rfl _ _ 28 rfl w.heap.size 50 i0 _ 40 underB hi hz0 hz1 hz2 rfl _ 0 rfl HG.out _ l c rfl HR.out hm1 hm hbs ?_; intro p' cap w1 h1 h2 h3 h4)
    go_ret
    exact ⟨_, rfl, made_of_copy h1 h2 (fun e => ⟨(h3 e).1, (h3 e).2.1⟩) rfl, hb0.trans h4⟩
end Go.Proofs.Ytmfaallipfhajaa
