/-
  Fill as pairs; the reference's Fill whole; copies at an operation.
-/
import Derived.Test.YtmfaallipfhajaaBfx
namespace Go.Proofs.Ytmfaallipfhajaa
open Go.RowKit

section
variable {P : Program} {w : World} {α : Type} {enc : α → List Value} {size : Nat}
theorem wp_copyN (E : Enc enc size) {o : Oper} {a : Act} {K : Act → World → Prop} {Q : Exit → Act → World → Prop} (s x : Operand) (t : TypeId)
    (ho : o.op = .call { callee := .builtin .append, args := #[s, x], argTypes := #[t, t] })
    (e : TypeId) (i : TypeInfo) (z : Value) (bytes : Nat) (ht : P.underlying t = some (.slice e)) (hi : P.info? e = some i) (hz : i.zero = some z)
    (hsize : i.size = size) (hby : i.bytes = bytes) (hzs : z.cells.size = size)
    (p : Option Addr) (hs : a.eval s = .slice p 0 0)
    (q : Option Addr) (l : List α) (c : Nat) {B0 : Nat} (hx : a.eval x = .slice q l.length c) (hr : Rd enc size w B0 q l)
    (h63 : l.length ≤ maxLen) (hbytes : l.length * bytes ≤ 140737488355328)
    (h : ∀ q' c' w', Made enc size l (.slice q' l.length c') w' → Below w.heap.size w w' → K (a.put o.dst (.slice q' l.length c')) w') : o.wp P a w K Q :=
  wp_copyE E s x t ho w.heap.size e i z bytes ht hi hz hsize hby hzs p 0 hs (.inl ⟨p, rfl, fun _ => rfl, by simp, fun b _ j u hu => by simp at hu⟩) q l c hx hr h63 hbytes (Nat.le_refl _)
    fun p' cap w' h1 h2 h3 h4 => h p' cap w' (made_of_copy h1 h2 (fun e => ⟨(h3 e).1, (h3 e).2.1⟩) rfl) h4
theorem wpList_copyN (E : Enc enc size) {ops : Array Oper} {rest : List Oper} {o : Oper} {a : Act} {Q : Exit → Act → World → Prop} (hgd : o.guard = none) (s x : Operand) (t : TypeId)
    (ho : o.op = .call { callee := .builtin .append, args := #[s, x], argTypes := #[t, t] })
    (e : TypeId) (i : TypeInfo) (z : Value) (bytes : Nat) (ht : P.underlying t = some (.slice e)) (hi : P.info? e = some i) (hz : i.zero = some z)
    (hsize : i.size = size) (hby : i.bytes = bytes) (hzs : z.cells.size = size)
    (p : Option Addr) (hs : a.eval s = .slice p 0 0)
    (q : Option Addr) (l : List α) (c : Nat) {B0 : Nat} (hx : a.eval x = .slice q l.length c) (hr : Rd enc size w B0 q l)
    (h63 : l.length ≤ maxLen) (hbytes : l.length * bytes ≤ 140737488355328)
    (h : ∀ q' c' w', Made enc size l (.slice q' l.length c') w' → Below w.heap.size w w' → wpList P ops Q rest (a.put o.dst (.slice q' l.length c')) w') : wpList P ops Q (o :: rest) a w :=
  wpList_plain hgd fun _ hK => wp_copyN E s x t ho e i z bytes ht hi hz hsize hby hzs p hs q l c hx hr h63 hbytes fun q' c' w' h1 h2 => hK _ _ (h q' c' w' h1 h2)
theorem step_copyN (E : Enc enc size) {ops : Array Oper} {o : Oper} {a : Act} {K : Act → World → Prop} {Q : Exit → Act → World → Prop} {R : Prop} (hgd : o.guard = none) (s x : Operand) (t : TypeId)
    (ho : o.op = .call { callee := .builtin .append, args := #[s, x], argTypes := #[t, t] })
    (e : TypeId) (i : TypeInfo) (z : Value) (bytes : Nat) (ht : P.underlying t = some (.slice e)) (hi : P.info? e = some i) (hz : i.zero = some z)
    (hsize : i.size = size) (hby : i.bytes = bytes) (hzs : z.cells.size = size)
    (p : Option Addr) (hs : a.eval s = .slice p 0 0)
    (q : Option Addr) (l : List α) (c : Nat) {B0 : Nat} (hx : a.eval x = .slice q l.length c) (hr : Rd enc size w B0 q l)
    (h63 : l.length ≤ maxLen) (hbytes : l.length * bytes ≤ 140737488355328)
    (h : ∀ q' c' w', Made enc size l (.slice q' l.length c') w' → Below w.heap.size w w' → K (a.put o.dst (.slice q' l.length c')) w') :
    if Region.wanted o (yielded ops a.tmps) = true then Oper.wp P o a w K Q else R := by
  have hw : Region.wanted o (yielded ops a.tmps) = true := by simp [Region.wanted, hgd]
  rw [if_pos hw]
  exact wp_copyN E s x t ho e i z bytes ht hi hz hsize hby hzs p hs q l c hx hr h63 hbytes h
end

set_option maxHeartbeats 4000000 in
set_option maxRecDepth 100000 in
theorem reffill_no (k : Int) (p : ByteArray) (qa qb : Option Addr) (na nb ca cb : Nat) (w : World) (h1 : (k != 1) = true) (h2 : (k != 2) = true) :
    Calls Try.prog 14 #[.agg #[.int .u8 k, .string p, .slice qa na ca], .slice qb nb cb] w fun e w' => e = .returned (.tuple #[.agg #[.string ⟨#[]⟩, .slice none 0 0], .bool false]) ∧ Below w.heap.size w w' := by
  have HB := Lib.hid (show ∀ o1 o2, Below w.heap.size w ((w.alloc o1).alloc o2) from fun o1 o2 => below2 w o1 o2)
  go_enter Try.func14, Try.ntmps14
  go_wp2_with fail
  refine bodyPost_ret (v := .tuple #[.agg #[.string ⟨#[]⟩, .slice none 0 0], .bool false]) (by simp [results, Try.results14, go_sem]) rfl ⟨rfl, ?_⟩
  exact HB.out _ _

def fpP (r : Option (List Vl)) (p : ByteArray) : ByteArray := match r with
  | some _ => p
  | none => ⟨#[]⟩
def fpL (r : Option (List Vl)) : List Vl := match r with
  | some L => L
  | none => []
/-- what Fill tells, as a pair -/
def PairPost (r : Option (List Vl)) (p : ByteArray) (w : World) (e : Ending) (w' : World) : Prop :=
  ∃ q c, e = .returned (.tuple #[.agg #[.string (fpP r p), .slice q (fpL r).length c], .bool r.isSome]) ∧ Rd encV 2 w' w'.heap.size q (fpL r) ∧ Below w.heap.size w w'
theorem pair_of_post {r : Option (List Vl)} {p : ByteArray} {w : World} {e : Ending} {w' : World} (h : FillPost r p w e w') : PairPost r p w e w' := by
  cases r with
  | none => exact ⟨none, 0, h.1, .nil, h.2⟩
  | some L =>
    obtain ⟨v, he, ⟨q, c, rfl, hr, _⟩, hb⟩ := h
    exact ⟨q, c, he, hr, hb⟩
theorem fill_pair (k : Int) (p : ByteArray) (qa qb : Option Addr) (args b : List Tm) (ca cb : Nat) (w : World) (h1 : Tms w w.heap.size qa args) (h3 : Tms w w.heap.size qb b)
    (hla : args.length ≤ 100000) (hlb : b.length ≤ maxLen) :
    Calls Try.prog 13 #[.agg #[.int .u8 k, .string p, .slice qa args.length ca], .slice qb b.length cb] w (PairPost (fillF k args b) p w) :=
  (fill_any k p qa qb args b ca cb w h1 h3 hla hlb).mono fun _ _ h => pair_of_post h
theorem reffill_pair (k : Int) (p : ByteArray) (qa qb : Option Addr) (args b : List Tm) (ca cb : Nat) (w : World) (h1 : Tms w w.heap.size qa args) (h3 : Tms w w.heap.size qb b) (hsz : SzM args)
    (hla : args.length ≤ 100000) (hlb : b.length ≤ maxLen) :
    Calls Try.prog 14 #[.agg #[.int .u8 k, .string p, .slice qa args.length ca], .slice qb b.length cb] w (PairPost (fillF k args b) p w) := by
  unfold fillF
  cases ha : atomB k with
  | true => exact (reffill_yes k p qa qb args b ca cb w h1 h3 hsz hla hlb ((atomB_iff k).1 ha)).mono fun _ _ h => pair_of_post h
  | false =>
    have h1' : (k != 1) = true := by
      cases h : k != 1
      · have : k = 1 := by simpa using h
        subst this; cases ha
      · rfl
    have h2' : (k != 2) = true := by
      cases h : k != 2
      · have : k = 2 := by simpa using h
        subst this; cases ha
      · rfl
    exact (reffill_no k p qa qb _ _ ca cb w h1' h2').mono fun _ _ h => pair_of_post (r := none) h

theorem lookP_some {b : List Tm} {t : Tm} {u : Vl} (h : look b t = some u) : lookP (look b t) = (u, true) := by rw [h]; rfl
theorem fillS_sz : ∀ (args b : List Tm) (L : List Vl), SzM args → SzM b → fillS args b = some L → SzOk L
  | [], _, L, _, _, h => by simp [fillS] at h; subst h; exact fun i hi => by simp at hi
  | x :: xs, b, L, ha, hb, h => by
    rw [fillS] at h
    cases hx : look b x with
    | none => rw [hx] at h; cases h
    | some u =>
      rw [hx] at h
      simp only [Option.map_eq_some_iff] at h
      obtain ⟨M, hM, rfl⟩ := h
      have hu := look_sz hb (ha 0 (by simp)).2 (lookP_some hx)
      have ih := fillS_sz xs b M (fun i hi => ha (i + 1) (by simpa using hi)) hb hM
      intro i hi
      cases i with
      | zero => exact hu
      | succ i => exact ih i (by simpa using hi)
theorem fpL_sz {k : Int} {args b : List Tm} (ha : SzM args) (hb : SzM b) : SzOk (fpL (fillF k args b)) := by
  cases h : fillF k args b with
  | none => exact fun i hi => by simp [fpL] at hi
  | some L =>
    unfold fillF at h
    split at h
    · exact fillS_sz args b L ha hb h
    · cases h
theorem fpL_len {k : Int} {args b : List Tm} : (fpL (fillF k args b)).length ≤ args.length := by
  cases h : fillF k args b with
  | none => exact Nat.zero_le _
  | some L =>
    unfold fillF at h
    split at h
    · exact Nat.le_of_eq (fillS_len _ _ _ h)
    · cases h
theorem fpP_sz {r : Option (List Vl)} {p : ByteArray} (h : p.size ≤ maxLen) : (fpP r p).size ≤ maxLen := by
  cases r with
  | none => show (0 : Nat) ≤ _; exact Nat.zero_le _
  | some L => exact h
/-- two tuples of one contents are the same -/
theorem same_pairs (p : ByteArray) (L : List Vl) (q1 q2 : Option Addr) (c1 c2 : Nat) (w : World) (h1 : Rd encV 2 w w.heap.size q1 L) (h2 : Rd encV 2 w w.heap.size q2 L) (hp : p.size ≤ maxLen) (hz : SzOk L) (hl : L.length ≤ maxLen) :
    Calls Try.prog 17 #[.agg #[.string p, .slice q1 L.length c1], .agg #[.string p, .slice q2 L.length c2]] w fun e w' => e = .returned (.bool true) ∧ Below w.heap.size w w' :=
  (same_tuples ⟨p, q1, c1, L⟩ ⟨p, q2, c2, L⟩ w ⟨vals_rd h1, hl⟩ ⟨vals_rd h2, hl⟩ hp hp hz hz).mono fun e w' ⟨he, hb⟩ => ⟨by
    have h0 := (cmpT_zero ⟨p, q1, c1, L⟩ ⟨p, q2, c2, L⟩).2 ⟨rfl, rfl⟩
    rw [he, h0]; rfl, hb⟩
end Go.Proofs.Ytmfaallipfhajaa
