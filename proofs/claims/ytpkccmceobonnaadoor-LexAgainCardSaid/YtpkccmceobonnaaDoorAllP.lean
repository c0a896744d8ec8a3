/-
  Plain: the tokens of a text, step by step; rows of tokens in memory.
-/
import Derived.Test.YtpkccmceobonnaaDoorOneA
import Derived.Lib.SmallJoins
import Derived.Deep.AppendLies
namespace Go.Proofs.YtpkccmceobonnaaDoor
open Go.RowKit

theorem put_put (acc : List Tok) (t : Tok) (x : Toks) : Toks.put acc (Toks.put [t] x) = Toks.put (acc ++ [t]) x := by
  unfold Toks.put
  by_cases h : x.err = 0
  · simp [h]
  · simp [h]
theorem put_nil (x : Toks) (h : x.err = 0 → x.pl = 0) (h2 : x.err ≠ 0 → x.toks = []) : Toks.put [] x = x := by
  unfold Toks.put
  obtain ⟨t, p, e⟩ := x
  by_cases he : e = 0
  · subst he; simp at h; subst h; simp
  · simp [he] at h2 ⊢; exact h2
theorem allF_form : ∀ (f k : Nat) (l : List UInt8), ((allF f k l).err = 0 → (allF f k l).pl = 0) ∧ ((allF f k l).err ≠ 0 → (allF f k l).toks = [])
  | 0, _, _ => by simp [allF]
  | _ + 1, _, [] => by simp [allF]
  | f + 1, k, c :: r => by
    rw [allF]
    split
    · exact allF_form f (k + 1) r
    · split
      · unfold Toks.put; split
        · simp
        · rename_i h; simp [h]
      · rename_i h; simp [h]
/-- what is still to come, behind what has been read -/
def Rest (l : List UInt8) (k : Nat) (acc : List Tok) : Prop := ∃ f, l.length - k ≤ f ∧ acc.length ≤ k ∧ Toks.put acc (allF f k (l.drop k)) = allF l.length 0 l
theorem rest_start (l : List UInt8) : Rest l 0 [] := ⟨l.length, by omega, Nat.le_refl _, by rw [List.drop_zero]; exact put_nil _ (allF_form _ _ _).1 (allF_form _ _ _).2⟩
theorem rest_blank (l : List UInt8) (k : Nat) (acc : List Tok) (h : Rest l k acc) (hk : k < l.length) (h4 : (oneL (l.drop k)).err = 4) : Rest l (k + 1) acc := by
  obtain ⟨f, hf, hl, he⟩ := h
  obtain ⟨g, rfl⟩ : ∃ g, f = g + 1 := ⟨f - 1, by omega⟩
  refine ⟨g, by omega, by omega, ?_⟩
  rw [List.drop_eq_getElem_cons hk] at he h4
  rw [allF, if_pos h4] at he
  exact he
theorem rest_tok (l : List UInt8) (k : Nat) (acc : List Tok) (h : Rest l k acc) (hk : k < l.length) (h0 : (oneL (l.drop k)).err = 0) :
    Rest l (k + (oneL (l.drop k)).len) (acc ++ [⟨(oneL (l.drop k)).kind, k, (k + (oneL (l.drop k)).len : Nat)⟩]) ∧ 0 < (oneL (l.drop k)).len ∧ k + (oneL (l.drop k)).len ≤ l.length := by
  obtain ⟨f, hf, hl, he⟩ := h
  obtain ⟨g, rfl⟩ : ∃ g, f = g + 1 := ⟨f - 1, by omega⟩
  obtain ⟨hb, hb2⟩ := (oneL_bd (l.drop k) (by simp; omega)).1 h0
  simp only [List.length_drop] at hb2
  refine ⟨⟨g, by omega, by simp; omega, ?_⟩, hb, by omega⟩
  have hd : l.drop k = l[k] :: l.drop (k + 1) := List.drop_eq_getElem_cons hk
  rw [hd] at he h0
  rw [allF, if_neg (by rw [h0]; decide), if_pos h0, put_put, ← hd, List.drop_drop] at he
  exact he
theorem rest_err (l : List UInt8) (k : Nat) (acc : List Tok) (h : Rest l k acc) (hk : k < l.length) (h5 : (oneL (l.drop k)).err ≠ 0) (h4 : (oneL (l.drop k)).err ≠ 4) : allF l.length 0 l = ⟨[], k, (oneL (l.drop k)).err⟩ := by
  obtain ⟨f, hf, hl, he⟩ := h
  obtain ⟨g, rfl⟩ : ∃ g, f = g + 1 := ⟨f - 1, by omega⟩
  have hd : l.drop k = l[k] :: l.drop (k + 1) := List.drop_eq_getElem_cons hk
  rw [← he]
  conv => lhs; rw [hd]
  rw [hd] at h5 h4
  rw [allF, if_neg h4, if_neg h5, ← hd]
  rw [← hd] at h5
  unfold Toks.put
  rw [if_neg h5]
theorem rest_end (l : List UInt8) (k : Nat) (acc : List Tok) (h : Rest l k acc) (hk : l.length ≤ k) : allF l.length 0 l = ⟨acc, 0, 0⟩ := by
  obtain ⟨f, hf, hl, he⟩ := h
  rw [← he, List.drop_eq_nil_of_le hk]
  cases f <;> simp [allF, Toks.put]
theorem rest_len (l : List UInt8) (k : Nat) (acc : List Tok) (h : Rest l k acc) : acc.length ≤ k := by obtain ⟨_, _, h, _⟩ := h; exact h

/-- a token's cells -/
def encT (t : Tok) : List Value := [.int .u8 t.kind, .int .i64 t.fr, .int .i64 t.to]
def flatT (l : List Tok) : List Value := l.flatMap encT
theorem flatT_length (l : List Tok) : (flatT l).length = l.length * 3 := by
  induction l with
  | nil => rfl
  | cons x r ih => unfold flatT at *; rw [List.flatMap_cons, List.length_append, ih]; simp [encT]; omega
theorem flatT_get (l : List Tok) (i : Nat) (hi : i < l.length) : (flatT l)[i * 3]? = some (.int .u8 l[i].kind) ∧ (flatT l)[i * 3 + 1]? = some (.int .i64 l[i].fr) ∧ (flatT l)[i * 3 + 2]? = some (.int .i64 l[i].to) := by
  induction l generalizing i with
  | nil => simp at hi
  | cons x r ih =>
    unfold flatT at *
    cases i with
    | zero => simp [encT]
    | succ i =>
      have := ih i (by simpa using hi)
      rw [List.flatMap_cons, List.getElem?_append_right (by simp [encT]; omega), List.getElem?_append_right (by simp [encT]; omega), List.getElem?_append_right (by simp [encT]; omega)]
      simpa [encT, Nat.succ_mul, show i * 3 + 3 - 3 = i * 3 by omega, show i * 3 + 3 + 1 - 3 = i * 3 + 1 by omega, show i * 3 + 3 + 2 - 3 = i * 3 + 2 by omega] using this
theorem flatT_snoc (l : List Tok) (t : Tok) : flatT (l ++ [t]) = flatT l ++ encT t := by unfold flatT; simp
/-- a slice of tokens, in memory -/
def TokRow (w : World) (v : Value) (l : List Tok) : Prop := ∃ q c, v = .slice q l.length c ∧ (l = [] ∨ ∃ b, q = some ⟨b, 0, none⟩ ∧ b < w.heap.size ∧
  ∀ i (h : i < l.length), w.cell? ⟨b, i * 3, none⟩ = some (.int .u8 l[i].kind) ∧ w.cell? ⟨b, i * 3 + 1, none⟩ = some (.int .i64 l[i].fr) ∧ w.cell? ⟨b, i * 3 + 2, none⟩ = some (.int .i64 l[i].to))
theorem TokRow.below {w w' : World} {v : Value} {l : List Tok} (h : TokRow w v l) (hb : Below w.heap.size w w') : TokRow w' v l := by
  obtain ⟨q, c, hv, h⟩ := h
  refine ⟨q, c, hv, ?_⟩
  rcases h with h | ⟨b, hq, hl, h⟩
  · exact .inl h
  · refine .inr ⟨b, hq, Nat.lt_of_lt_of_le hl hb.size, fun i hi => ?_⟩
    obtain ⟨a1, a2, a3⟩ := h i hi
    exact ⟨by rw [hb.cell (p := ⟨b, i * 3, none⟩) hl]; exact a1, by rw [hb.cell (p := ⟨b, i * 3 + 1, none⟩) hl]; exact a2, by rw [hb.cell (p := ⟨b, i * 3 + 2, none⟩) hl]; exact a3⟩
theorem tokrow_nil (w : World) : TokRow w (.slice none 0 0) [] := ⟨none, 0, rfl, .inl rfl⟩
theorem own_below {w w' : World} {base e size n : Nat} {v : Value} {xs : List Value} (h : w.ownsRow base e size v n xs) (hb : Below w.heap.size w w') : w'.ownsRow base e size v n xs :=
  h.kept (row := none) ⟨hb.os, hb.tape, hb.output, hb.size, fun k hk _ => hb.block k hk⟩ (by cases hv : v.ownBlock <;> simp)
theorem own_toks {w : World} {base : Nat} {v : Value} {l : List Tok} (h : w.ownsRow base 32 3 v l.length (flatT l)) : TokRow w v l := by
  obtain ⟨_, h2⟩ := id h
  rcases h2 with ⟨rfl, e⟩ | ⟨g, cap, cur, rfl, hb, hg, _⟩
  · exact ⟨none, 0, by rw [e], .inl (List.length_eq_zero_iff.1 e)⟩
  · refine ⟨_, cap, rfl, .inr ⟨g, rfl, (Array.getElem?_eq_some_iff.1 hg).1, fun i hi => ?_⟩⟩
    obtain ⟨p, q, r⟩ := flatT_get l i hi
    have c1 := h.cells (g := g) rfl (i * 3) _ p
    have c2 := h.cells (g := g) rfl (i * 3 + 1) _ q
    have c3 := h.cells (g := g) rfl (i * 3 + 2) _ r
    rw [Addr.add_lit] at c1 c2 c3
    simp only [Nat.zero_add] at c1 c2 c3
    exact ⟨c1, c2, c3⟩
theorem info32 : (Tryd.prog.info? 32).map (fun i => (i.zero, i.size, i.bytes)) = some (some (.agg #[.int .u8 0, .int .i64 0, .int .i64 0]), 3, 24) := by kernel_rfl

theorem far_to {w1 w2 : World} {K k m : Int} {row : Option Nat} {base : Nat} (hg : World.grownBy ((w1.alloc (.cells #[.int .u8 K, .int .i64 k, .int .i64 m] 32)).alloc (.cells #[.int .u8 K, .int .i64 k, .int .i64 m] 32)) w2 row) (hlt : ∀ x, row = some x → base ≤ x ∧ x < w1.heap.size) : w2.cell? ⟨w1.heap.size, 2, none⟩ = some (.int .i64 m) := by
  rw [hg.cell_far ⟨w1.heap.size, 2, none⟩ (by simp; omega) (fun h => absurd (hlt _ h.symm).2 (Nat.lt_irrefl _))]
  simp [go_sem]
/-- what All leaves -/
def AllPost (s : ByteArray) (w : World) (e : Ending) (w' : World) : Prop := ∃ v, e = .returned (.tuple #[v, .int .i64 (allL s.data.toList).pl, .int .i64 (allL s.data.toList).err]) ∧ TokRow w' v (allL s.data.toList).toks ∧ Below w.heap.size w w'
theorem allL_short (l : List UInt8) (h : l.length ≤ 4096) : allL l = allF l.length 0 l := by unfold allL; rw [if_neg (by omega)]
theorem allL_long (l : List UInt8) (h : 4096 < l.length) : allL l = ⟨[], 0, 2⟩ := by unfold allL; rw [if_pos h]
theorem oneA_at (s : ByteArray) (k : Nat) (hk : k < s.size) : oneV s.data.toList k = ansV (oneL (s.data.toList.drop k)) k := by
  rw [oneV_in s k hk _ rfl, ← drop_at s k hk]
end Go.Proofs.YtpkccmceobonnaaDoor
