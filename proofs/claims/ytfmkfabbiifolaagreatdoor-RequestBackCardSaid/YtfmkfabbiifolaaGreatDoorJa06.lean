/-
  Joined of: OneA, AllP, All, Bas.
-/
import Derived.Test.YtfmkfabbiifolaaGreatDoorJa05
import Derived.Lib.SmallJoins
import Derived.Deep.AppendLies
import Derived.Deep.RegionWith
import Derived.Deep.RegionHeld3
import Derived.OwnWalk
import Derived.ArgAppend
import Derived.Deep.RegionLaw
import Derived.StillTactics
import Derived.Laws.StructEq
import Derived.ProofKit
set_option linter.unusedVariables false
set_option linter.unusedSimpArgs false
/-
  Contract: lex.One, whole.
-/
namespace Go.Proofs.YtfmkfabbiifolaaGreatDoor
open Go.RowKit

/-- an answer as a value -/
def ansV (t : Tk) (a : Int) : Value := .tuple #[.agg #[.int .u8 t.kind, .int .i64 (if t.err = 0 then a else 0), .int .i64 (if t.err = 0 then a + t.len else 0)], .int .i64 t.err]
theorem oneV_out (s : ByteArray) (a : Int) (h : a < 0 ∨ (s.size : Int) ≤ a) : oneV s.data.toList a = ansV ⟨1, 0, 0⟩ a := by
  unfold oneV oneA
  rw [if_neg (by simp; omega)]; rfl
theorem oneV_in (s : ByteArray) (k : Nat) (hk : k < s.size) (t : Tk) (h : oneL (s[k] :: s.data.toList.drop (k + 1)) = t) : oneV s.data.toList k = ansV t k := by
  unfold oneV oneA
  rw [if_pos (by simp; omega), show ((k : Int)).toNat = k from rfl, drop_at s k hk, h]; rfl
theorem extract_list (s : ByteArray) (k e : Nat) : (s.extract k e).data.toList = (s.data.toList.drop k).take (e - k) := by
  rw [ByteArray.data_extract]; simp [List.extract_eq_take_drop]
theorem next_some (s : ByteArray) (k : Nat) (hk : k + 1 < s.size) : (s.data.toList.drop (k + 1)).headD 0 = s[k + 1] := by
  rw [drop_at s (k + 1) hk]; rfl
theorem next_none (s : ByteArray) (k : Nat) (hk : ¬ k + 1 < s.size) : (s.data.toList.drop (k + 1)).headD 0 = 0 := by
  rw [List.drop_eq_nil_of_le (by simp; omega)]; rfl
theorem next_is (s : ByteArray) (k n : Nat) (h0 : 0 < n) (h : ((s.data.toList.drop (k + 1)).headD 0).toNat == n) : ∃ hk1 : k + 1 < s.size, (s[k + 1].toNat == n) = true := by
  by_cases hk : k + 1 < s.size
  · rw [next_some s k hk] at h; exact ⟨hk, h⟩
  · rw [next_none s k hk] at h; simp at h; omega
theorem next_not (s : ByteArray) (k n : Nat) (h : (((s.data.toList.drop (k + 1)).headD 0).toNat == n) = false) : ¬ k + 1 < s.size ∨ ∃ hk1 : k + 1 < s.size, (s[k + 1].toNat == n) = false := by
  by_cases hk : k + 1 < s.size
  · rw [next_some s k hk] at h; exact .inr ⟨hk, h⟩
  · exact .inl hk
theorem next_dig (s : ByteArray) (k : Nat) (h : digB ((s.data.toList.drop (k + 1)).headD 0).toNat = true) : ∃ hk1 : k + 1 < s.size, digB (s[k + 1].toNat : Int) = true := by
  by_cases hk : k + 1 < s.size
  · rw [next_some s k hk] at h; exact ⟨hk, h⟩
  · rw [next_none s k hk] at h; simp [digB] at h
theorem next_nodig (s : ByteArray) (k : Nat) (h : digB ((s.data.toList.drop (k + 1)).headD 0).toNat = false) : ¬ k + 1 < s.size ∨ ∃ hk1 : k + 1 < s.size, digB (s[k + 1].toNat : Int) = false := by
  by_cases hk : k + 1 < s.size
  · rw [next_some s k hk] at h; exact .inr ⟨hk, h⟩
  · exact .inl hk

theorem nt {b : Bool} (h : b = false) : ¬ b = true := by rw [h]; decide
abbrev Blk (c : UInt8) : Bool := (c.toNat == 32 || c.toNat == 9)
abbrev Sgn (c : UInt8) : Bool := (c.toNat == 40 || c.toNat == 41 || c.toNat == 44 || c.toNat == 46 || c.toNat == 60)
theorem oneL_blank (c : UInt8) (r : List UInt8) (h : Blk c = true) : oneL (c :: r) = ⟨4, 0, 0⟩ := by rw [oneL, if_pos h]
theorem oneL_sign (c : UInt8) (r : List UInt8) (h : Blk c = false) (h2 : Sgn c = true) : oneL (c :: r) = ⟨0, 4, 1⟩ := by rw [oneL, if_neg (nt h), if_pos h2]
theorem oneL_colon (c : UInt8) (r : List UInt8) (h : Blk c = false) (h2 : Sgn c = false) (h3 : (c.toNat == 58) = true) (h4 : ((r.headD 0).toNat == 45) = true) : oneL (c :: r) = ⟨0, 4, 2⟩ := by
  rw [oneL, if_neg (nt h), if_neg (nt h2), if_pos h3, if_pos h4]
theorem oneL_colon_no (c : UInt8) (r : List UInt8) (h : Blk c = false) (h2 : Sgn c = false) (h3 : (c.toNat == 58) = true) (h4 : ((r.headD 0).toNat == 45) = false) : oneL (c :: r) = ⟨5, 0, 0⟩ := by
  rw [oneL, if_neg (nt h), if_neg (nt h2), if_pos h3, if_neg (nt h4)]
theorem oneL_bang (c : UInt8) (r : List UInt8) (h : Blk c = false) (h2 : Sgn c = false) (h3 : (c.toNat == 58) = false) (h4 : (c.toNat == 33) = true) (h5 : ((r.headD 0).toNat == 61) = true) : oneL (c :: r) = ⟨0, 4, 2⟩ := by
  rw [oneL, if_neg (nt h), if_neg (nt h2), if_neg (nt h3), if_pos h4, if_pos h5]
theorem oneL_bang_no (c : UInt8) (r : List UInt8) (h : Blk c = false) (h2 : Sgn c = false) (h3 : (c.toNat == 58) = false) (h4 : (c.toNat == 33) = true) (h5 : ((r.headD 0).toNat == 61) = false) : oneL (c :: r) = ⟨5, 0, 0⟩ := by
  rw [oneL, if_neg (nt h), if_neg (nt h2), if_neg (nt h3), if_pos h4, if_neg (nt h5)]
abbrev Begins (c : UInt8) (r : List UInt8) : Prop := ((c.toNat == 45) = true ∧ digB (r.headD 0).toNat = true) ∨ ((c.toNat == 45) = false ∧ winB (c.toNat : Int) = true)
theorem oneL_piece (c : UInt8) (r : List UInt8) (h : Blk c = false) (h2 : Sgn c = false) (h3 : (c.toNat == 58) = false) (h4 : (c.toNat == 33) = false) (h5 : Begins c r) : oneL (c :: r) = pieceL (c :: r) (1 + runL r) := by
  rw [oneL, if_neg (nt h), if_neg (nt h2), if_neg (nt h3), if_neg (nt h4)]
  rcases h5 with ⟨a, b⟩ | ⟨a, b⟩
  · rw [if_pos a, if_pos b]
  · rw [if_neg (nt a), if_pos b]
theorem oneL_none (c : UInt8) (r : List UInt8) (h : Blk c = false) (h2 : Sgn c = false) (h3 : (c.toNat == 58) = false) (h4 : (c.toNat == 33) = false) (h5 : ¬ Begins c r) : oneL (c :: r) = ⟨5, 0, 0⟩ := by
  rw [oneL, if_neg (nt h), if_neg (nt h2), if_neg (nt h3), if_neg (nt h4)]
  cases a : (c.toNat == 45) with
  | true => rw [if_pos rfl, if_neg (fun b => h5 (.inl ⟨a, b⟩))]
  | false => rw [if_neg (by decide), if_neg (fun b => h5 (.inr ⟨a, b⟩))]

set_option maxHeartbeats 1000000 in
theorem one_any (s : ByteArray) (a : Int) (w : World) (hm : s.size ≤ 140737488351232) (he : Env w) : Calls Tryz.prog 42 #[.string s, .int .i64 a] w fun e w' => e = .returned (oneV s.data.toList a) ∧ Below w.heap.size w w' := by
  by_cases ho : a < 0 ∨ (¬ a < 0 ∧ (s.size : Int) ≤ a)
  · rw [oneV_out s a (by omega)]; exact one_out s a w hm ho
  obtain ⟨k, rfl⟩ := Int.eq_ofNat_of_zero_le (show 0 ≤ a by omega)
  have hk : k < s.size := by omega
  by_cases hb : (s[k].toNat == 32 || s[k].toNat == 9) = true
  · rw [oneV_in s k hk _ (oneL_blank _ _ hb)]
    refine one_blank s k w hk hm ?_
    cases h1 : (s[k].toNat == 32) with
    | true => exact .inl rfl
    | false => rw [h1] at hb; exact .inr ⟨rfl, hb⟩
  have hb' : (s[k].toNat == 32 || s[k].toNat == 9) = false := by simpa using hb
  have g1 : (s[k].toNat == 32) = false := by rw [Bool.or_eq_false_iff] at hb'; exact hb'.1
  have g2 : (s[k].toNat == 9) = false := by rw [Bool.or_eq_false_iff] at hb'; exact hb'.2
  by_cases hs : (s[k].toNat == 40 || s[k].toNat == 41 || s[k].toNat == 44 || s[k].toNat == 46 || s[k].toNat == 60) = true
  · rw [oneV_in s k hk _ (oneL_sign _ _ hb' hs)]
    refine one_sign s k w hk hm g1 g2 ?_
    cases h1 : (s[k].toNat == 40) <;> cases h2 : (s[k].toNat == 41) <;> cases h3 : (s[k].toNat == 44) <;> cases h4 : (s[k].toNat == 46) <;> cases h5 : (s[k].toNat == 60) <;> simp_all
  have hs' : (s[k].toNat == 40 || s[k].toNat == 41 || s[k].toNat == 44 || s[k].toNat == 46 || s[k].toNat == 60) = false := by simpa using hs
  obtain ⟨g3, g4, g5, g6, g7⟩ : (s[k].toNat == 40) = false ∧ (s[k].toNat == 41) = false ∧ (s[k].toNat == 44) = false ∧ (s[k].toNat == 46) = false ∧ (s[k].toNat == 60) = false := by
    simp only [Bool.or_eq_false_iff] at hs'; exact ⟨hs'.1.1.1.1, hs'.1.1.1.2, hs'.1.1.2, hs'.1.2, hs'.2⟩
  by_cases h8 : (s[k].toNat == 58) = true
  · by_cases hn : ((s.data.toList.drop (k + 1)).headD 0).toNat == 45
    · obtain ⟨hk1, he1⟩ := next_is s k 45 (by decide) hn
      rw [oneV_in s k hk _ (oneL_colon _ _ hb' hs' h8 hn)]
      exact one_colon_yes s k w hk hm g1 g2 g3 g4 g5 g6 g7 h8 hk1 he1
    · have hn : (((s.data.toList.drop (k + 1)).headD 0).toNat == 45) = false := by simpa using hn
      rw [oneV_in s k hk _ (oneL_colon_no _ _ hb' hs' h8 hn)]
      exact one_colon_no s k w hk hm g1 g2 g3 g4 g5 g6 g7 h8 (next_not s k 45 hn)
  have h8 : (s[k].toNat == 58) = false := by simpa using h8
  by_cases h9 : (s[k].toNat == 33) = true
  · by_cases hn : ((s.data.toList.drop (k + 1)).headD 0).toNat == 61
    · obtain ⟨hk1, he1⟩ := next_is s k 61 (by decide) hn
      rw [oneV_in s k hk _ (oneL_bang _ _ hb' hs' h8 h9 hn)]
      exact one_bang_yes s k w hk hm g1 g2 g3 g4 g5 g6 g7 h8 h9 hk1 he1
    · have hn : (((s.data.toList.drop (k + 1)).headD 0).toNat == 61) = false := by simpa using hn
      rw [oneV_in s k hk _ (oneL_bang_no _ _ hb' hs' h8 h9 hn)]
      exact one_bang_no s k w hk hm g1 g2 g3 g4 g5 g6 g7 h8 h9 (next_not s k 61 hn)
  have h9 : (s[k].toNat == 33) = false := by simpa using h9
  have hst : 1 + runL (s.data.toList.drop (k + 1)) = k + 1 + runL (s.data.toList.drop (k + 1)) - k := by omega
  have hkd : kindL ((s[k] :: s.data.toList.drop (k + 1)).take (1 + runL (s.data.toList.drop (k + 1)))) = kindL (s.extract k (k + 1 + runL (s.data.toList.drop (k + 1)))).data.toList := by
    rw [hst, ← drop_at s k hk, extract_list]
  have hsz : (s.extract k (k + 1 + runL (s.data.toList.drop (k + 1)))).size ≤ 140737488351232 := by rw [ByteArray.size_extract]; omega
  have hpo : 0 < (s.extract k (k + 1 + runL (s.data.toList.drop (k + 1)))).size := by
    have := runL_le (s.data.toList.drop (k + 1))
    simp at this
    rw [ByteArray.size_extract]; omega
  by_cases hp : ((s[k].toNat == 45) = true ∧ digB ((s.data.toList.drop (k + 1)).headD 0).toNat = true) ∨ ((s[k].toNat == 45) = false ∧ winB (s[k].toNat : Int) = true)
  · have hl := oneL_piece _ _ hb' hs' h8 h9 hp
    have hmode : ((s[k].toNat == 45) = true ∧ ∃ h : k + 1 < s.size, digB (s[k + 1].toNat : Int) = true) ∨ ((s[k].toNat == 45) = false ∧ winB (s[k].toNat : Int) = true) := by
      rcases hp with ⟨h1, h2⟩ | h
      · exact .inl ⟨h1, next_dig s k h2⟩
      · exact .inr h
    by_cases hz : kindL (s.extract k (k + 1 + runL (s.data.toList.drop (k + 1)))).data.toList = 0
    · rw [oneV_in s k hk ⟨5, 0, 0⟩ (by rw [hl, pieceL, if_pos (by rw [hkd]; exact hz)])]
      exact one_piece_no s k _ _ w he hk hm rfl (by rw [hz]; rfl) (fun wx hex => kind_any _ wx hsz hpo hex) hmode g1 g2 g3 g4 g5 g6 g7 h8 h9
    · rw [oneV_in s k hk ⟨0, kindL (s.extract k (k + 1 + runL (s.data.toList.drop (k + 1)))).data.toList, 1 + runL (s.data.toList.drop (k + 1))⟩ (by rw [hl, pieceL, if_neg (by rw [hkd]; exact hz), hkd])]
      have hto : ((k : Int) + ((1 + runL (s.data.toList.drop (k + 1)) : Nat) : Int)) = ((k + 1 + runL (s.data.toList.drop (k + 1)) : Nat) : Int) := by omega
      unfold ansV
      simp only [if_true, hto]
      exact one_piece_yes s k _ _ w he hk hm rfl (by simpa using hz) (fun wx hex => kind_any _ wx hsz hpo hex) hmode g1 g2 g3 g4 g5 g6 g7 h8 h9
  · rw [oneV_in s k hk ⟨5, 0, 0⟩ (oneL_none _ _ hb' hs' h8 h9 hp)]
    cases h10 : (s[k].toNat == 45) with
    | true =>
      have hd : digB ((s.data.toList.drop (k + 1)).headD 0).toNat = false := by
        cases h : digB ((s.data.toList.drop (k + 1)).headD 0).toNat with
        | false => rfl
        | true => exact absurd (.inl ⟨h10, h⟩) hp
      exact one_minus_no s k w hk hm g1 g2 g3 g4 g5 g6 g7 h8 h9 h10 (next_nodig s k hd)
    | false =>
      have hd : winB (s[k].toNat : Int) = false := by
        cases h : winB (s[k].toNat : Int) with
        | false => rfl
        | true => exact absurd (.inr ⟨h10, h⟩) hp
      exact one_other s k w hk hm g1 g2 g3 g4 g5 g6 g7 h8 h9 h10 hd
end Go.Proofs.YtfmkfabbiifolaaGreatDoor

/-
  Plain: the tokens of a text, step by step; rows of tokens in memory.
-/
namespace Go.Proofs.YtfmkfabbiifolaaGreatDoor
open Go.RowKit

theorem put_put (acc : List Tok) (t : Tok) (x : Toks) : Toks.put acc (Toks.put [t] x) = Toks.put (acc ++ [t]) x := by
  unfold Toks.put
  by_cases h : x.err = 0
  · simp [h]
  · simp [h]
theorem put_nil (x : Toks) (h : x.err = 0 → x.pl = 0) (h2 : x.err ≠ 0 → x.toks = []) : Toks.put [] x = x := by
  unfold Toks.put
  obtain ⟨t, p, e⟩ := x
  by_cases he : e = 0
  · subst he; simp at h; subst h; simp
  · simp [he] at h2 ⊢; exact h2
theorem allF_form : ∀ (f k : Nat) (l : List UInt8), ((allF f k l).err = 0 → (allF f k l).pl = 0) ∧ ((allF f k l).err ≠ 0 → (allF f k l).toks = [])
  | 0, _, _ => by simp [allF]
  | _ + 1, _, [] => by simp [allF]
  | f + 1, k, c :: r => by
    rw [allF]
    split
    · exact allF_form f (k + 1) r
    · split
      · unfold Toks.put; split
        · simp
        · rename_i h; simp [h]
      · rename_i h; simp [h]
/-- what is still to come, behind what has been read -/
def Rest (l : List UInt8) (k : Nat) (acc : List Tok) : Prop := ∃ f, l.length - k ≤ f ∧ acc.length ≤ k ∧ Toks.put acc (allF f k (l.drop k)) = allF l.length 0 l
theorem rest_start (l : List UInt8) : Rest l 0 [] := ⟨l.length, by omega, Nat.le_refl _, by rw [List.drop_zero]; exact put_nil _ (allF_form _ _ _).1 (allF_form _ _ _).2⟩
theorem rest_blank (l : List UInt8) (k : Nat) (acc : List Tok) (h : Rest l k acc) (hk : k < l.length) (h4 : (oneL (l.drop k)).err = 4) : Rest l (k + 1) acc := by
  obtain ⟨f, hf, hl, he⟩ := h
  obtain ⟨g, rfl⟩ : ∃ g, f = g + 1 := ⟨f - 1, by omega⟩
  refine ⟨g, by omega, by omega, ?_⟩
  rw [List.drop_eq_getElem_cons hk] at he h4
  rw [allF, if_pos h4] at he
  exact he
theorem rest_tok (l : List UInt8) (k : Nat) (acc : List Tok) (h : Rest l k acc) (hk : k < l.length) (h0 : (oneL (l.drop k)).err = 0) :
    Rest l (k + (oneL (l.drop k)).len) (acc ++ [⟨(oneL (l.drop k)).kind, k, (k + (oneL (l.drop k)).len : Nat)⟩]) ∧ 0 < (oneL (l.drop k)).len ∧ k + (oneL (l.drop k)).len ≤ l.length := by
  obtain ⟨f, hf, hl, he⟩ := h
  obtain ⟨g, rfl⟩ : ∃ g, f = g + 1 := ⟨f - 1, by omega⟩
  obtain ⟨hb, hb2⟩ := (oneL_bd (l.drop k) (by simp; omega)).1 h0
  simp only [List.length_drop] at hb2
  refine ⟨⟨g, by omega, by simp; omega, ?_⟩, hb, by omega⟩
  have hd : l.drop k = l[k] :: l.drop (k + 1) := List.drop_eq_getElem_cons hk
  rw [hd] at he h0
  rw [allF, if_neg (by rw [h0]; decide), if_pos h0, put_put, ← hd, List.drop_drop] at he
  exact he
theorem rest_err (l : List UInt8) (k : Nat) (acc : List Tok) (h : Rest l k acc) (hk : k < l.length) (h5 : (oneL (l.drop k)).err ≠ 0) (h4 : (oneL (l.drop k)).err ≠ 4) : allF l.length 0 l = ⟨[], k, (oneL (l.drop k)).err⟩ := by
  obtain ⟨f, hf, hl, he⟩ := h
  obtain ⟨g, rfl⟩ : ∃ g, f = g + 1 := ⟨f - 1, by omega⟩
  have hd : l.drop k = l[k] :: l.drop (k + 1) := List.drop_eq_getElem_cons hk
  rw [← he]
  conv => lhs; rw [hd]
  rw [hd] at h5 h4
  rw [allF, if_neg h4, if_neg h5, ← hd]
  rw [← hd] at h5
  unfold Toks.put
  rw [if_neg h5]
theorem rest_end (l : List UInt8) (k : Nat) (acc : List Tok) (h : Rest l k acc) (hk : l.length ≤ k) : allF l.length 0 l = ⟨acc, 0, 0⟩ := by
  obtain ⟨f, hf, hl, he⟩ := h
  rw [← he, List.drop_eq_nil_of_le hk]
  cases f <;> simp [allF, Toks.put]
theorem rest_len (l : List UInt8) (k : Nat) (acc : List Tok) (h : Rest l k acc) : acc.length ≤ k := by obtain ⟨_, _, h, _⟩ := h; exact h

/-- a token's cells -/
def encT (t : Tok) : List Value := [.int .u8 t.kind, .int .i64 t.fr, .int .i64 t.to]
def flatT (l : List Tok) : List Value := l.flatMap encT
theorem flatT_length (l : List Tok) : (flatT l).length = l.length * 3 := by
  induction l with
  | nil => rfl
  | cons x r ih => unfold flatT at *; rw [List.flatMap_cons, List.length_append, ih]; simp [encT]; omega
theorem flatT_get (l : List Tok) (i : Nat) (hi : i < l.length) : (flatT l)[i * 3]? = some (.int .u8 l[i].kind) ∧ (flatT l)[i * 3 + 1]? = some (.int .i64 l[i].fr) ∧ (flatT l)[i * 3 + 2]? = some (.int .i64 l[i].to) := by
  induction l generalizing i with
  | nil => simp at hi
  | cons x r ih =>
    unfold flatT at *
    cases i with
    | zero => simp [encT]
    | succ i =>
      have := ih i (by simpa using hi)
      rw [List.flatMap_cons, List.getElem?_append_right (by simp [encT]; omega), List.getElem?_append_right (by simp [encT]; omega), List.getElem?_append_right (by simp [encT]; omega)]
      simpa [encT, Nat.succ_mul, show i * 3 + 3 - 3 = i * 3 by omega, show i * 3 + 3 + 1 - 3 = i * 3 + 1 by omega, show i * 3 + 3 + 2 - 3 = i * 3 + 2 by omega] using this
theorem flatT_snoc (l : List Tok) (t : Tok) : flatT (l ++ [t]) = flatT l ++ encT t := by unfold flatT; simp
/-- a slice of tokens, in memory -/
def TokRow (w : World) (v : Value) (l : List Tok) : Prop := ∃ q c, v = .slice q l.length c ∧ (l = [] ∨ ∃ b, q = some ⟨b, 0, none⟩ ∧ b < w.heap.size ∧
  ∀ i (h : i < l.length), w.cell? ⟨b, i * 3, none⟩ = some (.int .u8 l[i].kind) ∧ w.cell? ⟨b, i * 3 + 1, none⟩ = some (.int .i64 l[i].fr) ∧ w.cell? ⟨b, i * 3 + 2, none⟩ = some (.int .i64 l[i].to))
theorem TokRow.below {w w' : World} {v : Value} {l : List Tok} (h : TokRow w v l) (hb : Below w.heap.size w w') : TokRow w' v l := by
  obtain ⟨q, c, hv, h⟩ := h
  refine ⟨q, c, hv, ?_⟩
  rcases h with h | ⟨b, hq, hl, h⟩
  · exact .inl h
  · refine .inr ⟨b, hq, Nat.lt_of_lt_of_le hl hb.size, fun i hi => ?_⟩
    obtain ⟨a1, a2, a3⟩ := h i hi
    exact ⟨by rw [hb.cell (p := ⟨b, i * 3, none⟩) hl]; exact a1, by rw [hb.cell (p := ⟨b, i * 3 + 1, none⟩) hl]; exact a2, by rw [hb.cell (p := ⟨b, i * 3 + 2, none⟩) hl]; exact a3⟩
theorem tokrow_nil (w : World) : TokRow w (.slice none 0 0) [] := ⟨none, 0, rfl, .inl rfl⟩
theorem own_below {w w' : World} {base e size n : Nat} {v : Value} {xs : List Value} (h : w.ownsRow base e size v n xs) (hb : Below w.heap.size w w') : w'.ownsRow base e size v n xs :=
  h.kept (row := none) ⟨hb.os, hb.tape, hb.output, hb.size, fun k hk _ => hb.block k hk⟩ (by cases hv : v.ownBlock <;> simp)
theorem own_toks {w : World} {base : Nat} {v : Value} {l : List Tok} (h : w.ownsRow base 86 3 v l.length (flatT l)) : TokRow w v l := by
  obtain ⟨_, h2⟩ := id h
  rcases h2 with ⟨rfl, e⟩ | ⟨g, cap, cur, rfl, hb, hg, _⟩
  · exact ⟨none, 0, by rw [e], .inl (List.length_eq_zero_iff.1 e)⟩
  · refine ⟨_, cap, rfl, .inr ⟨g, rfl, (Array.getElem?_eq_some_iff.1 hg).1, fun i hi => ?_⟩⟩
    obtain ⟨p, q, r⟩ := flatT_get l i hi
    have c1 := h.cells (g := g) rfl (i * 3) _ p
    have c2 := h.cells (g := g) rfl (i * 3 + 1) _ q
    have c3 := h.cells (g := g) rfl (i * 3 + 2) _ r
    rw [Addr.add_lit] at c1 c2 c3
    simp only [Nat.zero_add] at c1 c2 c3
    exact ⟨c1, c2, c3⟩
theorem info32 : (Tryz.prog.info? 86).map (fun i => (i.zero, i.size, i.bytes)) = some (some (.agg #[.int .u8 0, .int .i64 0, .int .i64 0]), 3, 24) := by kernel_rfl

theorem far_to {w1 w2 : World} {K k m : Int} {row : Option Nat} {base : Nat} (hg : World.grownBy ((w1.alloc (.cells #[.int .u8 K, .int .i64 k, .int .i64 m] 86)).alloc (.cells #[.int .u8 K, .int .i64 k, .int .i64 m] 86)) w2 row) (hlt : ∀ x, row = some x → base ≤ x ∧ x < w1.heap.size) : w2.cell? ⟨w1.heap.size, 2, none⟩ = some (.int .i64 m) := by
  rw [hg.cell_far ⟨w1.heap.size, 2, none⟩ (by simp; omega) (fun h => absurd (hlt _ h.symm).2 (Nat.lt_irrefl _))]
  simp [go_sem]
/-- what All leaves -/
def AllPost (s : ByteArray) (w : World) (e : Ending) (w' : World) : Prop := ∃ v, e = .returned (.tuple #[v, .int .i64 (allL s.data.toList).pl, .int .i64 (allL s.data.toList).err]) ∧ TokRow w' v (allL s.data.toList).toks ∧ Below w.heap.size w w'
theorem allL_short (l : List UInt8) (h : l.length ≤ 4096) : allL l = allF l.length 0 l := by unfold allL; rw [if_neg (by omega)]
theorem allL_long (l : List UInt8) (h : 4096 < l.length) : allL l = ⟨[], 0, 2⟩ := by unfold allL; rw [if_pos h]
theorem oneA_at (s : ByteArray) (k : Nat) (hk : k < s.size) : oneV s.data.toList k = ansV (oneL (s.data.toList.drop k)) k := by
  rw [oneV_in s k hk _ rfl, ← drop_at s k hk]
end Go.Proofs.YtfmkfabbiifolaaGreatDoor

/-
  Contract: lex.All, whole.
-/
namespace Go.Proofs.YtfmkfabbiifolaaGreatDoor
open Go.RowKit

set_option maxHeartbeats 4000000 in
set_option maxRecDepth 100000 in
theorem all_any (s : ByteArray) (w : World) (hm : s.size ≤ 140737488351232) (he : Env w) : Calls Tryz.prog 15 #[.string s] w (AllPost s w) := by
  by_cases hl : 4096 < s.size
  · have HL := Lib.hid (allL_long s.data.toList (by simpa using hl))
    go_enter Tryz.func15, Tryz.ntmps15
    go_wp2_with fail
    go_ret3
    exact ⟨_, by rw [HL.out]; rfl, by rw [HL.out]; exact tokrow_nil w, Below.refl _ _⟩
  · have HL := Lib.hid (allL_short s.data.toList (by simpa using hl))
    obtain ⟨i0, hi, hz0, hz1, hz2⟩ := info_parts info32
    have HE := Lib.hid he
    clear he
    go_enter Tryz.func15, Tryz.ntmps15
    go_wp2_with fail
    go_loopw [5, 6] (fun v i wr => ∃ (k : Nat) (acc : List Tok), i = .int .i64 k ∧ k ≤ s.size ∧ Hid (Rest s.data.toList k acc) ∧ Hid (wr.ownsRow w.heap.size 86 3 v acc.length (flatT acc)) ∧ Below w.heap.size w wr) (fun _ i _ => s.size - (intOf i).toNat)
    case atStart => exact ⟨0, [], rfl, Nat.zero_le _, Lib.hid (rest_start _), Lib.hid (World.ownsRow_nil _ _ _ _), Below.refl _ _⟩
    case round =>
      obtain ⟨k, acc, rfl, hk, HR, HO, hb⟩ := hrel
      have HB := Lib.hid hb
      clear hb
      by_cases hlt : k < s.size
      · have hlen : k < s.data.toList.length := by simpa using hlt
        have hbd := oneL_bd (s.data.toList.drop k) (by simp; omega)
        have hc := fun wx (hex : Env wx) => one_any s k wx hm hex
        simp only [oneA_at s k hlt] at hc
        by_cases h4 : (oneL (s.data.toList.drop k)).err = 4
        · have HN := Lib.hid (rest_blank _ k acc HR.out hlen h4)
          have hk0 := hbd.2.2 (by rw [h4]; decide)
          unfold ansV at hc
          simp only [h4, hk0, show ¬ ((4 : Int) = 0) by decide, if_false] at hc
          have HC := Lib.hid hc
          clear hc hbd h4 hk0
          go_wp2_with fail
          refine (HC.out _ (HE.out.on HB.out)).mono ?_
          rintro e w1 ⟨rfl, hb1⟩
          have HO1 := Lib.hid ((own_below HO.out hb1).alloc (.cells #[.int .u8 0, .int .i64 0, .int .i64 0] 86))
          have HB1 := Lib.hid ((HB.out.trans (hb1.mono HB.out.size)).alloc (HB.out.trans (hb1.mono HB.out.size)).size (.cells #[.int .u8 0, .int .i64 0, .int .i64 0] 86))
          clear hb1
          go_wp2_with fail
          go_roundw
          case rel => exact ⟨k + 1, acc, by go_num, by omega, HN, HO1, HB1.out⟩
          case measure => simp [intOf]; omega
        · by_cases h0 : (oneL (s.data.toList.drop k)).err = 0
          · obtain ⟨hrest, hp, hle⟩ := rest_tok _ k acc HR.out hlen h0
            have HN := Lib.hid hrest
            unfold ansV at hc
            simp only [h0, if_true] at hc
            have hto : ((k : Int) + (((oneL (s.data.toList.drop k)).len : Nat) : Int)) = ((k + (oneL (s.data.toList.drop k)).len : Nat) : Int) := by omega
            rw [hto] at hc
            have HC := Lib.hid hc
            have hal := rest_len _ _ _ HR.out
            have hle' : k + (oneL (s.data.toList.drop k)).len ≤ s.size := by simpa using hle
            have hkm : k < k + (oneL (s.data.toList.drop k)).len := by omega
            clear hc hbd h4 h0 hto hrest hp hle
            generalize (oneL (s.data.toList.drop k)).kind = K at *
            generalize k + (oneL (s.data.toList.drop k)).len = m at *
            go_wp2_with fail
            refine (HC.out _ (HE.out.on HB.out)).mono ?_
            rintro e w1 ⟨rfl, hb1⟩
            have HLT := Lib.hid (own_below HO.out hb1).lt
            have HO1 := Lib.hid (((own_below HO.out hb1).alloc (.cells #[.int .u8 K, .int .i64 k, .int .i64 m] 86)).alloc (.cells #[.int .u8 K, .int .i64 k, .int .i64 m] 86))
            have hB1 := HB.out.trans (hb1.mono HB.out.size)
            have HB1 := Lib.hid ((hB1.alloc hB1.size (.cells #[.int .u8 K, .int .i64 k, .int .i64 m] 86)).alloc (by have := hB1.size; simp; omega) (.cells #[.int .u8 K, .int .i64 k, .int .i64 m] 86))
            have h63 : acc.length + 1 ≤ maxLen := by unfold maxLen; omega
            have h64 : (acc.length + 1) * 24 ≤ 140737488355328 := by omega
            have h65 := HB1.out.size
            have hnw : ∀ j u, ([.int .u8 K, .int .i64 k, .int .i64 m] : List Value)[j]? = some u → ((w1.alloc (.cells #[.int .u8 K, .int .i64 k, .int .i64 m] 86)).alloc (.cells #[.int .u8 K, .int .i64 k, .int .i64 m] 86)).cell? ((⟨w1.heap.size + 1, 0, none⟩ : Addr).add j) = some u :=
              World.news_of_block (cs := #[.int .u8 K, .int .i64 k, .int .i64 m]) (t := 86) (fr := (0, 0)) (by have := (MapKept.heap_alloc (w1.alloc (.cells #[.int .u8 K, .int .i64 k, .int .i64 m] 86)) (.cells #[.int .u8 K, .int .i64 k, .int .i64 m] 86)).1; simpa using this)
            have h1c : ∀ u ∈ ([.int .u8 K, .int .i64 k, .int .i64 m] : List Value), u.oneCell' = true := by intro u hu; simp at hu; rcases hu with rfl | rfl | rfl <;> rfl
            have HNW := Lib.hid hnw
            clear hnw
            clear hb1 hB1
            go_wp2_with (at_builtin; refine wpList_append_own _ rfl _ _ 50 rfl w.heap.size 86 i0 (.agg #[.int .u8 0, .int .i64 0, .int .i64 0]) 3 24 Tryz.underlying50 hi hz0 hz1 hz2 rfl (by decide) _ _ _ rfl HO1.out ⟨w1.heap.size + 1, 0, none⟩ 1 1 [.int .u8 K, .int .i64 k, .int .i64 m] rfl rfl HNW.out h1c h63 h64 h65 ?_; intro v' w2 hown' hgrow _; have x2 := far_to hgrow HLT.out; have HG := Lib.hid hgrow; have HOW := Lib.hid hown'; clear hgrow hown')
            have HB2 := Lib.hid (HB1.out.grown HG.out h65 (fun x hx => (HLT.out x hx).1))
            go_wp2_with fail
            go_roundw
            case rel => exact ⟨m, acc ++ [⟨K, k, m⟩], rfl, hle', HN, Lib.hid (by rw [List.length_append, flatT_snoc]; exact HOW.out), HB2.out⟩
            case measure => simp [intOf]; omega
          · have HF := Lib.hid (rest_err _ k acc HR.out hlen h0 h4)
            have h5 : (oneL (s.data.toList.drop k)).err = 5 := by rcases hbd.2.1 with h | h | h; exact absurd h h0; exact absurd h h4; exact h
            have hk0 := hbd.2.2 h0
            unfold ansV at hc
            simp only [h5, hk0, show ¬ ((5 : Int) = 0) by decide, if_false] at hc
            rw [h5] at HF
            have HC := Lib.hid hc
            clear hc hbd h4 h0 hk0 h5
            go_wp2_with fail
            refine (HC.out _ (HE.out.on HB.out)).mono ?_
            rintro e w1 ⟨rfl, hb1⟩
            have hB1 := HB.out.trans (hb1.mono HB.out.size)
            have HB1 := Lib.hid (hB1.alloc hB1.size (.cells #[.int .u8 0, .int .i64 0, .int .i64 0] 86))
            clear hb1 hB1
            go_wp2_with fail
            go_ret3
            exact ⟨_, by rw [HL.out, HF.out]; rfl, by rw [HL.out, HF.out]; exact tokrow_nil _, HB1.out⟩
      · have HF := Lib.hid (rest_end _ k acc HR.out (by simpa using hlt))
        go_wp2_with fail
        go_ret3
        exact ⟨_, by rw [HL.out, HF.out]; rfl, by rw [HL.out, HF.out]; exact own_toks HO.out, HB.out⟩
end Go.Proofs.YtfmkfabbiifolaaGreatDoor

/-
  Small lemmas of the walks: worlds, texts (beside those of Good, Text and Name).
-/
namespace Go.Proofs.YtfmkfabbiifolaaGreatDoor
open Go.RowKit

theorem below1 (w : World) (o1 : Obj) : Below w.heap.size w (w.alloc o1) := (Below.refl _ _).alloc (Nat.le_refl _) _
theorem below2 (w : World) (o1 o2 : Obj) : Below w.heap.size w ((w.alloc o1).alloc o2) :=
  ((Below.refl _ _).alloc (Nat.le_refl _) _).alloc (by simp) _
theorem sz_pos (s : ByteArray) : decide (0 < s.size) = !s.toList.isEmpty := by
  rw [ByteArray.toList_eq]
  obtain ⟨⟨l⟩⟩ := s
  cases l with
  | nil => rfl
  | cons c r => show decide (0 < r.length + 1) = true; simp
theorem lt_of_cell {W : World} {b o : Nat} {u : Value} (h : W.cell? ⟨b, o, none⟩ = some u) : b < W.heap.size := World.block_lt_of_cell? W ⟨b, o, none⟩ h
end Go.Proofs.YtfmkfabbiifolaaGreatDoor
