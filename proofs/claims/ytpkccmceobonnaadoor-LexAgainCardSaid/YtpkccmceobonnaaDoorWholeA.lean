/-
  Plain: the tokens of a text stand one behind the other, blanks between.
-/
import Derived.Test.YtpkccmceobonnaaDoorAllP
namespace Go.Proofs.YtpkccmceobonnaaDoor
open Go.RowKit

/-- blanks from k on, up to p -/
def Blanks (l : List UInt8) (k p : Nat) : Prop := ∀ j, k ≤ j → j < p → ∃ h : j < l.length, (l[j].toNat = 32 ∨ l[j].toNat = 9)
def ChainT (l : List UInt8) : Nat → List Tok → Prop
  | k, [] => k ≤ l.length ∧ Blanks l k l.length
  | k, t :: ts => ∃ p n : Nat, k ≤ p ∧ p < l.length ∧ t.fr = p ∧ Blanks l k p ∧ oneL (l.drop p) = ⟨0, t.kind, n⟩ ∧ t.to = (p + n : Nat) ∧ 0 < n ∧ p + n ≤ l.length ∧ ChainT l (p + n) ts
theorem one_four (c : UInt8) (r : List UInt8) (h : (oneL (c :: r)).err = 4) : c.toNat = 32 ∨ c.toNat = 9 := by
  cases hb : Blk c with
  | true => simpa [Blk] using hb
  | false =>
    exfalso
    rw [oneL, if_neg (nt hb)] at h
    have hp : ∀ n, (pieceL (c :: r) n).err ≠ 4 := fun n => by unfold pieceL; split <;> simp
    split at h
    · simp at h
    split at h
    · split at h <;> simp at h
    split at h
    · split at h <;> simp at h
    split at h
    · split at h
      · exact hp _ h
      · simp at h
    split at h
    · exact hp _ h
    · simp at h
theorem chain_blank (l : List UInt8) (k : Nat) (hk : k < l.length) (hb : l[k].toNat = 32 ∨ l[k].toNat = 9) : ∀ ts, ChainT l (k + 1) ts → ChainT l k ts
  | [], h => ⟨by omega, fun j h1 h2 => by
      by_cases e : j = k
      · subst e; exact ⟨hk, hb⟩
      · exact h.2 j (by omega) h2⟩
  | t :: ts, ⟨p, n, h1, h2, h3, h4, h5⟩ => ⟨p, n, by omega, h2, h3, fun j a b => by
      by_cases e : j = k
      · subst e; exact ⟨hk, hb⟩
      · exact h4 j (by omega) b, h5⟩
theorem chain_of_all (l : List UInt8) : ∀ (f k : Nat), k ≤ l.length → l.length - k ≤ f → (allF f k (l.drop k)).err = 0 → ChainT l k (allF f k (l.drop k)).toks
  | 0, k, hk, hf, _ => by
    rw [allF]
    exact ⟨hk, fun j h1 h2 => by omega⟩
  | f + 1, k, hk, hf, he => by
    by_cases hlt : k < l.length
    · have hd : l.drop k = l[k] :: l.drop (k + 1) := List.drop_eq_getElem_cons hlt
      rw [hd] at he ⊢
      rw [allF] at he ⊢
      by_cases h4 : (oneL (l[k] :: l.drop (k + 1))).err = 4
      · rw [if_pos h4] at he ⊢
        exact chain_blank l k hlt (one_four _ _ h4) _ (chain_of_all l f (k + 1) hlt (by omega) he)
      · rw [if_neg h4] at he ⊢
        by_cases h0 : (oneL (l[k] :: l.drop (k + 1))).err = 0
        · rw [if_pos h0] at he ⊢
          rw [← hd] at he h0 ⊢
          obtain ⟨hb, hb2⟩ := (oneL_bd (l.drop k) (by simp; omega)).1 h0
          simp only [List.length_drop] at hb2
          rw [List.drop_drop] at he ⊢
          have hr : (allF f (k + (oneL (l.drop k)).len) (l.drop (k + (oneL (l.drop k)).len))).err = 0 := by
            unfold Toks.put at he
            by_cases h : (allF f (k + (oneL (l.drop k)).len) (l.drop (k + (oneL (l.drop k)).len))).err = 0
            · exact h
            · rw [if_neg h] at he; exact absurd he h
          have ih := chain_of_all l f (k + (oneL (l.drop k)).len) (by omega) (by omega) hr
          unfold Toks.put
          rw [if_pos hr]
          refine ⟨k, (oneL (l.drop k)).len, Nat.le_refl _, hlt, rfl, fun j a b => by omega, ?_, rfl, hb, by omega, ih⟩
          rw [← h0]
        · rw [if_neg h0] at he
          exact absurd he h0
    · have hd : l.drop k = [] := List.drop_eq_nil_of_le (by omega)
      rw [hd, allF]
      exact ⟨hk, fun j h1 h2 => by omega⟩
theorem chain_all (l : List UInt8) (h : (allL l).err = 0) : ChainT l 0 (allL l).toks := by
  unfold allL at h ⊢
  split at h
  · simp at h
  · rename_i hl
    rw [if_neg hl]
    have := chain_of_all l l.length 0 (Nat.zero_le _) (by omega) (by rw [List.drop_zero]; exact h)
    rw [List.drop_zero] at this
    exact this
theorem all_err_nil (l : List UInt8) (h : (allL l).err ≠ 0) : (allL l).toks = [] := by
  unfold allL at h ⊢
  split at h
  · rename_i hl; rw [if_pos hl]
  · rename_i hl; rw [if_neg hl]; exact (allF_form _ _ _).2 h
end Go.Proofs.YtpkccmceobonnaaDoor
