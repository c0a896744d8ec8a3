/-
  Plain: what is matched is filled to the same, and the other way round.
-/
import Derived.Test.YtmfaallipfhajaaBmw
namespace Go.Proofs.Ytmfaallipfhajaa
open Go.RowKit

theorem lookL_app : ∀ (b e : List Tm) (s : ByteArray) (u : Vl), lookL b s = some u → lookL (b ++ e) s = some u
  | [], _, _, _, h => by cases h
  | x :: r, e, s, u, h => by
    rw [List.cons_append, lookL]
    rw [lookL] at h
    split at h
    · rename_i hx; rw [if_pos hx]; exact h
    · rename_i hx; rw [if_neg hx]; exact lookL_app r e s u h
theorem look_app {b : List Tm} {x : Tm} {u : Vl} (e : List Tm) (h : look b x = some u) : look (b ++ e) x = some u := by
  unfold look at h ⊢
  split at h
  · rename_i hx; rw [if_pos hx]; exact h
  · rename_i hx; rw [if_neg hx]; exact lookL_app b e _ u h
theorem lookL_new : ∀ (b : List Tm) (s : ByteArray) (v : Vl), lookL b s = none → lookL (b ++ [⟨s, v.1, v.2⟩]) s = some v
  | [], s, v, _ => by simp [lookL, Tm.val]
  | x :: r, s, v, h => by
    rw [List.cons_append, lookL]
    rw [lookL] at h
    split at h
    · cases h
    · rename_i hx; rw [if_neg hx]; exact lookL_new r s v h
theorem look_new' {b : List Tm} {x : Tm} {v : Vl} (h : look b x = none) : look (b ++ [bindT x v]) x = some v := by
  unfold look at h ⊢
  split at h
  · cases h
  · rename_i hx; rw [if_neg hx]; exact lookL_new b x.v v h
theorem matchS_ext : ∀ (xs : List Tm) (vs : List Vl) (b L : List Tm), matchS xs vs b = some L → ∃ e, L = b ++ e
  | [], _, b, L, h => by simp [matchS] at h; exact ⟨[], by simp [h]⟩
  | _ :: _, [], b, L, h => by simp [matchS] at h; exact ⟨[], by simp [h]⟩
  | x :: xs, v :: vs, b, L, h => by
    rw [matchS] at h
    cases hx : look b x with
    | some u =>
      rw [hx] at h
      simp only at h
      split at h
      · exact matchS_ext xs vs b L h
      · cases h
    | none =>
      rw [hx] at h
      obtain ⟨e, he⟩ := matchS_ext xs vs _ L h
      exact ⟨[bindT x v] ++ e, by rw [he, List.append_assoc]⟩
theorem match_fill : ∀ (xs : List Tm) (vs : List Vl) (b L : List Tm), xs.length = vs.length → matchS xs vs b = some L → fillS xs L = some vs
  | [], [], _, _, _, _ => rfl
  | [], _ :: _, _, _, hl, _ => by simp at hl
  | _ :: _, [], _, _, hl, _ => by simp at hl
  | x :: xs, v :: vs, b, L, hl, h => by
    rw [matchS] at h
    cases hx : look b x with
    | some u =>
      rw [hx] at h
      simp only at h
      split at h
      · rename_i he
        have huv := eqV_eq.1 he
        subst huv
        obtain ⟨e, hL⟩ := matchS_ext xs vs b L h
        have h1 : look L x = some u := by rw [hL]; exact look_app e hx
        rw [fillS, h1]
        simp only
        rw [match_fill xs vs b L (by simpa using hl) h]
        rfl
      · cases h
    | none =>
      rw [hx] at h
      obtain ⟨e, hL⟩ := matchS_ext xs vs _ L h
      have h1 : look L x = some v := by rw [hL]; exact look_app e (look_new' hx)
      rw [fillS, h1]
      simp only
      rw [match_fill xs vs _ L (by simpa using hl) h]
      rfl
theorem fill_match : ∀ (xs : List Tm) (vs : List Vl) (b : List Tm), fillS xs b = some vs → matchS xs vs b = some b
  | [], vs, b, h => by simp [fillS] at h; subst h; rfl
  | x :: xs, vs, b, h => by
    rw [fillS] at h
    cases hx : look b x with
    | none => rw [hx] at h; cases h
    | some u =>
      rw [hx] at h
      simp only [Option.map_eq_some_iff] at h
      obtain ⟨M, hM, rfl⟩ := h
      rw [matchS, hx]
      simp only
      rw [if_pos (eqV_refl u)]
      exact fill_match xs M b hM
theorem matchF_some {k : Int} {p : ByteArray} {args : List Tm} {tp : ByteArray} {vs : List Vl} {b L : List Tm} (h : matchF k p args tp vs b = some L) : atomB k = true ∧ p = tp ∧ args.length = vs.length ∧ matchS args vs b = some L := by
  unfold matchF at h
  split at h
  · rename_i hc
    simp only [Bool.and_eq_true, decide_eq_true_eq] at hc
    refine ⟨hc.1.1, ?_, hc.2, h⟩
    have := hc.1.2
    obtain ⟨⟨x⟩⟩ := p
    obtain ⟨⟨y⟩⟩ := tp
    simpa [ByteArray.toList_eq] using this
  · cases h
theorem matchF_back {k : Int} {p : ByteArray} {args : List Tm} {tp : ByteArray} {vs : List Vl} {b L : List Tm} (h : matchF k p args tp vs b = some L) : p = tp ∧ fillF k args L = some vs ∧ matchF k p args tp vs L = some L ∧ (∃ e, L = b ++ e) := by
  obtain ⟨h1, rfl, h3, h4⟩ := matchF_some h
  have h5 := match_fill _ _ _ _ h3 h4
  refine ⟨rfl, by unfold fillF; rw [if_pos h1]; exact h5, ?_, matchS_ext _ _ _ _ h4⟩
  unfold matchF
  rw [if_pos (by simp [h1, h3])]
  exact fill_match _ _ _ h5
theorem fillF_no {k : Int} {p : ByteArray} {args : List Tm} {tp : ByteArray} {vs : List Vl} {b : List Tm} (h : matchF k p args tp vs b = none) {L : List Vl} (hf : fillF k args b = some L) : ¬ (tp = p ∧ vs = L) := by
  rintro ⟨rfl, rfl⟩
  unfold fillF at hf
  split at hf
  · rename_i ha
    have h1 := fill_match _ _ _ hf
    have h2 := fillS_len _ _ _ hf
    unfold matchF at h
    rw [if_pos (by simp [ha, h2])] at h
    rw [h1] at h; cases h
  · cases hf
theorem rd_prefix {α : Type} {enc : α → List Value} {k : Nat} {w : World} {B : Nat} {q : Option Addr} {b e : List α} (h : Rd enc k w B q (b ++ e)) : Rd enc k w B q b := by
  rcases h with h | ⟨bl, off, rfl, hl, hc⟩
  · exact .inl (List.append_eq_nil_iff.1 h).1
  · refine .inr ⟨bl, off, rfl, hl, fun i hi r u hu => hc i (by simp; omega) r u ?_⟩
    rw [List.getElem_append_left hi]; exact hu
end Go.Proofs.Ytmfaallipfhajaa
