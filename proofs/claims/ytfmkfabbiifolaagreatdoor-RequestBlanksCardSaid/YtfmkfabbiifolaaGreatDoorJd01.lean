/-
  Joined of: Rsa, Rbw.
-/
import Derived.Test.YtfmkfabbiifolaaGreatDoorJc02
import Derived.Test.YtfmkfabbiifolaaGreatDoorJa18
import Derived.Test.YtfmkfabbiifolaaGreatDoorJa32
import Derived.Deep.CutBlock
import Derived.Deep.DeepCutAuto
set_option linter.unusedVariables false
set_option linter.unusedSimpArgs false
/-
  Plain: tabs ahead of a request, and a blank behind it, change nothing but places.
-/
set_option linter.unusedVariables false
set_option linter.unusedSimpArgs false
namespace Go.Proofs.YtfmkfabbiifolaaGreatDoor
open Go.RowKit

def tabsB (m : Nat) : ByteArray := ⟨(List.replicate m (9 : UInt8)).toArray⟩
theorem tabs_size (m : Nat) : (tabsB m).size = m := by
  show (List.replicate m (9 : UInt8)).toArray.size = m
  simp
theorem tabs_step (m : Nat) : tabsB m ++ ⟨#[9]⟩ = tabsB (m + 1) := ba_ext (by
  rw [dl_append]
  show List.replicate m (9 : UInt8) ++ [9] = List.replicate (m + 1) 9
  rw [List.replicate_succ'])
theorem sz_list (s : ByteArray) : s.size = s.data.toList.length := rfl
theorem allF_pl : ∀ (f k : Nat) (l : List UInt8), (allF f k l).err ≠ 0 → (k : Int) ≤ (allF f k l).pl ∧ (allF f k l).pl ≤ (k + l.length : Nat)
  | 0, _, _ => by simp [allF]
  | _ + 1, _, [] => by simp [allF]
  | f + 1, k, c :: r => by
    rw [allF]
    split
    · intro h
      have := allF_pl f (k + 1) r h
      simp only [List.length_cons]
      omega
    · split
      · rename_i h0
        intro h
        have hb := ((oneL_bd (c :: r) (by simp)).1 h0).2
        have hz : (allF f (k + (oneL (c :: r)).len) ((c :: r).drop (oneL (c :: r)).len)).err ≠ 0 := by
          intro e
          unfold Toks.put at h
          rw [if_pos e] at h
          exact h rfl
        have hp := allF_pl f _ _ hz
        unfold Toks.put
        rw [if_neg hz]
        simp only [List.length_drop] at hp ⊢
        omega
      · intro _
        simp only [List.length_cons]
        omega
theorem tok_bd {s : ByteArray} (h : (allL s.data.toList).err = 0) {k : Nat} {t : Tok} (ht : (allL s.data.toList).toks[k]? = some t) : ∃ p q : Nat, t.fr = p ∧ t.to = q ∧ p < q ∧ q ≤ s.data.toList.length := by
  have hc := chain_all s.data.toList h
  exact chain_bd _ _ 0 hc t (List.mem_of_getElem? ht)
theorem place_bdQ {s : ByteArray} (h : (allL s.data.toList).err = 0) (k : Nat) : 0 ≤ placeAt s (allL s.data.toList).toks k ∧ placeAt s (allL s.data.toList).toks k ≤ s.size := by
  unfold placeAt
  cases ht : (allL s.data.toList).toks[k]? with
  | none => exact ⟨by show (0 : Int) ≤ s.size; omega, Int.le_refl _⟩
  | some t =>
    obtain ⟨p, q, h1, h2, h3, h4⟩ := tok_bd h ht
    rw [← sz_list] at h4
    show 0 ≤ t.fr ∧ t.fr ≤ _
    omega
theorem all_tabs (l : List UInt8) : ∀ m : Nat, m + l.length ≤ 4096 → allL (List.replicate m 9 ++ l) = shX m (allL l)
  | 0, h => by
    have hf := allF_form l.length 0 l
    rw [allL_short l (by omega)] at *
    show allL l = _
    rw [allL_short l (by omega)]
    generalize allF l.length 0 l = A at *
    obtain ⟨t, p, e⟩ := A
    unfold shX shT
    simp only at hf ⊢
    by_cases he : e = 0
    · have := hf.1 he
      subst he this
      simp
    · rw [if_neg he]
      simp
  | m + 1, h => by
    have ih := all_tabs l m (by omega)
    rw [allL_short _ (by simp; omega)] at ih
    rw [List.replicate_succ, List.cons_append, allL_short _ (by simp; omega)]
    show allF ((List.replicate m 9 ++ l).length + 1) 0 _ = _
    rw [allF, if_pos (show (oneL ((9 : UInt8) :: (List.replicate m 9 ++ l))).err = 4 by rw [oneL_blank _ _ rfl])]
    have hs := allF_shift 1 (List.replicate m 9 ++ l).length 0 (List.replicate m 9 ++ l)
    rw [hs, ih]
    generalize allL l = A
    obtain ⟨t, p, e⟩ := A
    unfold shX shT
    simp only [List.map_map]
    congr 1
    · apply List.map_congr_left
      intro x _
      simp
      omega
    · split
      · rfl
      · push_cast; omega
theorem all_blank (l : List UInt8) (h : l.length ≤ 2000) : allL (l ++ [32]) = allL l := by
  rw [allL_short _ (by simp; omega), allL_short l (by omega)]
  have e := allF_app [] l.length l 0 (l ++ [32]).length (Nat.le_refl _) (by simp)
  rw [e]
  have h1 : allF ([] : List UInt8).length (0 + l.length + 1) [] = ⟨[], 0, 0⟩ := rfl
  rw [h1]
  have hf := allF_form l.length 0 l
  by_cases hz : (allF l.length 0 l).err = 0
  · rw [if_pos hz, put_ok _ _ rfl]
    have h2 := hf.1 hz
    generalize allF l.length 0 l = A at *
    obtain ⟨t, p, e⟩ := A
    simp only at hz h2
    subst hz h2
    simp
  · rw [if_neg hz]
theorem like_tabs (s : ByteArray) (m : Nat) (hs : m + s.size ≤ 4096) (h0 : (allL s.data.toList).err = 0) :
    Like s (tabsB m ++ s) (allL s.data.toList).toks ((allL s.data.toList).toks.map (shT m)) (fun p => p + m) := by
  have hl : (tabsB m ++ s).data.toList = List.replicate m 9 ++ s.data.toList := dl_append _ _
  have hget : ∀ k, ((allL s.data.toList).toks.map (shT m))[k]? = ((allL s.data.toList).toks[k]?).map (shT m) := fun k => List.getElem?_map
  refine ⟨fun k => ?_, fun k => ?_, fun k => ?_, by simp⟩
  · unfold textAt
    rw [hget]
    cases ht : (allL s.data.toList).toks[k]? with
    | none => rfl
    | some t =>
      obtain ⟨p, q, h1, h2, h3, h4⟩ := tok_bd h0 ht
      refine ba_ext ?_
      show ((tabsB m ++ s).extract (t.fr + m).toNat (t.to + m).toNat).data.toList = (s.extract t.fr.toNat t.to.toNat).data.toList
      rw [h1, h2, extract_list, extract_list, hl]
      have e1 : ((p : Int) + (m : Int)).toNat = m + p := by omega
      have e2 : ((q : Int) + (m : Int)).toNat = m + q := by omega
      rw [e1, e2, Int.toNat_natCast, Int.toNat_natCast, List.drop_append]
      have e3 : List.drop (m + p) (List.replicate m (9 : UInt8)) = [] := List.drop_eq_nil_of_le (by simp)
      rw [e3, List.nil_append, List.length_replicate]
      have e4 : m + p - m = p := by omega
      have e5 : m + q - (m + p) = q - p := by omega
      rw [e4, e5]
  · unfold kindAt
    rw [hget]
    cases (allL s.data.toList).toks[k]? <;> rfl
  · unfold placeAt
    rw [hget]
    cases (allL s.data.toList).toks[k]? with
    | none =>
      show ((tabsB m ++ s).size : Int) = (s.size : Int) + m
      rw [ByteArray.size_append, tabs_size]
      omega
    | some t => rfl
theorem tail_tabs (s : ByteArray) (m : Nat) (fr : Int) (h : 0 ≤ fr) : tailS (tabsB m ++ s) (fr + m) = tailS s fr := by
  obtain ⟨p, rfl⟩ := Int.eq_ofNat_of_zero_le h
  unfold tailS
  have hl : (tabsB m ++ s).data.toList = List.replicate m 9 ++ s.data.toList := dl_append _ _
  refine ba_ext ?_
  rw [extract_list, extract_list, hl, ByteArray.size_append, tabs_size]
  have e1 : ((p : Int) + (m : Int)).toNat = m + p := by omega
  rw [e1, Int.toNat_natCast, List.drop_append]
  have e3 : List.drop (m + p) (List.replicate m (9 : UInt8)) = [] := List.drop_eq_nil_of_le (by simp)
  rw [e3, List.nil_append, List.length_replicate]
  have e4 : m + p - m = p := by omega
  have e5 : m + s.size - (m + p) = s.size - p := by omega
  rw [e4, e5]
theorem restC_tabs (s : ByteArray) (m : Nat) (fr : Int) (f : Cq → Req) (h : 0 ≤ fr) : restC (tabsB m ++ s) (fr + m) f = mapE (fun p => p + m) (restC s fr f) := by
  unfold restC
  rw [tail_tabs s m fr h]
  cases parseR (tailS s fr) with
  | ok c => rfl
  | error e => obtain ⟨n, p⟩ := e; show Except.error (n, fr + m + p) = Except.error (n, fr + p + m); rw [show fr + m + p = fr + p + m by omega]
theorem restL_tabs (s : ByteArray) (m : Nat) (fr : Int) (f : Lq → Req) (h : 0 ≤ fr) : restL (tabsB m ++ s) (fr + m) f = mapE (fun p => p + m) (restL s fr f) := by
  unfold restL
  rw [tail_tabs s m fr h]
  cases parseLitR (tailS s fr) with
  | ok c => rfl
  | error e => obtain ⟨n, p⟩ := e; show Except.error (n, fr + m + p) = Except.error (n, fr + p + m); rw [show fr + m + p = fr + p + m by omega]
theorem req_tabs (s : ByteArray) (m : Nat) (hs : m + s.size ≤ 4096) : reqR (tabsB m ++ s) = mapE (fun p => p + m) (reqR s) := by
  have hl : (tabsB m ++ s).data.toList = List.replicate m 9 ++ s.data.toList := dl_append _ _
  have ha := all_tabs s.data.toList m (by rw [← sz_list]; exact hs)
  unfold reqR
  rw [hl, ha]
  by_cases h0 : (allL s.data.toList).err = 0
  · have hk := like_tabs s m hs h0
    have hb := place_bdQ h0
    rw [if_pos (show (shX m (allL s.data.toList)).err = 0 from h0), if_pos h0]
    show reqT _ ((allL s.data.toList).toks.map (shT m)) = _
    generalize (allL s.data.toList).toks.map (shT m) = ts' at *
    generalize (allL s.data.toList).toks = ts at *
    unfold reqT assR revR askR audR
    simp only [hk.t, hk.k, hk.n, hk.p]
    split
    · split
      · rfl
      · split
        · split
          · rfl
          · exact restC_tabs s m _ _ (hb _).1
        · exact restC_tabs s m _ _ (hb _).1
    · split
      · split
        · rfl
        · split <;> rfl
      · split
        · exact restL_tabs s m _ _ (hb _).1
        · split
          · exact restL_tabs s m _ _ (hb _).1
          · split
            · split <;> rfl
            · rfl
  · rw [if_neg (show ¬ (shX m (allL s.data.toList)).err = 0 from h0), if_neg h0]
    show Except.error (_, (shX m (allL s.data.toList)).pl) = Except.error (_, _)
    unfold shX
    rw [if_neg h0]

/-! A blank behind. -/
def Beh {α : Type} (N : Int) : Except (Int × Int) α → Except (Int × Int) α → Prop
  | .ok x, .ok y => y = x
  | .error (n, p), .error (n', p') => n' = n ∧ (p' = p ∨ (p = N ∧ p' = N + 1))
  | _, _ => False
theorem Beh.refl {α : Type} (N : Int) (R : Except (Int × Int) α) : Beh N R R := by
  cases R with
  | ok x => exact rfl
  | error e => exact ⟨rfl, .inl rfl⟩
def behG (s : ByteArray) (p : Int) : Int := if p = s.size then s.size + 1 else p
theorem behG_is (s : ByteArray) (p : Int) : behG s p = p ∨ (p = s.size ∧ behG s p = s.size + 1) := by
  unfold behG
  by_cases hp : p = s.size
  · exact .inr ⟨hp, if_pos hp⟩
  · exact .inl (if_neg hp)
theorem Beh.map {α : Type} (s : ByteArray) (R : Except (Int × Int) α) : Beh s.size R (mapE (behG s) R) := by
  cases R with
  | ok x => exact rfl
  | error e => exact ⟨rfl, behG_is s e.2⟩
theorem like_blank (s : ByteArray) (h0 : (allL s.data.toList).err = 0) : Like s (s ++ ⟨#[32]⟩) (allL s.data.toList).toks (allL s.data.toList).toks (behG s) := by
  have hl : (s ++ ⟨#[32]⟩).data.toList = s.data.toList ++ [32] := dl_append _ _
  refine ⟨fun k => ?_, fun _ => rfl, fun k => ?_, rfl⟩
  · unfold textAt
    cases ht : (allL s.data.toList).toks[k]? with
    | none => rfl
    | some t =>
      obtain ⟨p, q, h1, h2, h3, h4⟩ := tok_bd h0 ht
      refine ba_ext ?_
      show ((s ++ ⟨#[32]⟩).extract t.fr.toNat t.to.toNat).data.toList = (s.extract t.fr.toNat t.to.toNat).data.toList
      rw [h1, h2, extract_list, extract_list, hl, Int.toNat_natCast, Int.toNat_natCast, List.drop_append_of_le_length (by omega), List.take_append_of_le_length (by rw [List.length_drop]; omega)]
  · unfold placeAt behG
    cases ht : (allL s.data.toList).toks[k]? with
    | none =>
      show ((s ++ ⟨#[32]⟩).size : Int) = if (s.size : Int) = s.size then _ else _
      rw [if_pos rfl, ByteArray.size_append]
      rfl
    | some t =>
      obtain ⟨p, q, h1, _, h3, h4⟩ := tok_bd h0 ht
      rw [← sz_list] at h4
      show t.fr = if t.fr = s.size then _ else _
      rw [if_neg (by rw [h1]; omega)]
theorem parse_blank (s : ByteArray) (hs : s.size ≤ 2000) : Beh s.size (parseR s) (parseR (s ++ ⟨#[32]⟩)) := by
  have hl : (s ++ ⟨#[32]⟩).data.toList = s.data.toList ++ [32] := dl_append _ _
  have ha := all_blank s.data.toList (by rw [← sz_list]; exact hs)
  rw [← hl] at ha
  by_cases h0 : (allL s.data.toList).err = 0
  · have e : parseR (s ++ ⟨#[32]⟩) = mapE (behG s) (parseR s) := parse_like (by rw [ha]) (fun _ => by rw [ha]; exact like_blank s h0) (fun h => absurd h0 h)
    rw [e]
    exact Beh.map s _
  · have e : parseR (s ++ ⟨#[32]⟩) = parseR s := by
      unfold parseR
      rw [ha, if_neg h0, if_neg h0]
    rw [e]
    exact Beh.refl _ _
theorem parseLit_blank (s : ByteArray) (hs : s.size ≤ 2000) : Beh s.size (parseLitR s) (parseLitR (s ++ ⟨#[32]⟩)) := by
  have hl : (s ++ ⟨#[32]⟩).data.toList = s.data.toList ++ [32] := dl_append _ _
  have ha := all_blank s.data.toList (by rw [← sz_list]; exact hs)
  rw [← hl] at ha
  by_cases h0 : (allL s.data.toList).err = 0
  · have e : parseLitR (s ++ ⟨#[32]⟩) = mapE (behG s) (parseLitR s) := by
      unfold parseLitR
      rw [ha, if_pos h0, if_pos h0, saidR_like (like_blank s h0), wholeR_like (like_blank s h0)]
    rw [e]
    exact Beh.map s _
  · have e : parseLitR (s ++ ⟨#[32]⟩) = parseLitR s := by
      unfold parseLitR
      rw [ha, if_neg h0, if_neg h0]
    rw [e]
    exact Beh.refl _ _
theorem tail_end (s : ByteArray) : tailS s s.size = ⟨#[]⟩ := ba_ext (by
  unfold tailS
  rw [extract_list, Int.toNat_natCast, Nat.sub_self]
  rfl)
theorem tail_blank (s : ByteArray) (fr : Int) (h : 0 ≤ fr) (h1 : fr ≤ s.size) : tailS (s ++ ⟨#[32]⟩) fr = tailS s fr ++ ⟨#[32]⟩ := by
  obtain ⟨p, rfl⟩ := Int.eq_ofNat_of_zero_le h
  have hl : (s ++ ⟨#[32]⟩).data.toList = s.data.toList ++ [32] := dl_append _ _
  have hz : s.size = s.data.toList.length := rfl
  refine ba_ext ?_
  rw [dl_append]
  unfold tailS
  rw [extract_list, extract_list, hl, ByteArray.size_append, Int.toNat_natCast, List.drop_append_of_le_length (by omega)]
  show List.take (s.size + 1 - p) _ = _ ++ [32]
  rw [List.take_of_length_le (by rw [List.length_append, List.length_drop]; simp; omega), List.take_of_length_le (by rw [List.length_drop]; omega)]
theorem tail_sizeQ (s : ByteArray) (fr : Int) (h : 0 ≤ fr) (h1 : fr ≤ s.size) : fr + (tailS s fr).size = s.size := by
  obtain ⟨p, rfl⟩ := Int.eq_ofNat_of_zero_le h
  unfold tailS
  rw [ByteArray.size_extract]
  omega
theorem parse_empty : parseR ⟨#[]⟩ = .error (6, 0) := by kernel_rfl
theorem parseLit_empty : parseLitR ⟨#[]⟩ = .error (6, 0) := by kernel_rfl
theorem restC_blank (s : ByteArray) (fr : Int) (f : Cq → Req) (h : 0 ≤ fr) (h1 : fr ≤ s.size) (hs : s.size ≤ 2000) : Beh s.size (restC s fr f) (restC (s ++ ⟨#[32]⟩) (behG s fr) f) := by
  have hsz := tail_sizeQ s fr h h1
  unfold restC
  by_cases hf : fr = s.size
  · subst hf
    have e : behG s s.size = ((s ++ ⟨#[32]⟩).size : Nat) := by unfold behG; rw [if_pos rfl, ByteArray.size_append]; rfl
    rw [e, tail_end, tail_end, parse_empty]
    refine ⟨rfl, .inr ⟨by omega, ?_⟩⟩
    rw [ByteArray.size_append]
    show ((s.size + 1 : Nat) : Int) + 0 = _
    omega
  · rw [show behG s fr = fr from if_neg hf, tail_blank s fr h h1]
    have hb := parse_blank (tailS s fr) (by omega)
    generalize parseR (tailS s fr) = R at *
    generalize parseR (tailS s fr ++ ⟨#[32]⟩) = R' at *
    cases R with
    | ok x => cases R' with
      | ok y => obtain rfl : y = x := hb; exact rfl
      | error e => exact hb.elim
    | error e => cases R' with
      | ok y => exact hb.elim
      | error e' =>
        obtain ⟨n, p⟩ := e
        obtain ⟨n', p'⟩ := e'
        obtain ⟨rfl, hp⟩ : n' = n ∧ (p' = p ∨ (p = (tailS s fr).size ∧ p' = (tailS s fr).size + 1)) := hb
        exact ⟨rfl, by omega⟩
theorem restL_blank (s : ByteArray) (fr : Int) (f : Lq → Req) (h : 0 ≤ fr) (h1 : fr ≤ s.size) (hs : s.size ≤ 2000) : Beh s.size (restL s fr f) (restL (s ++ ⟨#[32]⟩) (behG s fr) f) := by
  have hsz := tail_sizeQ s fr h h1
  unfold restL
  by_cases hf : fr = s.size
  · subst hf
    have e : behG s s.size = ((s ++ ⟨#[32]⟩).size : Nat) := by unfold behG; rw [if_pos rfl, ByteArray.size_append]; rfl
    rw [e, tail_end, tail_end, parseLit_empty]
    refine ⟨rfl, .inr ⟨by omega, ?_⟩⟩
    rw [ByteArray.size_append]
    show ((s.size + 1 : Nat) : Int) + 0 = _
    omega
  · rw [show behG s fr = fr from if_neg hf, tail_blank s fr h h1]
    have hb := parseLit_blank (tailS s fr) (by omega)
    generalize parseLitR (tailS s fr) = R at *
    generalize parseLitR (tailS s fr ++ ⟨#[32]⟩) = R' at *
    cases R with
    | ok x => cases R' with
      | ok y => obtain rfl : y = x := hb; exact rfl
      | error e => exact hb.elim
    | error e => cases R' with
      | ok y => exact hb.elim
      | error e' =>
        obtain ⟨n, p⟩ := e
        obtain ⟨n', p'⟩ := e'
        obtain ⟨rfl, hp⟩ : n' = n ∧ (p' = p ∨ (p = (tailS s fr).size ∧ p' = (tailS s fr).size + 1)) := hb
        exact ⟨rfl, by omega⟩
theorem req_blank (s : ByteArray) (hs : s.size ≤ 2000) : Beh s.size (reqR s) (reqR (s ++ ⟨#[32]⟩)) := by
  have hl : (s ++ ⟨#[32]⟩).data.toList = s.data.toList ++ [32] := dl_append _ _
  have ha := all_blank s.data.toList (by rw [← sz_list]; exact hs)
  unfold reqR
  rw [hl, ha]
  by_cases h0 : (allL s.data.toList).err = 0
  · have hk := like_blank s h0
    have hb := place_bdQ h0
    rw [if_pos h0, if_pos h0]
    generalize (allL s.data.toList).toks = ts at *
    unfold reqT assR revR askR audR
    simp only [hk.t, hk.k, hk.p]
    have hE : ∀ p : Int, Beh s.size (.error (6, p) : Except (Int × Int) Req) (.error (6, behG s p)) := fun p => ⟨rfl, behG_is s p⟩
    split
    · split
      · exact hE _
      · split
        · split
          · exact hE _
          · exact restC_blank s _ _ (hb _).1 (hb _).2 hs
        · exact restC_blank s _ _ (hb _).1 (hb _).2 hs
    · split
      · split
        · exact hE _
        · split
          · exact hE _
          · exact rfl
      · split
        · exact restL_blank s _ _ (hb _).1 (hb _).2 hs
        · split
          · exact restL_blank s _ _ (hb _).1 (hb _).2 hs
          · split
            · split
              · exact hE _
              · exact rfl
            · exact hE _
  · rw [if_neg h0, if_neg h0]
    exact Beh.refl _ _
end Go.Proofs.YtfmkfabbiifolaaGreatDoor

/-
  The walk of mandatelaw22.RequestBlanks: it answers true.
-/
set_option linter.unusedVariables false
set_option linter.unusedSimpArgs false
namespace Go.Proofs.YtfmkfabbiifolaaGreatDoor
open Go.RowKit

theorem restC_pl {s : ByteArray} {fr : Int} (f : Cq → Req) (h : 0 ≤ fr) (h1 : fr ≤ s.size) : PB s (restC s fr f) := fun e he => by
  unfold restC at he
  have hz := tail_sizeQ s fr h h1
  cases hp : parseR (tailS s fr) with
  | ok c => rw [hp] at he; cases he
  | error x =>
    obtain ⟨n, p⟩ := x
    rw [hp] at he
    injection he with he
    subst he
    have := parseR_place hp
    show 0 ≤ fr + p ∧ fr + p ≤ _
    omega
theorem restL_pl {s : ByteArray} {fr : Int} (f : Lq → Req) (h : 0 ≤ fr) (h1 : fr ≤ s.size) : PB s (restL s fr f) := fun e he => by
  unfold restL at he
  have hz := tail_sizeQ s fr h h1
  cases hp : parseLitR (tailS s fr) with
  | ok c => rw [hp] at he; cases he
  | error x =>
    obtain ⟨n, p⟩ := x
    rw [hp] at he
    injection he with he
    subst he
    have := parseLitR_place hp
    show 0 ≤ fr + p ∧ fr + p ≤ _
    omega
theorem pb_reqR (s : ByteArray) : PB s (reqR s) := by
  unfold reqR
  by_cases h0 : (allL s.data.toList).err = 0
  · have hb := place_bdQ h0
    rw [if_pos h0]
    generalize (allL s.data.toList).toks = ts at *
    have hE : ∀ k, PB s (.error (6, placeAt s ts k) : Except (Int × Int) Req) := fun k e he => by injection he with he; subst he; exact hb k
    unfold reqT assR revR askR audR
    split
    · split
      · exact hE _
      · split
        · split
          · exact hE _
          · exact restC_pl _ (hb _).1 (hb _).2
        · exact restC_pl _ (hb _).1 (hb _).2
    · split
      · split
        · exact hE _
        · split
          · exact hE _
          · exact PB.ok _
      · split
        · exact restL_pl _ (hb _).1 (hb _).2
        · split
          · exact restL_pl _ (hb _).1 (hb _).2
          · split
            · split
              · exact hE _
              · exact PB.ok _
            · exact hE _
  · rw [if_neg h0]
    intro e he
    injection he with he
    subst he
    exact allL_pl s
theorem plQ_bd (s : ByteArray) : 0 ≤ plQ (reqR s) ∧ plQ (reqR s) ≤ s.size := by
  cases h : reqR s with
  | ok x => exact ⟨Int.le_refl _, by show (0 : Int) ≤ s.size; omega⟩
  | error e => exact pb_reqR s e h
theorem mapE_reqQ (g : Int → Int) (R : Except (Int × Int) Req) : reqQ (mapE g R) = reqQ R := by cases R <;> rfl
theorem mapE_erQ (g : Int → Int) (R : Except (Int × Int) Req) : erQ (mapE g R) = erQ R := by cases R <;> rfl
theorem mapE_plQ (g : Int → Int) (R : Except (Int × Int) Req) (h : erQ R ≠ 0) : plQ (mapE g R) = g (plQ R) := by
  cases R with
  | ok x => exact absurd rfl h
  | error x => rfl
theorem beh_q {N : Int} {R R' : Except (Int × Int) Req} (h : Beh N R R') : reqQ R' = reqQ R ∧ erQ R' = erQ R ∧ (erQ R ≠ 0 → plQ R' = plQ R ∨ (plQ R = N ∧ plQ R' = N + 1)) := by
  cases R with
  | ok x => cases R' with
    | ok y => obtain rfl : y = x := h; exact ⟨rfl, rfl, fun h0 => absurd rfl h0⟩
    | error e => exact h.elim
  | error e => cases R' with
    | ok y => exact h.elim
    | error e' => obtain ⟨h1, h2⟩ := h; exact ⟨rfl, h1, fun _ => h2⟩

set_option maxHeartbeats 16000000 in
set_option maxRecDepth 100000 in
theorem reqblanks_walk (s : ByteArray) (n : Int) (w : World) (he : Env w) (hm : s.size ≤ 140737488351232) (hn : 0 ≤ n ∧ n ≤ 255) :
    Calls Tryz.prog 6 #[.string s, .int .u8 n] w fun e w' => e = .returned (.bool true) ∧ Below w.heap.size w w' := by
  have HE := Lib.hid he
  have HF := Lib.hid (rqfixed_any w he)
  obtain ⟨n, rfl⟩ := Int.eq_ofNat_of_zero_le hn.1
  have hn2 : n ≤ 255 := by omega
  clear hn
  by_cases hlg : (2000 : Int) < (s.size : Int)
  · clear he hm
    go_enter Tryz.func6, Tryz.ntmps6
    go_wp2_with (go_at_call 9; refine (HF.out).mono ?_; rintro e w1 ⟨rfl, hb1⟩)
    go_ret
    exact ⟨rfl, hb1⟩
  have hs : s.size ≤ 2000 := by omega
  obtain ⟨hs1, hs2⟩ := reqQ_sm s
  have hpl := plQ_bd s
  have HP0 := Lib.hid (show ∀ wx, Env wx → Calls Tryz.prog 7 #[.string s] wx fun e w' => ∃ cl lp, (cl.q = (reqQ (reqR s)).c ∧ lp.q = (reqQ (reqR s)).l) ∧ e = .returned (.tuple #[.agg (rqC (reqQ (reqR s)).kd (reqQ (reqR s)).lb (reqQ (reqR s)).lf cl (reqQ (reqR s)).no lp), .int .i64 (plQ (reqR s)), .int .i64 (erQ (reqR s))]) ∧ RqM w' cl lp ∧ Below wx.heap.size wx w' from fun wx hx => (reqparse_any s wx hm hx).mono fun e w' h => rq_sum h)
  have HP1 := Lib.hid (show ∀ m : Nat, m ≤ 19 → ∀ wx, Env wx → Calls Tryz.prog 7 #[.string (tabsB m ++ s)] wx fun e w' => ∃ cl lp, ∃ p1 : Int, (cl.q = (reqQ (reqR s)).c ∧ lp.q = (reqQ (reqR s)).l) ∧ e = .returned (.tuple #[.agg (rqC (reqQ (reqR s)).kd (reqQ (reqR s)).lb (reqQ (reqR s)).lf cl (reqQ (reqR s)).no lp), .int .i64 p1, .int .i64 (erQ (reqR s))]) ∧ Hid (erQ (reqR s) ≠ 0 → p1 = plQ (reqR s) + m) ∧ RqM w' cl lp ∧ Below wx.heap.size wx w' from fun m hm' wx hx => (reqparse_any (tabsB m ++ s) wx (by rw [ByteArray.size_append, tabs_size]; omega) hx).mono fun e w' h => by
    obtain ⟨cl, lp, h1, h2, h3, h4⟩ := rq_sum h
    rw [req_tabs s m (by omega), mapE_reqQ] at h1
    rw [req_tabs s m (by omega), mapE_reqQ, mapE_erQ] at h2
    exact ⟨cl, lp, _, h1, h2, Lib.hid (fun h0 => mapE_plQ _ _ h0), h3, h4⟩)
  have HPX : ∀ x : ByteArray, x.size = 1 → Beh s.size (reqR s) (reqR (s ++ x)) → ∀ wx, Env wx → Calls Tryz.prog 7 #[.string (s ++ x)] wx fun e w' => ∃ cl lp, ∃ p2 : Int, (cl.q = (reqQ (reqR s)).c ∧ lp.q = (reqQ (reqR s)).l) ∧ e = .returned (.tuple #[.agg (rqC (reqQ (reqR s)).kd (reqQ (reqR s)).lb (reqQ (reqR s)).lf cl (reqQ (reqR s)).no lp), .int .i64 p2, .int .i64 (erQ (reqR s))]) ∧ Hid (erQ (reqR s) ≠ 0 → p2 = plQ (reqR s) ∨ (plQ (reqR s) = s.size ∧ p2 = s.size + 1)) ∧ RqM w' cl lp ∧ Below wx.heap.size wx w' := by
    intro x hx2 hbx wx hx
    have hz : (s ++ x).size ≤ 140737488351232 := by rw [ByteArray.size_append, hx2]; omega
    refine (reqparse_any (s ++ x) wx hz hx).mono fun e w' h => ?_
    obtain ⟨cl, lp, h1, h2, h3, h4⟩ := rq_sum h
    obtain ⟨k1, k2, k3⟩ := beh_q hbx
    rw [k1] at h1
    rw [k1, k2] at h2
    exact ⟨cl, lp, _, h1, h2, Lib.hid k3, h3, h4⟩
  have HP2 := Lib.hid (HPX ⟨#[32]⟩ rfl (req_blank s hs))
  clear HPX
  generalize reqQ (reqR s) = V at *
  generalize plQ (reqR s) = pl at *
  generalize erQ (reqR s) = er at *
  have HS := Lib.hid (show ∀ wx a b x y, RqM wx a x → RqM wx b y → a.q = V.c → b.q = V.c → x.q = V.l → y.q = V.l → _ from fun wx a b x y h1 h2 h3 h4 h5 h6 => samereq_yes V hs1 hs2 a b x y wx h1 h2 h3 h4 h5 h6)
  obtain ⟨d, hu, hd⟩ := rowReq
  have hz := sizeReq
  have hst := fun (w : World) (kd : Int) (lb : ByteArray) (lf : Int) (cl : Kp) (no : Int) (lp : Lp) => run_storeReq w kd lb lf cl no lp
  clear he hm hs1 hs2
  have hrem : (n : Int).tmod 20 = ((n % 20 : Nat) : Int) := rfl
  have hm19 : n % 20 ≤ 19 := by omega
  have hsp : (⟨#[9]⟩ : ByteArray).size = 1 := rfl
  have hsq : (⟨#[32]⟩ : ByteArray).size = 1 := rfl
  go_enter Tryz.func6, Tryz.ntmps6
  go_wp2_with (go_at_call 9; refine (HF.out).mono ?_; rintro e w1 ⟨rfl, hb1⟩; have HB1 := Lib.hid hb1; have HE1 := Lib.hid (HE.out.on hb1); clear hb1)
  have hw0 : IntKind.i64.wrap (n : Int) = (n : Int) := IntWalk.i64_in _ (by omega)
  go_loopw [5, 6] (fun o i wr => ∃ j : Nat, j ≤ n % 20 ∧ o = .string (tabsB j) ∧ i = .int .i64 j ∧ wr = w1) (fun _ i _ => n % 20 - (intOf i).toNat)
  case atStart => exact ⟨0, Nat.zero_le _, rfl, rfl, rfl⟩
  case round =>
    obtain ⟨j, hj, rfl, rfl, rfl⟩ := hrel
    have hsz := tabs_size j
    by_cases hlt : j < n % 20
    · have h1 : (j : Int) < (n : Int) % 20 := by omega
      have h2 : (j : Int) < (n : Int).tmod 20 := by rw [hrem]; omega
      go_wp2_with fail
      go_roundw
      case rel => exact ⟨j + 1, by omega, congrArg Value.string (tabs_step j), by go_num, by first | rfl | trivial⟩
      case measure => simp [intOf]; omega
    · have h1 : ¬ (j : Int) < (n : Int) % 20 := by omega
      have h2 : ¬ (j : Int) < (n : Int).tmod 20 := by rw [hrem]; omega
      have HP1' := Lib.hid (HP1.out j (by omega))
      have hj19 : j ≤ 19 := by omega
      clear HP1
      go_upto_if 70 with (first
        | (go_at_call 10; refine (HS.out _ cl1 cl3 lp1 lp3 HT6.out HV6.out HQ1.out.1 HQ3.out.1 HQ1.out.2 HQ3.out.2).mono ?_; rintro e w7 ⟨rfl, hb7⟩; have HB7 := Lib.hid (HB6.out.trans (hb7.mono HB6.out.size)); clear hb7)
        | (go_at_call 10; refine (HS.out _ cl1 cl2 lp1 lp2 HT5.out HU5.out HQ1.out.1 HQ2.out.1 HQ1.out.2 HQ2.out.2).mono ?_; rintro e w6 ⟨rfl, hb6⟩; have HB6 := Lib.hid (HB5.out.trans (hb6.mono HB5.out.size)); have HX6 := Lib.hid (HX5.out.on hb6); have HZ6 := Lib.hid ((Bk.new w4 _ _).on hb6); have HT6 := Lib.hid (HT5.out.on hb6); have HV6 := Lib.hid (HV5.out.on hb6); clear hb6)
        | (go_at_call 7; refine (HP2.out _ (HE3.out.on (below1 w3 _))).mono ?_; rintro e w4 ⟨cl3, lp3, pl2, hq3, rfl, HPL2, ht4, hb4⟩; have HQ3 := Lib.hid hq3; have HX4 := Lib.hid ((HX3.out.on (below1 w3 _)).on hb4); have HY4 := Lib.hid ((Bk.new w3 _ _).on hb4); have HT4 := Lib.hid ((HT3.out.on (below1 w3 _)).on hb4); have HU4 := Lib.hid ((HU3.out.on (below1 w3 _)).on hb4); have HB4 := Lib.hid ((HB3.out.trans ((below1 w3 _).mono HB3.out.size)).trans (hb4.mono (Nat.le_trans HB3.out.size (below1 w3 _).size))); have HX5 := Lib.hid (HX4.out.on (below1 w4 (.cells (rqC V.kd V.lb V.lf cl3 V.no lp3) 33))); have HY5 := Lib.hid (HY4.out.on (below1 w4 (.cells (rqC V.kd V.lb V.lf cl3 V.no lp3) 33))); have HT5 := Lib.hid (HT4.out.on (below1 w4 (.cells (rqC V.kd V.lb V.lf cl3 V.no lp3) 33))); have HU5 := Lib.hid (HU4.out.on (below1 w4 (.cells (rqC V.kd V.lb V.lf cl3 V.no lp3) 33))); have HV5 := Lib.hid (ht4.on (below1 w4 (.cells (rqC V.kd V.lb V.lf cl3 V.no lp3) 33))); have HB5 := Lib.hid (HB4.out.trans ((below1 w4 (.cells (rqC V.kd V.lb V.lf cl3 V.no lp3) 33)).mono HB4.out.size)); clear hq3 ht4 hb4)
        | (go_at_call 7; refine (HP1'.out _ (HE2.out.on (below1 w2 _))).mono ?_; rintro e w3 ⟨cl2, lp2, pl1, hq2, rfl, HPL1, ht3, hb3⟩; have HQ2 := Lib.hid hq2; have HX3 := Lib.hid ((Bk.new w2 _ _).on hb3); have HT3 := Lib.hid ((HT2.out.on (below1 w2 _)).on hb3); have HU3 := Lib.hid ht3; have HB3 := Lib.hid ((HB2.out.trans ((below1 w2 _).mono HB2.out.size)).trans (hb3.mono (Nat.le_trans HB2.out.size (below1 w2 _).size))); have HE3 := Lib.hid (HE.out.on HB3.out); clear hq2 ht3 hb3)
        | (go_at_call 7; refine (HP0.out _ HE1.out).mono ?_; rintro e w2 ⟨cl1, lp1, hq1, rfl, ht2, hb2⟩; have HQ1 := Lib.hid hq1; have HT2 := Lib.hid ht2; have HB2 := Lib.hid (HB1.out.trans (hb2.mono HB1.out.size)); have HE2 := Lib.hid (HE.out.on HB2.out); clear hq1 ht2 hb2)
        | (refine wpL_load (by rfl) 33 (.tmp 13) rfl _ 0 rfl (rqC V.kd V.lb V.lf cl3 V.no lp3).toList d HZ6.out.range hu hd (by rw [hz]; rfl) ?_; simp only [Array.toArray_toList])
        | (refine wpL_load (by rfl) 33 (.tmp 7) rfl _ 0 rfl (rqC V.kd V.lb V.lf cl1 V.no lp1).toList d HX6.out.range hu hd (by rw [hz]; rfl) ?_; simp only [Array.toArray_toList])
        | (refine wpL_load (by rfl) 33 (.tmp 7) rfl _ 0 rfl (rqC V.kd V.lb V.lf cl1 V.no lp1).toList d HX5.out.range hu hd (by rw [hz]; rfl) ?_; simp only [Array.toArray_toList])
        | (refine wpL_load (by rfl) 33 (.tmp 10) rfl _ 0 rfl (rqC V.kd V.lb V.lf cl2 V.no lp2).toList d HY5.out.range hu hd (by rw [hz]; rfl) ?_; simp only [Array.toArray_toList]))
      by_cases her : er = 0
      · have heb : (er == 0) = true := by simp [her]
        clear her
        go_wp2_with fail
        go_ret
        exact ⟨rfl, HB7.out⟩
      · have heb : (er == 0) = false := beq_eq_false_iff_ne.2 her
        have e1 := (Hid.out HPL1) her
        subst e1
        have hw1 : IntKind.i64.wrap (pl + (j : Int)) = pl + (j : Int) := IntWalk.i64_in _ (by omega)
        have hw2 : wrap64 (pl + (j : Int)) = pl + (j : Int) := by unfold wrap64; omega
        rcases (Hid.out HPL2) her with e2 | ⟨e2, e3⟩
        · subst e2
          clear her HPL1 HPL2
          go_wp2_with fail
          go_ret
          exact ⟨by first | rfl | simp, HB7.out⟩
        · subst e3
          have hb1 : (((s.size : Int) + 1) == pl) = false := beq_eq_false_iff_ne.2 (by omega)
          have hb2 : (pl == (s.size : Int)) = true := beq_iff_eq.2 e2
          have hw3 : IntKind.i64.wrap ((s.size : Int) + 1) = (s.size : Int) + 1 := IntWalk.i64_in _ (by omega)
          clear her HPL1 HPL2
          go_wp2_with fail
          go_ret
          exact ⟨by first | rfl | simp, HB7.out⟩
end Go.Proofs.YtfmkfabbiifolaaGreatDoor
