/-
  Joined of: ShfA, ShfB, BlkW, OpnU.
-/
import Derived.Test.YtnjdganikeganaaGreatDoorJa16
import Derived.Test.YtnjdganikeganaaGreatDoorJa37
import Derived.Test.YtnjdganikeganaaGreatDoorJa34
import Derived.Deep.CutBlock
import Derived.Deep.DeepCutAuto
import Derived.Test.YtnjdganikeganaaGreatDoorJa35
set_option linter.unusedVariables false
set_option linter.unusedSimpArgs false
/-
  Plain: blanks ahead of a text and behind it: the tokens are the same, their places move.
-/
namespace Go.Proofs.YtnjdganikeganaaGreatDoor
open Go.RowKit

theorem runL_tab (y : List UInt8) : ∀ r : List UInt8, runL (r ++ 9 :: y) = runL r
  | [] => by rw [List.nil_append, runL]; rfl
  | c :: r => by rw [List.cons_append, runL, runL, runL_tab y r]
theorem head_tab (r y : List UInt8) : (r = [] ∧ (r ++ 9 :: y).headD 0 = 9 ∧ r.headD 0 = 0) ∨ ((r ++ 9 :: y).headD 0 = r.headD 0) := by
  cases r with
  | nil => exact .inl ⟨rfl, rfl, rfl⟩
  | cons c r => exact .inr rfl
theorem one_tab (x y : List UInt8) (hx : x ≠ []) : oneL (x ++ 9 :: y) = oneL x := by
  cases x with
  | nil => exact absurd rfl hx
  | cons c r =>
    have hp : pieceL (c :: (r ++ 9 :: y)) (1 + runL r) = pieceL (c :: r) (1 + runL r) := by
      unfold pieceL
      have : (c :: (r ++ 9 :: y)).take (1 + runL r) = (c :: r).take (1 + runL r) := by
        rw [← List.cons_append, List.take_append_of_le_length (by have := runL_le r; simp; omega)]
      rw [this]
    rw [List.cons_append, oneL, oneL, runL_tab, hp]
    rcases head_tab r y with ⟨_, h1, h2⟩ | h
    · rw [h1, h2]; rfl
    · rw [h]
theorem allF_tab (y : List UInt8) : ∀ (m : Nat) (x : List UInt8) (k F : Nat), x.length ≤ m → x.length + 1 + y.length ≤ F →
    allF F k (x ++ 9 :: y) = if (allF x.length k x).err = 0 then Toks.put (allF x.length k x).toks (allF y.length (k + x.length + 1) y) else allF x.length k x := by
  intro m
  induction m with
  | zero =>
    intro x k F hx hF
    obtain rfl : x = [] := List.length_eq_zero_iff.1 (by omega)
    obtain ⟨F, rfl⟩ : ∃ F', F = F' + 1 := ⟨F - 1, by simp at hF; omega⟩
    rw [List.nil_append, allF, if_pos (show (oneL (9 :: y)).err = 4 from by rw [oneL_blank _ _ rfl])]
    show _ = if (0 : Int) = 0 then Toks.put [] (allF y.length (k + 0 + 1) y) else _
    rw [if_pos rfl, put_nil _ (allF_form _ _ _).1 (allF_form _ _ _).2]
    exact allF_fuel _ _ _ _ (by simp at hF; omega) (Nat.le_refl _)
  | succ m ih =>
    intro x k F hx hF
    cases x with
    | nil => exact ih [] k F (Nat.zero_le _) hF
    | cons c r =>
      obtain ⟨F, rfl⟩ : ∃ F', F = F' + 1 := ⟨F - 1, by simp at hF; omega⟩
      have ho := one_tab (c :: r) y (by simp)
      simp only [List.length_cons] at hx hF
      by_cases h4 : (oneL (c :: r)).err = 4
      · have e1 : allF (F + 1) k (c :: r ++ 9 :: y) = allF F (k + 1) (r ++ 9 :: y) := by
          rw [List.cons_append] at ho ⊢; rw [allF, ho, if_pos h4]
        have e2 : allF (c :: r).length k (c :: r) = allF r.length (k + 1) r := by
          show allF (r.length + 1) k (c :: r) = _
          rw [allF, if_pos h4]
        rw [e1, e2, ih r (k + 1) F (by omega) (by omega)]
        simp only [List.length_cons, show k + 1 + r.length + 1 = k + (r.length + 1) + 1 by omega]
      · by_cases h0 : (oneL (c :: r)).err = 0
        · obtain ⟨hn, hnl⟩ := (oneL_bd (c :: r) (by simp)).1 h0
          have e1 : allF (F + 1) k (c :: r ++ 9 :: y) = Toks.put [⟨(oneL (c :: r)).kind, k, (k + (oneL (c :: r)).len : Nat)⟩] (allF F (k + (oneL (c :: r)).len) ((c :: r).drop (oneL (c :: r)).len ++ 9 :: y)) := by
            rw [List.cons_append] at ho ⊢
            rw [allF, ho, if_neg h4, if_pos h0, ← List.cons_append, List.drop_append_of_le_length hnl]
          have e2 : allF (c :: r).length k (c :: r) = Toks.put [⟨(oneL (c :: r)).kind, k, (k + (oneL (c :: r)).len : Nat)⟩] (allF ((c :: r).drop (oneL (c :: r)).len).length (k + (oneL (c :: r)).len) ((c :: r).drop (oneL (c :: r)).len)) := by
            show allF (r.length + 1) k (c :: r) = _
            rw [allF, if_neg h4, if_pos h0, allF_fuel r.length ((c :: r).drop (oneL (c :: r)).len).length _ _ (by simp; omega) (Nat.le_refl _)]
          have hk : k + (oneL (c :: r)).len + ((c :: r).drop (oneL (c :: r)).len).length + 1 = k + (c :: r).length + 1 := by simp at hnl ⊢; omega
          rw [e1, e2, ih ((c :: r).drop (oneL (c :: r)).len) (k + (oneL (c :: r)).len) F (by simp; omega) (by simp at hnl ⊢; omega), hk]
          generalize hA : allF ((c :: r).drop (oneL (c :: r)).len).length (k + (oneL (c :: r)).len) ((c :: r).drop (oneL (c :: r)).len) = A
          have hf := allF_form ((c :: r).drop (oneL (c :: r)).len).length (k + (oneL (c :: r)).len) ((c :: r).drop (oneL (c :: r)).len)
          rw [hA] at hf
          by_cases hz : A.err = 0
          · rw [if_pos hz, put_ok _ A hz, if_pos rfl, put_app]
          · rw [if_neg hz, put_err _ A hz (hf.2 hz), if_neg hz]
        · have e1 : allF (F + 1) k (c :: r ++ 9 :: y) = ⟨[], k, (oneL (c :: r)).err⟩ := by
            rw [List.cons_append] at ho ⊢; rw [allF, ho, if_neg h4, if_neg h0]
          have e2 : allF (c :: r).length k (c :: r) = ⟨[], k, (oneL (c :: r)).err⟩ := by
            show allF (r.length + 1) k (c :: r) = _
            rw [allF, if_neg h4, if_neg h0]
          rw [e1, e2, if_neg h0]
theorem all_behind (l : List UInt8) (h : l.length ≤ 2000) : allL (l ++ [9, 32]) = allL l := by
  rw [allL_short _ (by simp; omega), allL_short l (by omega)]
  have e := allF_tab [32] l.length l 0 (l ++ [9, 32]).length (Nat.le_refl _) (by simp)
  rw [e]
  have h1 : allF ([32] : List UInt8).length (0 + l.length + 1) [(32 : UInt8)] = ⟨[], 0, 0⟩ := by
    show allF 1 _ [32] = _
    rw [allF, if_pos (show (oneL [(32 : UInt8)]).err = 4 by rw [oneL_blank _ _ rfl])]
    rfl
  rw [h1]
  have hf := allF_form l.length 0 l
  by_cases hz : (allF l.length 0 l).err = 0
  · rw [if_pos hz, put_ok _ _ rfl]
    have h2 := hf.1 hz
    generalize allF l.length 0 l = A at *
    obtain ⟨t, p, e⟩ := A
    simp only at hz h2
    subst hz h2
    simp
  · rw [if_neg hz]
theorem all_ahead (l : List UInt8) : ∀ m : Nat, m + l.length ≤ 4096 → allL (List.replicate m 32 ++ l) = shX m (allL l)
  | 0, h => by
    have hf := allF_form l.length 0 l
    rw [allL_short l (by omega)] at *
    show allL l = _
    rw [allL_short l (by omega)]
    generalize allF l.length 0 l = A at *
    obtain ⟨t, p, e⟩ := A
    unfold shX shT
    simp only at hf ⊢
    by_cases he : e = 0
    · have := hf.1 he
      subst he this
      simp
    · rw [if_neg he]
      simp
  | m + 1, h => by
    have ih := all_ahead l m (by omega)
    rw [allL_short _ (by simp; omega)] at ih
    rw [List.replicate_succ, List.cons_append, allL_short _ (by simp; omega)]
    show allF ((List.replicate m 32 ++ l).length + 1) 0 _ = _
    rw [allF, if_pos (show (oneL ((32 : UInt8) :: (List.replicate m 32 ++ l))).err = 4 by rw [oneL_blank _ _ rfl])]
    have hs := allF_shift 1 (List.replicate m 32 ++ l).length 0 (List.replicate m 32 ++ l)
    rw [hs, ih]
    generalize allL l = A
    obtain ⟨t, p, e⟩ := A
    unfold shX shT
    simp only [List.map_map]
    congr 1
    · apply List.map_congr_left
      intro x _
      simp
      omega
    · split
      · rfl
      · push_cast; omega
/-- two lists of tokens that read alike; places go by g -/
structure Like (s s' : ByteArray) (ts ts' : List Tok) (g : Int → Int) : Prop where
  t : ∀ k, textAt s' ts' k = textAt s ts k
  k : ∀ k, kindAt ts' k = kindAt ts k
  p : ∀ k, placeAt s' ts' k = g (placeAt s ts k)
  n : ts'.length = ts.length
def mapE {α : Type} (g : Int → Int) : Except (Int × Int) α → Except (Int × Int) α
  | .ok x => .ok x
  | .error e => .error (e.1, g e.2)
section
variable {s s' : ByteArray} {ts ts' : List Tok} {g : Int → Int}
theorem isT_like (h : Like s s' ts ts' g) (k : Nat) : isT ts' k = isT ts k := by unfold isT; rw [h.k]
theorem termR_like (h : Like s s' ts ts' g) (k : Nat) : termR s' ts' k = termR s ts k := by unfold termR; rw [h.k, h.t]
theorem moreT_like (h : Like s s' ts ts' g) : ∀ (n : Nat) (acc : List Tm) (k : Nat), moreT s' ts' n acc k = mapE g (moreT s ts n acc k)
  | 0, acc, k => by
    rw [moreT, moreT, h.t, h.p]
    split <;> rfl
  | n + 1, acc, k => by
    rw [moreT, moreT, h.t, h.p, isT_like h, termR_like h, moreT_like h n]
    split
    · split <;> rfl
    · rfl
theorem listT_like (h : Like s s' ts ts' g) (n k : Nat) : listT s' ts' n k = mapE g (listT s ts n k) := by
  unfold listT
  rw [isT_like h, termR_like h, h.p, moreT_like h]
  split <;> rfl
theorem atomR_like (h : Like s s' ts ts' g) (k : Nat) : atomR s' ts' k = mapE g (atomR s ts k) := by
  unfold atomR
  rw [h.k, h.t, h.t, h.p, listT_like h]
  split
  · split
    · cases listT s ts 3 (k + 2) with
      | error e => rfl
      | ok x =>
        obtain ⟨l, k'⟩ := x
        simp only [mapE]
        rw [h.t, h.p]
        split <;> rfl
    · rfl
  · rfl
theorem saidR_like (h : Like s s' ts ts' g) (kd : Int) (k : Nat) : saidR s' ts' kd k = mapE g (saidR s ts kd k) := by
  unfold saidR
  simp only [h.k, h.t, h.p, termR_like h, atomR_like h]
  split
  · split
    · cases atomR s ts (k + 2) <;> rfl
    · rfl
  · cases atomR s ts k <;> rfl
theorem compR_like (h : Like s s' ts ts' g) (k : Nat) : compR s' ts' k = mapE g (compR s ts k) := by
  unfold compR
  simp only [h.t, h.p, termR_like h, isT_like h]
  split
  · split
    · split <;> rfl
    · split
      · split <;> rfl
      · rfl
  · rfl
theorem litR_like (h : Like s s' ts ts' g) (k : Nat) : litR s' ts' k = mapE g (litR s ts k) := by
  unfold litR
  simp only [h.t, h.k, saidR_like h, compR_like h]
  split
  · rfl
  · split <;> rfl
theorem moreL_like (h : Like s s' ts ts' g) : ∀ (n : Nat) (acc : List Lq) (k : Nat), moreL s' ts' n acc k = mapE g (moreL s ts n acc k)
  | 0, acc, k => by
    rw [moreL, moreL, h.t, h.p]
    split <;> rfl
  | n + 1, acc, k => by
    rw [moreL, moreL, h.t, litR_like h]
    split
    · cases litR s ts (k + 1) with
      | error e => rfl
      | ok x => exact moreL_like h n _ _
    · rfl
theorem listL_like (h : Like s s' ts ts' g) (n k : Nat) : listL s' ts' n k = mapE g (listL s ts n k) := by
  unfold listL
  rw [litR_like h]
  cases litR s ts k with
  | error e => rfl
  | ok x => exact moreL_like h n _ _
theorem clauseR_like (h : Like s s' ts ts' g) (k : Nat) : clauseR s' ts' k = mapE g (clauseR s ts k) := by
  unfold clauseR
  rw [atomR_like h]
  cases atomR s ts k with
  | error e => rfl
  | ok a =>
    obtain ⟨a, k1⟩ := a
    simp only [mapE]
    rw [h.t, listL_like h, h.p]
    split
    · cases listL s ts 5 (k1 + 1) with
      | error e => rfl
      | ok b =>
        obtain ⟨b, k2⟩ := b
        simp only [mapE]
        rw [h.t, h.p]
        split <;> rfl
    · split <;> rfl
theorem wholeR_like {α : Type} (h : Like s s' ts ts' g) (R : Except (Int × Int) (α × Nat)) : wholeR s' ts' (mapE g R) = mapE g (wholeR s ts R) := by
  cases R with
  | error e => rfl
  | ok x =>
    obtain ⟨x, k⟩ := x
    simp only [mapE, wholeR]
    rw [h.n, h.p]
    split <;> rfl
end
theorem parse_like {s s' : ByteArray} {g : Int → Int} (he : (allL s'.data.toList).err = (allL s.data.toList).err) (h : (allL s.data.toList).err = 0 → Like s s' (allL s.data.toList).toks (allL s'.data.toList).toks g)
    (hp : (allL s.data.toList).err ≠ 0 → (allL s'.data.toList).pl = g (allL s.data.toList).pl) : parseR s' = mapE g (parseR s) := by
  unfold parseR
  rw [he]
  by_cases h0 : (allL s.data.toList).err = 0
  · rw [if_pos h0, if_pos h0, clauseR_like (h h0), wholeR_like (h h0)]
  · rw [if_neg h0, if_neg h0, hp h0]
    rfl
end Go.Proofs.YtnjdganikeganaaGreatDoor

/-
  Plain: a clause's text with blanks ahead of it and behind it.
-/
namespace Go.Proofs.YtnjdganikeganaaGreatDoor
open Go.RowKit

def aheadB (m : Nat) : ByteArray := ⟨(List.replicate m (32 : UInt8)).toArray⟩
theorem ahead_size (m : Nat) : (aheadB m).size = m := by
  show (List.replicate m (32 : UInt8)).toArray.size = m
  simp
theorem ahead_step (m : Nat) : aheadB m ++ ⟨#[32]⟩ = aheadB (m + 1) := ba_ext (by
  rw [dl_append]
  show List.replicate m (32 : UInt8) ++ [32] = List.replicate (m + 1) 32
  rw [List.replicate_succ'])
theorem allF_pl : ∀ (f k : Nat) (l : List UInt8), (allF f k l).err ≠ 0 → (k : Int) ≤ (allF f k l).pl ∧ (allF f k l).pl ≤ (k + l.length : Nat)
  | 0, _, _ => by simp [allF]
  | _ + 1, _, [] => by simp [allF]
  | f + 1, k, c :: r => by
    rw [allF]
    split
    · intro h
      have := allF_pl f (k + 1) r h
      simp only [List.length_cons]
      omega
    · split
      · rename_i h0
        intro h
        have hb := ((oneL_bd (c :: r) (by simp)).1 h0).2
        have hz : (allF f (k + (oneL (c :: r)).len) ((c :: r).drop (oneL (c :: r)).len)).err ≠ 0 := by
          intro e
          unfold Toks.put at h
          rw [if_pos e] at h
          exact h rfl
        have hp := allF_pl f _ _ hz
        unfold Toks.put
        rw [if_neg hz]
        simp only [List.length_drop] at hp ⊢
        omega
      · intro _
        simp only [List.length_cons]
        omega
theorem tok_bd {s : ByteArray} (h : (allL s.data.toList).err = 0) {k : Nat} {t : Tok} (ht : (allL s.data.toList).toks[k]? = some t) : ∃ p q : Nat, t.fr = p ∧ t.to = q ∧ p < q ∧ q ≤ s.data.toList.length := by
  have hc := chain_all s.data.toList h
  exact chain_bd _ _ 0 hc t (List.mem_of_getElem? ht)
theorem sz_list (s : ByteArray) : s.size = s.data.toList.length := rfl
/-- places lie within the text -/
theorem parse_place (s : ByteArray) (hs : s.size ≤ 2000) : 0 ≤ plOf (parseR s) ∧ plOf (parseR s) ≤ s.size := by
  let g : Int → Int := fun p => if 0 ≤ p ∧ p ≤ s.size then p else 0
  have hg : ∀ p : Int, 0 ≤ p → p ≤ s.size → g p = p := fun p h1 h2 => if_pos ⟨h1, h2⟩
  have hgb : ∀ p, 0 ≤ g p ∧ g p ≤ s.size := fun p => by
    show 0 ≤ (if 0 ≤ p ∧ p ≤ s.size then p else 0) ∧ (if 0 ≤ p ∧ p ≤ s.size then p else 0) ≤ (s.size : Int)
    split
    · assumption
    · omega
  have e : parseR s = mapE g (parseR s) := parse_like rfl (fun h0 => ⟨fun _ => rfl, fun _ => rfl, fun k => by
    unfold placeAt
    cases ht : (allL s.data.toList).toks[k]? with
    | none => exact (hg _ (by omega) (Int.le_refl _)).symm
    | some t =>
      obtain ⟨p, q, h1, _, h3, h4⟩ := tok_bd h0 ht
      rw [← sz_list] at h4
      show t.fr = g t.fr
      exact (hg _ (by rw [h1]; omega) (by rw [h1]; omega)).symm, rfl⟩) (fun h0 => by
    rw [allL_short _ (by rw [← sz_list]; omega)] at h0 ⊢
    have h9 := allF_pl _ _ _ h0
    have hz : s.data.toList.length = s.size := rfl
    exact (hg _ (by omega) (by omega)).symm)
  rw [e]
  cases parseR s with
  | ok x => exact ⟨Int.le_refl _, by show (0 : Int) ≤ _; omega⟩
  | error x => exact hgb x.2
theorem parse_ahead (s : ByteArray) (m : Nat) (hs : s.size ≤ 2000) (hm : m ≤ 19) : parseR (aheadB m ++ s) = mapE (fun p => p + m) (parseR s) := by
  have hl : (aheadB m ++ s).data.toList = List.replicate m 32 ++ s.data.toList := dl_append _ _
  have ha := all_ahead s.data.toList m (by rw [← sz_list]; omega)
  rw [← hl] at ha
  refine parse_like (by rw [ha]; rfl) (fun h0 => ?_) (fun h0 => by rw [ha]; unfold shX; rw [if_neg h0])
  rw [ha]
  have hget : ∀ k, ((allL s.data.toList).toks.map (shT m))[k]? = ((allL s.data.toList).toks[k]?).map (shT m) := fun k => List.getElem?_map
  refine ⟨fun k => ?_, fun k => ?_, fun k => ?_, by simp [shX]⟩
  · unfold textAt
    show (match ((allL s.data.toList).toks.map (shT m))[k]? with | some t => _ | none => _) = _
    rw [hget]
    cases ht : (allL s.data.toList).toks[k]? with
    | none => rfl
    | some t =>
      obtain ⟨p, q, h1, h2, h3, h4⟩ := tok_bd h0 ht
      refine ba_ext ?_
      show ((aheadB m ++ s).extract (t.fr + m).toNat (t.to + m).toNat).data.toList = (s.extract t.fr.toNat t.to.toNat).data.toList
      rw [h1, h2, extract_list, extract_list, hl]
      have e1 : ((p : Int) + (m : Int)).toNat = m + p := by omega
      have e2 : ((q : Int) + (m : Int)).toNat = m + q := by omega
      rw [e1, e2, Int.toNat_natCast, Int.toNat_natCast, List.drop_append]
      have e3 : List.drop (m + p) (List.replicate m (32 : UInt8)) = [] := List.drop_eq_nil_of_le (by simp)
      rw [e3, List.nil_append, List.length_replicate]
      have e4 : m + p - m = p := by omega
      have e5 : m + q - (m + p) = q - p := by omega
      rw [e4, e5]
  · unfold kindAt
    show Option.getD (Option.map _ ((allL s.data.toList).toks.map (shT m))[k]?) 0 = _
    rw [hget]
    cases (allL s.data.toList).toks[k]? <;> rfl
  · unfold placeAt
    show (match ((allL s.data.toList).toks.map (shT m))[k]? with | some t => _ | none => _) = _
    rw [hget]
    cases (allL s.data.toList).toks[k]? with
    | none =>
      show ((aheadB m ++ s).size : Int) = (s.size : Int) + m
      rw [ByteArray.size_append, ahead_size]
      omega
    | some t => rfl
theorem parse_behind (s : ByteArray) (hs : s.size ≤ 2000) : ∃ g : Int → Int, (∀ p, g p = p ∨ (p = s.size ∧ g p = s.size + 2)) ∧ parseR (s ++ ⟨#[9, 32]⟩) = mapE g (parseR s) := by
  have hl : (s ++ ⟨#[9, 32]⟩).data.toList = s.data.toList ++ [9, 32] := dl_append _ _
  have ha := all_behind s.data.toList (by rw [← sz_list]; exact hs)
  rw [← hl] at ha
  by_cases h0 : (allL s.data.toList).err = 0
  · refine ⟨fun p => if p = s.size then s.size + 2 else p, fun p => ?_, parse_like (by rw [ha]) (fun _ => ?_) (fun h => absurd h0 h)⟩
    · by_cases hp : p = s.size
      · exact .inr ⟨hp, if_pos hp⟩
      · exact .inl (if_neg hp)
    · rw [ha]
      refine ⟨fun k => ?_, fun _ => rfl, fun k => ?_, rfl⟩
      · unfold textAt
        cases ht : (allL s.data.toList).toks[k]? with
        | none => rfl
        | some t =>
          obtain ⟨p, q, h1, h2, h3, h4⟩ := tok_bd h0 ht
          refine ba_ext ?_
          show ((s ++ ⟨#[9, 32]⟩).extract t.fr.toNat t.to.toNat).data.toList = (s.extract t.fr.toNat t.to.toNat).data.toList
          rw [h1, h2, extract_list, extract_list, hl, Int.toNat_natCast, Int.toNat_natCast, List.drop_append_of_le_length (by omega), List.take_append_of_le_length (by rw [List.length_drop]; omega)]
      · unfold placeAt
        cases ht : (allL s.data.toList).toks[k]? with
        | none =>
          show ((s ++ ⟨#[9, 32]⟩).size : Int) = if (s.size : Int) = s.size then _ else _
          rw [if_pos rfl, ByteArray.size_append]
          rfl
        | some t =>
          obtain ⟨p, q, h1, _, h3, h4⟩ := tok_bd h0 ht
          rw [← sz_list] at h4
          show t.fr = if t.fr = s.size then _ else _
          rw [if_neg (by rw [h1]; omega)]
  · exact ⟨id, fun p => .inl rfl, parse_like (by rw [ha]) (fun h => absurd h h0) (fun _ => by rw [ha]; rfl)⟩
theorem mapE_clause (g : Int → Int) (R : Except (Int × Int) Cq) : clauseOf (mapE g R) = clauseOf R := by cases R <;> rfl
theorem mapE_err {α : Type} (g : Int → Int) (R : Except (Int × Int) α) : errOf (mapE g R) = errOf R := by cases R <;> rfl
theorem mapE_pl {α : Type} (g : Int → Int) (R : Except (Int × Int) α) (h : errOf R ≠ 0) : plOf (mapE g R) = g (plOf R) := by
  cases R with
  | ok x => exact absurd rfl h
  | error x => rfl
end Go.Proofs.YtnjdganikeganaaGreatDoor

/-
  The walk of mandatelaw06.ClauseBlanks: it answers true.
-/
namespace Go.Proofs.YtnjdganikeganaaGreatDoor
open Go.RowKit

set_option maxHeartbeats 16000000 in
set_option maxRecDepth 100000 in
theorem blanks_walk (s : ByteArray) (n : Int) (w : World) (he : Env w) (hm : s.size ≤ 140737488351232) (hn : 0 ≤ n ∧ n ≤ 255) :
    Calls Tryz.prog 9 #[.string s, .int .u8 n] w fun e w' => e = .returned (.bool true) ∧ Below w.heap.size w w' := by
  have HE := Lib.hid he
  have HF := Lib.hid (fixed_any w he)
  obtain ⟨n, rfl⟩ := Int.eq_ofNat_of_zero_le hn.1
  have hn2 : n ≤ 255 := by omega
  clear hn
  by_cases hlg : (2000 : Int) < (s.size : Int)
  · clear he hm
    go_enter Tryz.func9, Tryz.ntmps9
    go_wp2_with (go_at_call 13; refine (HF.out).mono ?_; rintro e w1 ⟨rfl, hb1⟩)
    go_ret
    exact ⟨rfl, hb1⟩
  have hs : s.size ≤ 2000 := by omega
  have htb : (⟨#[9, 32]⟩ : ByteArray).size = 2 := rfl
  have hsm := clauseOf_sm s
  have hpl := parse_place s hs
  obtain ⟨g, hg, hbe⟩ := parse_behind s hs
  have HP0 := Lib.hid (show ∀ wx, Env wx → Calls Tryz.prog 11 #[.string s] wx fun e w' => ∃ cl : Kp, cl.q = clauseOf (parseR s) ∧ e = .returned (.tuple #[cl.agg, .int .i64 (plOf (parseR s)), .int .i64 (errOf (parseR s))]) ∧ ClMem w' cl ∧ Below wx.heap.size wx w' from fun wx hx => (parse_any s wx hm hx).mono fun e w' h => cl_sum h)
  have HP1 := Lib.hid (show ∀ m : Nat, m ≤ 19 → ∀ wx, Env wx → Calls Tryz.prog 11 #[.string (aheadB m ++ s)] wx fun e w' => ∃ (cl : Kp) (p1 : Int), cl.q = clauseOf (parseR s) ∧ e = .returned (.tuple #[cl.agg, .int .i64 p1, .int .i64 (errOf (parseR s))]) ∧ Hid (errOf (parseR s) ≠ 0 → p1 = plOf (parseR s) + m) ∧ ClMem w' cl ∧ Below wx.heap.size wx w' from fun m hm' wx hx => (parse_any (aheadB m ++ s) wx (by rw [ByteArray.size_append, ahead_size]; omega) hx).mono fun e w' h => by
    obtain ⟨cl, h1, h2, h3, h4⟩ := cl_sum h
    rw [parse_ahead s m hs hm', mapE_clause] at h1
    rw [parse_ahead s m hs hm', mapE_err] at h2
    exact ⟨cl, _, h1, h2, Lib.hid (fun h0 => mapE_pl _ _ h0), h3, h4⟩)
  have HPX : ∀ x : ByteArray, x.size = 2 → parseR (s ++ x) = mapE g (parseR s) → ∀ wx, Env wx → Calls Tryz.prog 11 #[.string (s ++ x)] wx fun e w' => ∃ (cl : Kp) (p2 : Int), cl.q = clauseOf (parseR s) ∧ e = .returned (.tuple #[cl.agg, .int .i64 p2, .int .i64 (errOf (parseR s))]) ∧ Hid (errOf (parseR s) ≠ 0 → p2 = plOf (parseR s) ∨ (plOf (parseR s) = s.size ∧ p2 = s.size + 2)) ∧ ClMem w' cl ∧ Below wx.heap.size wx w' := by
    intro x hx2 hbx wx hx
    have hz : (s ++ x).size ≤ 140737488351232 := by rw [ByteArray.size_append, hx2]; omega
    refine (parse_any (s ++ x) wx hz hx).mono fun e w' h => ?_
    obtain ⟨cl, h1, h2, h3, h4⟩ := cl_sum h
    rw [hbx, mapE_clause] at h1
    rw [hbx, mapE_err] at h2
    refine ⟨cl, _, h1, h2, Lib.hid (fun h0 => ?_), h3, h4⟩
    rw [mapE_pl _ _ h0]
    rcases hg (plOf (parseR s)) with h | h
    · exact .inl h
    · exact .inr h
  have HP2 := Lib.hid (HPX ⟨#[9, 32]⟩ htb hbe)
  clear HPX
  generalize clauseOf (parseR s) = C at *
  generalize plOf (parseR s) = pl at *
  generalize errOf (parseR s) = er at *
  have HS := Lib.hid (show ∀ wx a b, ClMem wx a → ClMem wx b → a.q = C → b.q = C → _ from fun wx a b h1 h2 h3 h4 => same_yes C hsm a b wx h1 h2 h3 h4)
  unfold Kp.agg at HP0 HP1 HP2 HS
  clear he hsm hm hbe hg
  have hrem : (n : Int).tmod 20 = ((n % 20 : Nat) : Int) := rfl
  have hm19 : n % 20 ≤ 19 := by omega
  have hsp : (⟨#[32]⟩ : ByteArray).size = 1 := rfl
  go_enter Tryz.func9, Tryz.ntmps9
  go_wp2_with (go_at_call 13; refine (HF.out).mono ?_; rintro e w1 ⟨rfl, hb1⟩; have HB1 := Lib.hid hb1; have HE1 := Lib.hid (HE.out.on hb1); clear hb1)
  have hw0 : IntKind.i64.wrap (n : Int) = (n : Int) := IntWalk.i64_in _ (by omega)
  go_loopw [5, 6] (fun o i wr => ∃ j : Nat, j ≤ n % 20 ∧ o = .string (aheadB j) ∧ i = .int .i64 j ∧ wr = w1) (fun _ i _ => n % 20 - (intOf i).toNat)
  case atStart => exact ⟨0, Nat.zero_le _, rfl, rfl, rfl⟩
  case round =>
    obtain ⟨j, hj, rfl, rfl, rfl⟩ := hrel
    have hsz := ahead_size j
    by_cases hlt : j < n % 20
    · have h1 : (j : Int) < (n : Int) % 20 := by omega
      have h2 : (j : Int) < (n : Int).tmod 20 := by rw [hrem]; omega
      go_wp2_with fail
      go_roundw
      case rel => exact ⟨j + 1, by omega, congrArg Value.string (ahead_step j), by go_num, by first | rfl | trivial⟩
      case measure => simp [intOf]; omega
    · have h1 : ¬ (j : Int) < (n : Int) % 20 := by omega
      have h2 : ¬ (j : Int) < (n : Int).tmod 20 := by rw [hrem]; omega
      have HP1' := Lib.hid (HP1.out j (by omega))
      have hj19 : j ≤ 19 := by omega
      clear HP1
      go_upto_if 72 with (first
        | (go_at_call 14; refine (HS.out _ cl1 cl3 HT6.out HV6.out HQ1.out HQ3.out).mono ?_; rintro e w7 ⟨rfl, hb7⟩; have HB7 := Lib.hid (HB6.out.trans (hb7.mono HB6.out.size)); clear hb7)
        | (go_at_call 14; refine (HS.out _ cl1 cl2 HT5.out HU5.out HQ1.out HQ2.out).mono ?_; rintro e w6 ⟨rfl, hb6⟩; have HB6 := Lib.hid (HB5.out.trans (hb6.mono HB5.out.size)); have HX6 := Lib.hid (HX5.out.on hb6); have HZ6 := Lib.hid ((Bk.new w4 _ _).on hb6); have HT6 := Lib.hid (HT5.out.on hb6); have HV6 := Lib.hid (HV5.out.on hb6); obtain ⟨p0, p1', p2', p3, p4, p5, p6⟩ := HX6.out.seven; obtain ⟨q0, q1, q2, q3, q4, q5, q6⟩ := HZ6.out.seven; clear hb6)
        | (go_at_call 11; refine (HP2.out _ (HE3.out.on (below1 w3 _))).mono ?_; rintro e w4 ⟨cl3, pl2, hq3, rfl, HPL2, ht4, hb4⟩; have HQ3 := Lib.hid hq3; have HX4 := Lib.hid ((HX3.out.on (below1 w3 _)).on hb4); have HY4 := Lib.hid ((Bk.new w3 _ _).on hb4); have HT4 := Lib.hid ((HT3.out.on (below1 w3 _)).on hb4); have HU4 := Lib.hid ((HU3.out.on (below1 w3 _)).on hb4); have HB4 := Lib.hid ((HB3.out.trans ((below1 w3 _).mono HB3.out.size)).trans (hb4.mono (Nat.le_trans HB3.out.size (below1 w3 _).size))); have HX5 := Lib.hid (HX4.out.on (below1 w4 (.cells #[.int .u8 cl3.head.kind, .string cl3.head.who.v, .string cl3.head.who.s, .int .i64 cl3.head.who.n, .string cl3.head.pred, .slice cl3.head.ptr cl3.head.args.length cl3.head.cap, .slice cl3.ptr cl3.body.length cl3.cap] 31))); have HY5 := Lib.hid (HY4.out.on (below1 w4 (.cells #[.int .u8 cl3.head.kind, .string cl3.head.who.v, .string cl3.head.who.s, .int .i64 cl3.head.who.n, .string cl3.head.pred, .slice cl3.head.ptr cl3.head.args.length cl3.head.cap, .slice cl3.ptr cl3.body.length cl3.cap] 31))); have HT5 := Lib.hid (HT4.out.on (below1 w4 (.cells #[.int .u8 cl3.head.kind, .string cl3.head.who.v, .string cl3.head.who.s, .int .i64 cl3.head.who.n, .string cl3.head.pred, .slice cl3.head.ptr cl3.head.args.length cl3.head.cap, .slice cl3.ptr cl3.body.length cl3.cap] 31))); have HU5 := Lib.hid (HU4.out.on (below1 w4 (.cells #[.int .u8 cl3.head.kind, .string cl3.head.who.v, .string cl3.head.who.s, .int .i64 cl3.head.who.n, .string cl3.head.pred, .slice cl3.head.ptr cl3.head.args.length cl3.head.cap, .slice cl3.ptr cl3.body.length cl3.cap] 31))); have HV5 := Lib.hid (ht4.on (below1 w4 (.cells #[.int .u8 cl3.head.kind, .string cl3.head.who.v, .string cl3.head.who.s, .int .i64 cl3.head.who.n, .string cl3.head.pred, .slice cl3.head.ptr cl3.head.args.length cl3.head.cap, .slice cl3.ptr cl3.body.length cl3.cap] 31))); have HB5 := Lib.hid (HB4.out.trans ((below1 w4 (.cells #[.int .u8 cl3.head.kind, .string cl3.head.who.v, .string cl3.head.who.s, .int .i64 cl3.head.who.n, .string cl3.head.pred, .slice cl3.head.ptr cl3.head.args.length cl3.head.cap, .slice cl3.ptr cl3.body.length cl3.cap] 31)).mono HB4.out.size)); obtain ⟨x0, x1, x2, x3, x4, x5, x6⟩ := HX5.out.seven; obtain ⟨y0, y1, y2, y3, y4, y5, y6⟩ := HY5.out.seven; clear hq3 ht4 hb4)
        | (go_at_call 11; refine (HP1'.out _ (HE2.out.on (below1 w2 _))).mono ?_; rintro e w3 ⟨cl2, pl1, hq2, rfl, HPL1, ht3, hb3⟩; have HQ2 := Lib.hid hq2; have HX3 := Lib.hid ((Bk.new w2 _ _).on hb3); have HT3 := Lib.hid ((HT2.out.on (below1 w2 _)).on hb3); have HU3 := Lib.hid ht3; have HB3 := Lib.hid ((HB2.out.trans ((below1 w2 _).mono HB2.out.size)).trans (hb3.mono (Nat.le_trans HB2.out.size (below1 w2 _).size))); have HE3 := Lib.hid (HE.out.on HB3.out); clear hq2 ht3 hb3)
        | (go_at_call 11; refine (HP0.out _ HE1.out).mono ?_; rintro e w2 ⟨cl1, hq1, rfl, ht2, hb2⟩; have HQ1 := Lib.hid hq1; have HT2 := Lib.hid ht2; have HB2 := Lib.hid (HB1.out.trans (hb2.mono HB1.out.size)); have HE2 := Lib.hid (HE.out.on HB2.out); clear hq1 ht2 hb2))
      clear p0 p1' p2' p3 p4 p5 p6 q0 q1 q2 q3 q4 q5 q6 x0 x1 x2 x3 x4 x5 x6 y0 y1 y2 y3 y4 y5 y6
      by_cases her : er = 0
      · have heb : (er == 0) = true := by simp [her]
        clear her
        go_wp2_with fail
        go_ret
        exact ⟨rfl, HB7.out⟩
      · have heb : (er == 0) = false := beq_eq_false_iff_ne.2 her
        have e1 := (Hid.out HPL1) her
        subst e1
        have hw1 : IntKind.i64.wrap (pl + (j : Int)) = pl + (j : Int) := IntWalk.i64_in _ (by omega)
        have hw2 : wrap64 (pl + (j : Int)) = pl + (j : Int) := by unfold wrap64; omega
        rcases (Hid.out HPL2) her with e2 | ⟨e2, e3⟩
        · subst e2
          clear her HPL1 HPL2
          go_wp2_with fail
          go_ret
          exact ⟨by first | rfl | simp, HB7.out⟩
        · subst e3
          have hb1 : (((s.size : Int) + 2) == pl) = false := beq_eq_false_iff_ne.2 (by omega)
          have hb2 : (pl == (s.size : Int)) = true := beq_iff_eq.2 e2
          have hw3 : IntKind.i64.wrap ((s.size : Int) + 2) = (s.size : Int) + 2 := IntWalk.i64_in _ (by omega)
          clear her HPL1 HPL2
          go_wp2_with fail
          go_ret
          exact ⟨by first | rfl | simp, HB7.out⟩
end Go.Proofs.YtnjdganikeganaaGreatDoor

/-
  An unsigned byte that came in: its range.
-/
namespace Go.Proofs.YtnjdganikeganaaGreatDoor
open Go.RowKit
theorem u8_range {n : Int} (h : (Lit.int .u8 n).wf = true) : 0 ≤ n ∧ n ≤ 255 := by
  have h2 := (Lit.wf_int_iff _ _).1 h
  have h3 : IntKind.min .u8 = 0 := by decide
  have h4 : IntKind.max .u8 = 255 := by decide
  rw [h3, h4] at h2
  exact h2
end Go.Proofs.YtnjdganikeganaaGreatDoor
