/-
  Joined of: CtkC, CtkD, Rpw, CpyD.
-/
import Derived.Test.YtfmkfabbiifolaaGreatDoorJe05
import Derived.Test.YtfmkfabbiifolaaGreatDoorJa28
import Derived.Test.YtfmkfabbiifolaaGreatDoorJa16
import Derived.Test.YtfmkfabbiifolaaGreatDoorJe01
import Derived.Test.YtfmkfabbiifolaaGreatDoorJe02
import Derived.Test.YtfmkfabbiifolaaGreatDoorJa31
import Derived.Test.YtfmkfabbiifolaaGreatDoorJa26
import Derived.Test.YtfmkfabbiifolaaGreatDoorJa18
set_option linter.unusedVariables false
set_option linter.unusedSimpArgs false
/-
  Plain: the tokens of a text are those that it was made of; a clause's text as a list.
-/
namespace Go.Proofs.YtfmkfabbiifolaaGreatDoor
open Go.RowKit

theorem oneX_iff {l : List UInt8} {k : Int} {n : Nat} (h : oneX l = (0, k, n)) : (oneL l).err = 0 ∧ (oneL l).kind = k ∧ (oneL l).len = n := by
  unfold oneX at h
  injection h with h1 h2
  injection h2 with h2 h3
  exact ⟨h1, h2, h3⟩
def ktOf (B : List UInt8) (t : Tok) : ClauseS.KT := (t.kind, (B.drop t.fr.toNat).take (t.to.toNat - t.fr.toNat))
theorem lx_all (B : List UInt8) : ∀ (w : List UInt8) (ks : List ClauseS.KT), ClauseS.Lx oneX w ks → ∀ (f k : Nat), w.length ≤ f → B.drop k = w →
    (allF f k w).err = 0 ∧ (allF f k w).toks.map (ktOf B) = ks := by
  intro w ks h
  induction h with
  | nil =>
    intro f k _ _
    cases f <;> exact ⟨rfl, rfl⟩
  | @blank c r ks h4 hr ih =>
    intro f k hf hB
    cases f with
    | zero => simp at hf
    | succ f =>
      have e : allF (f + 1) k (c :: r) = allF f (k + 1) r := by
        rw [allF, if_pos (show (oneL (c :: r)).err = 4 from h4)]
      rw [e]
      exact ih f (k + 1) (by simpa using hf) (by rw [← List.drop_drop, hB]; rfl)
  | @tok w r k ks hw hone hr ih =>
    intro f n hf hB
    cases w with
    | nil => exact absurd rfl hw
    | cons c b =>
      cases f with
      | zero => simp at hf
      | succ f =>
        obtain ⟨h1, h2, h3⟩ := oneX_iff hone
        rw [List.cons_append] at h1 h2 h3 hB ⊢
        have hd : (c :: (b ++ r)).drop (c :: b).length = r := by
          rw [← List.cons_append, List.drop_left']
          rfl
        have e : allF (f + 1) n (c :: (b ++ r)) = Toks.put [⟨k, n, (n + (c :: b).length : Nat)⟩] (allF f (n + (c :: b).length) r) := by
          rw [allF, h1, h2, h3, hd]
          rfl
        have hBd : B.drop (n + (c :: b).length) = r := by rw [← List.drop_drop, hB, hd]
        obtain ⟨i1, i2⟩ := ih f (n + (c :: b).length) (by simp at hf ⊢; omega) hBd
        rw [e]
        unfold Toks.put
        rw [if_pos i1]
        refine ⟨rfl, ?_⟩
        rw [List.map_append, i2, List.map_cons, List.map_nil]
        have e2 : ktOf B ⟨k, (n : Int), ((n + (c :: b).length : Nat) : Int)⟩ = (k, c :: b) := by
          unfold ktOf
          simp only [Int.toNat_natCast, Nat.add_sub_cancel_left, hB]
          rw [← List.cons_append, List.take_left']
          rfl
        rw [e2]
        rfl
theorem extract_dl (s : ByteArray) (a b : Nat) : (s.extract a b).data.toList = (s.data.toList.drop a).take (b - a) := by
  rw [ByteArray.data_extract, Array.toList_extract]
/-- the tokens of a text that is made of tokens -/
theorem kts_of {s : ByteArray} {ks : List ClauseS.KT} (h : ClauseS.Lx oneX s.data.toList ks) (hl : s.size ≤ 4096) :
    (allL s.data.toList).err = 0 ∧ (txs s (allL s.data.toList).toks).map ClauseS.Tx.kt = ks := by
  have hn : s.data.toList.length = s.size := by simp
  obtain ⟨h1, h2⟩ := lx_all s.data.toList _ _ h s.data.toList.length 0 (Nat.le_refl _) rfl
  have e : allL s.data.toList = allF s.data.toList.length 0 s.data.toList := by
    unfold allL
    rw [if_neg (by omega)]
  rw [e]
  refine ⟨h1, ?_⟩
  rw [← h2]
  unfold txs
  rw [List.map_map]
  refine List.map_congr_left fun t _ => ?_
  show (t.kind, (s.extract t.fr.toNat t.to.toNat).data.toList) = _
  rw [extract_dl]
  rfl
theorem tm_text (t : Tm) : ClauseS.textTm tvL (tmL t) = t.txt.data.toList := by
  obtain ⟨v, s, n⟩ := t
  unfold ClauseS.textTm Tm.txt
  show (if v.data.toList ≠ [] then v.data.toList else tvL s.data.toList n) = _
  cases he : v.toList.isEmpty with
  | true =>
    rw [if_neg (fun h => h (dl_nil.2 he))]
    unfold tvL
    rw [mk_toList]
    rfl
  | false =>
    rw [if_pos (fun h => by rw [dl_nil.1 h] at he; cases he)]
    rfl
theorem joinX_dl (l : List ByteArray) : (joinB l).data.toList = ClauseS.joinX (l.map (·.data.toList)) := by
  show Lib.join (l.map (·.data.toList)) [44, 32] = _
  cases l with
  | nil => rfl
  | cons x l =>
    rw [List.map_cons, Lib.join_cons]
    unfold Lib.joinTail
    show _ = x.data.toList ++ (l.map (·.data.toList)).flatMap fun y => [44, 32] ++ y
    rw [List.flatMap_def]
theorem map_text (l : List Tm) : (l.map tmL).map (ClauseS.textTm tvL) = (l.map Tm.txt).map (·.data.toList) := by
  rw [List.map_map, List.map_map]
  exact List.map_congr_left fun t _ => tm_text t
theorem atomX_dl (p : ByteArray) (l : List Tm) : ClauseS.atomX tvL p.data.toList (l.map tmL) = (argsT p l).data.toList := by
  unfold ClauseS.atomX argsT
  cases l with
  | nil => simp
  | cons t r =>
    rw [if_neg (show ¬ (t :: r).map tmL = [] from by simp), map_text, ← joinX_dl]
    rw [if_neg (show ¬ (t :: r).isEmpty = true by simp)]
    simp only [dl_append, List.append_assoc]
theorem tm0_iff (t : Tm) : tmL t = ClauseS.tm0 ↔ t.none = true := by
  obtain ⟨v, s, n⟩ := t
  unfold Tm.none tmL ClauseS.tm0
  simp only [Bool.and_eq_true, beq_iff_eq, ClauseS.Tm.mk.injEq]
  rw [dl_nil, dl_nil]
theorem saidX_dl (l : Lp) : ClauseS.saidX tvL (ltL l.q) = l.saidT.data.toList := by
  unfold ClauseS.saidX ClauseS.whoX Lp.saidT
  show (if tmL l.who = ClauseS.tm0 then _ else ClauseS.textTm tvL (tmL l.who) ++ ([32] ++ (ClauseS.wSays ++ [32]))) ++ ClauseS.atomX tvL l.pred.data.toList (l.args.map tmL) = _
  rw [atomX_dl, tm_text]
  have hc : ∀ a p : ByteArray, (argsT (a ++ p) l.args).data.toList = a.data.toList ++ (argsT p l.args).data.toList := by
    intro a p
    unfold argsT
    split
    · exact dl_append _ _
    · simp only [dl_append, List.append_assoc]
  cases hn : l.who.none with
  | true => rw [if_pos ((tm0_iff _).2 hn)]; rfl
  | false =>
    rw [if_neg (fun h => by rw [(tm0_iff _).1 h] at hn; cases hn)]
    rw [if_neg (by decide), hc, dl_append]
    rfl
theorem who_cases {t : Tm} (h : t.spk = true) (hn : t.Nb) : tmL t = ClauseS.tm0 ∨ (t.none = false ∧ t.ok = true ∧ ((tmL t).var ≠ [] ∨ (tmL t).sym ≠ [])) := by
  unfold Tm.spk at h
  cases hz : t.none with
  | true => exact .inl ((tm0_iff t).2 hz)
  | false =>
    rw [hz] at h
    simp only [Bool.false_or, Bool.and_eq_true, Bool.or_eq_true, Bool.not_eq_true'] at h
    refine .inr ⟨rfl, h.1, ?_⟩
    rcases h.2 with h | h
    · exact .inl fun e => by rw [dl_nil.1 e] at h; cases h
    · exact .inr fun e => by rw [dl_nil.1 e] at h; cases h
/-- what may be said -/
theorem good_said {l : Lp} (h : l.said = true) (hn : l.Nb) : ClauseS.GoodS rdL tvL (ltL l.q) ∧ ((ltL l.q).who = ClauseS.tm0 ∨ ClauseS.TmX tvL oneX stopX (ltL l.q).who) ∧ ClauseS.NmX oneX stopX (ltL l.q).pred ∧ ∀ t ∈ (ltL l.q).args, ClauseS.TmX tvL oneX stopX t := by
  unfold Lp.said at h
  simp only [Bool.and_eq_true, decide_eq_true_eq, List.all_eq_true] at h
  obtain ⟨h1, h2, h3, h4⟩ := h
  have ha : ∀ t ∈ (ltL l.q).args, ClauseS.TmX tvL oneX stopX t ∧ ClauseS.GoodT rdL tvL t := by
    intro t ht
    obtain ⟨u, hu, rfl⟩ := List.mem_map.1 (show t ∈ l.args.map tmL from ht)
    exact tm_lx (h4 u hu) (hn.args u hu)
  have hp := name_lx h2
  have hw : (ltL l.q).who = tmL l.who := rfl
  rcases who_cases h1 hn.who with hz | ⟨_, ho, hv⟩
  · exact ⟨⟨.inl (by rw [hw]; exact hz), hp.2, by simpa [ltL, Lp.q] using h3, fun t ht => (ha t ht).2⟩, .inl (by rw [hw]; exact hz), hp.1, fun t ht => (ha t ht).1⟩
  · have := tm_lx ho hn.who
    exact ⟨⟨.inr ⟨this.2, hv⟩, hp.2, by simpa [ltL, Lp.q] using h3, fun t ht => (ha t ht).2⟩, .inr this.1, hp.1, fun t ht => (ha t ht).1⟩
theorem ctk_two {l : List Tm} (h : l.length = 2) : ∃ a b, l = [a, b] := by
  cases l with
  | nil => cases h
  | cons a r =>
    cases r with
    | nil => cases h
    | cons b r =>
      cases r with
      | nil => exact ⟨a, b, rfl⟩
      | cons c r => simp at h
/-- a literal that may be -/
theorem good_lit {l : Lp} (h : l.lit = true) (hn : l.Nb) : ClauseS.GoodL rdL tvL (ltL l.q) ∧ ClauseS.LxT oneX stopX (ClauseS.litX tvL (ltL l.q)) (ClauseS.tkLit tvL (ltL l.q)) ∧ ClauseS.litX tvL (ltL l.q) = l.litT.data.toList ∧ l.litT.size ≤ 200 := by
  have hk : (ltL l.q).kind = l.kind := rfl
  have hsz : ∀ t : Tm, t.ok = true → t.Nb → t.txt.size ≤ 21 := fun t h hn => txt_size h hn
  by_cases h12 : l.kind = 1 ∨ l.kind = 2
  · have hs : l.said = true := by
      unfold Lp.lit at h
      rw [if_pos (by rcases h12 with e | e <;> rw [e] <;> decide)] at h
      exact h
    obtain ⟨g1, g2, g3, g4⟩ := good_said hs hn
    have hsaid : l.saidT.size ≤ 150 := by
      unfold Lp.said at hs
      simp only [Bool.and_eq_true, decide_eq_true_eq, List.all_eq_true] at hs
      obtain ⟨s1, s2, s3, s4⟩ := hs
      have hp := name_size s2
      have hj := (joinB_size (l.args.map Tm.txt) 21 (fun x hx => by obtain ⟨t, ht, rfl⟩ := List.mem_map.1 hx; exact hsz t (s4 t ht) (hn.args t ht))).1
      rw [List.length_map] at hj
      have ha : ∀ a : ByteArray, (argsT a l.args).size ≤ a.size + 94 := by
        intro a
        unfold argsT
        split
        · omega
        · simp only [ByteArray.size_append]
          have e1 : (⟨#[40]⟩ : ByteArray).size = 1 := rfl
          have e2 : (⟨#[41]⟩ : ByteArray).size = 1 := rfl
          omega
      unfold Lp.saidT
      refine Nat.le_trans (ha _) ?_
      rcases who_cases s1 hn.who with hz | ⟨hz, ho, _⟩
      · rw [if_pos ((tm0_iff _).1 hz)]
        omega
      · rw [if_neg (by rw [hz]; decide)]
        have hw := hsz _ ho hn.who
        simp only [ByteArray.size_append]
        have e1 : wdSaid.size = 6 := rfl
        omega
    refine ⟨.inl ⟨by rw [hk]; exact h12, g1⟩, ClauseS.lit_lx tvL reads_one (.inl ⟨by rw [hk]; exact h12, g2, g3, g4⟩), ?_, ?_⟩
    · unfold ClauseS.litX Lp.litT
      rw [hk, saidX_dl]
      rcases h12 with e | e
      · rw [e]
        rfl
      · rw [e, if_neg (by decide), if_pos rfl, if_pos rfl, dl_append]
        rfl
    · unfold Lp.litT
      rcases h12 with e | e
      · rw [e, if_neg (by decide), if_neg (by decide), if_neg (by decide)]
        omega
      · rw [e, if_pos rfl, ByteArray.size_append]
        have e1 : wdNotB.size = 4 := rfl
        omega
  · have h34 : l.kind = 3 ∨ l.kind = 4 := by
      unfold Lp.lit at h
      rw [if_neg (by simpa using h12)] at h
      split at h
      · rename_i h3
        simpa using h3
      · cases h
    have hc : l.comp = true := by
      unfold Lp.lit at h
      rw [if_neg (by simpa using h12), if_pos (by simpa using h34)] at h
      exact h
    unfold Lp.comp at hc
    simp only [Bool.and_eq_true, decide_eq_true_eq, List.all_eq_true] at hc
    obtain ⟨c1, c2, c3, c4⟩ := hc
    obtain ⟨a, b, hab⟩ := ctk_two c3
    rw [hab] at c4
    have hna := hn.args
    rw [hab] at hna
    have ga := tm_lx (c4 a (by simp)) (hna a (by simp))
    have gb := tm_lx (c4 b (by simp)) (hna b (by simp))
    have sa := hsz a (c4 a (by simp)) (hna a (by simp))
    have sb := hsz b (c4 b (by simp)) (hna b (by simp))
    have hla : (ltL l.q).args = [tmL a, tmL b] := by show l.args.map tmL = _; rw [hab]; rfl
    refine ⟨.inr ⟨by rw [hk]; exact h34, (tm0_iff _).2 c1, dl_nil.2 c2, tmL a, tmL b, hla, ga.2, gb.2⟩, ClauseS.lit_lx tvL reads_one (.inr ⟨by rw [hk]; exact h34, ?_, ?_⟩), ?_, ?_⟩
    · rw [hla]; exact ga.1
    · rw [hla]; exact gb.1
    · unfold ClauseS.litX Lp.litT
      rw [hk, hla, hab]
      rcases h34 with e | e
      · rw [e]
        show ClauseS.textTm tvL (tmL a) ++ ([32] ++ (ClauseS.wLess ++ ([32] ++ ClauseS.textTm tvL (tmL b)))) = ((a.txt ++ wdLessB) ++ b.txt).data.toList
        rw [dl_append, dl_append, tm_text, tm_text, List.append_assoc]
        rfl
      · rw [e]
        show ClauseS.textTm tvL (tmL a) ++ ([32] ++ (ClauseS.wUnlike ++ ([32] ++ ClauseS.textTm tvL (tmL b)))) = ((a.txt ++ wdUnlikeB) ++ b.txt).data.toList
        rw [dl_append, dl_append, tm_text, tm_text, List.append_assoc]
        rfl
    · unfold Lp.litT
      rw [hab]
      rcases h34 with e | e
      · rw [e, if_neg (by decide), if_pos rfl]
        show ((a.txt ++ wdLessB) ++ b.txt).size ≤ _
        simp only [ByteArray.size_append]
        have e1 : wdLessB.size = 3 := rfl
        omega
      · rw [e, if_neg (by decide), if_neg (by decide), if_pos rfl]
        show ((a.txt ++ wdUnlikeB) ++ b.txt).size ≤ _
        simp only [ByteArray.size_append]
        have e1 : wdUnlikeB.size = 4 := rfl
        omega
end Go.Proofs.YtfmkfabbiifolaaGreatDoor

/-
  Plain: what is written is read as it was.
-/
namespace Go.Proofs.YtfmkfabbiifolaaGreatDoor
open Go.RowKit

theorem map_inj {α β : Type} {f : α → β} (hf : ∀ a b, f a = f b → a = b) : ∀ {l m : List α}, l.map f = m.map f → l = m
  | [], [], _ => rfl
  | [], b :: m, h => by cases h
  | a :: l, [], h => by cases h
  | a :: l, b :: m, h => by
    rw [List.map_cons, List.map_cons] at h
    injection h with h1 h2
    rw [hf _ _ h1, map_inj hf h2]
theorem tmL_inj (a b : Tm) (h : tmL a = tmL b) : a = b := by
  obtain ⟨v, s, n⟩ := a
  obtain ⟨v', s', n'⟩ := b
  unfold tmL at h
  simp only [ClauseS.Tm.mk.injEq] at h
  rw [ba_ext h.1, ba_ext h.2.1, h.2.2]
theorem ltL_inj (a b : Lq) (h : ltL a = ltL b) : a = b := by
  obtain ⟨k, w, p, l⟩ := a
  obtain ⟨k', w', p', l'⟩ := b
  unfold ltL at h
  simp only [ClauseS.Lt.mk.injEq] at h
  rw [h.1, tmL_inj _ _ h.2.1, ba_ext h.2.2.1, map_inj tmL_inj h.2.2.2]
theorem clL_inj (a b : Cq) (h : clL a = clL b) : a = b := by
  obtain ⟨x, l⟩ := a
  obtain ⟨x', l'⟩ := b
  unfold clL at h
  simp only [ClauseS.Cl.mk.injEq] at h
  rw [ltL_inj _ _ h.1, map_inj ltL_inj h.2]
theorem ask_said {l : Lp} (h : l.ask = true) : l.kind = 1 ∧ l.said = true ∧ l.lit = true := by
  unfold Lp.ask at h
  rw [Bool.and_eq_true, beq_iff_eq] at h
  refine ⟨h.1, h.2, ?_⟩
  unfold Lp.lit
  rw [h.1]
  exact h.2
theorem saidT_lit {l : Lp} (h : l.kind = 1) : l.litT = l.saidT := by
  unfold Lp.litT
  rw [h, if_neg (by decide), if_neg (by decide), if_neg (by decide)]
/-- a literal that may be asked for is read as it was -/
theorem asked_back {l : Lp} (h : l.ask = true) (hn : l.Nb) : parseLitR l.saidT = .ok l.q := by
  obtain ⟨hk, hs, hl⟩ := ask_said h
  obtain ⟨g1, g2, g3, g4⟩ := good_said hs hn
  have hsz : l.saidT.size ≤ 200 := by
    have := (good_lit hl hn).2.2.2
    rwa [saidT_lit hk] at this
  have hx := ClauseS.said_lx tvL reads_one g2 g3 g4
  have hx2 : ClauseS.Lx oneX l.saidT.data.toList (ClauseS.tkSaid tvL (ltL l.q)) := by
    have := hx [] [] (by unfold stopX; rfl) ClauseS.Lx.nil
    rw [List.append_nil, List.append_nil, saidX_dl] at this
    exact this
  obtain ⟨e1, e2⟩ := kts_of hx2 (by omega)
  have ht := ClauseS.asked_tok rdL tvL l.saidT.size g1 (show (ltL l.q).kind = 1 from hk) _ e2
  have hw := whole_tie ltL l.saidT (allL l.saidT.data.toList).toks (ClauseS.saidS rdL l.saidT.size 1) (saidR l.saidT (allL l.saidT.data.toList).toks 1 0) (said_tie l.saidT _ 1 0)
  rw [ht] at hw
  unfold parseLitR
  rw [if_pos e1]
  cases hr : wholeR l.saidT (allL l.saidT.data.toList).toks (saidR l.saidT (allL l.saidT.data.toList).toks 1 0) with
  | error e => rw [hr] at hw; cases hw
  | ok x =>
    rw [hr] at hw
    injection hw with hw
    rw [ltL_inj _ _ hw]
theorem check_parts {c : Kp} (h : c.check = true) : c.body.length ≤ 6 ∧ c.head.who.none = true ∧ c.head.ask = true ∧ ∀ l ∈ c.body, l.lit = true := by
  unfold Kp.check at h
  simpa only [Bool.and_eq_true, decide_eq_true_eq, List.all_eq_true] using h
theorem clX_dl {c : Kp} (h : c.check = true) (hn : c.Nb) : ClauseS.clX tvL (clL c.q) = c.txt.data.toList := by
  obtain ⟨h1, h2, h3, h4⟩ := check_parts h
  have hh : c.head.saidT = argsT c.head.pred c.head.args := by unfold Lp.saidT; rw [if_pos h2]
  have hb : (clL c.q).body.map (ClauseS.litX tvL) = (c.body.map Lp.litT).map (·.data.toList) := by
    show ((c.body.map Lp.q).map ltL).map (ClauseS.litX tvL) = _
    rw [List.map_map, List.map_map, List.map_map]
    exact List.map_congr_left fun l hl => (good_lit (h4 l hl) (hn.body l hl)).2.2.1
  unfold ClauseS.clX Kp.txt
  rw [hb, ← joinX_dl]
  show ClauseS.atomX tvL c.head.pred.data.toList (c.head.args.map tmL) ++ ((if (clL c.q).body = [] then [] else _) ++ ClauseS.wDot) = _
  rw [atomX_dl, hh]
  cases hc : c.body with
  | nil =>
    rw [if_pos (show (clL c.q).body = [] by show (c.body.map Lp.q).map ltL = []; rw [hc]; rfl), if_pos (show ([] : List Lp).isEmpty = true from rfl), dl_append]
    rfl
  | cons x r =>
    rw [if_neg (show ¬ (clL c.q).body = [] by show ¬ (c.body.map Lp.q).map ltL = []; rw [hc]; simp), if_neg (show ¬ (x :: r).isEmpty = true by simp)]
    simp only [dl_append, List.append_assoc]
    rfl
theorem good_cl {c : Kp} (h : c.check = true) (hn : c.Nb) : ClauseS.GoodK rdL tvL (clL c.q) ∧ ClauseS.Lx oneX c.txt.data.toList (ClauseS.tkCl tvL (clL c.q)) ∧ c.txt.size ≤ 2000 := by
  obtain ⟨h1, h2, h3, h4⟩ := check_parts h
  obtain ⟨hk, hs, hl⟩ := ask_said h3
  obtain ⟨g1, g2, g3, g4⟩ := good_said hs hn.head
  have hb : ∀ x ∈ (clL c.q).body, ∃ l ∈ c.body, x = ltL l.q := by
    intro x hx
    obtain ⟨y, hy, rfl⟩ := List.mem_map.1 (show x ∈ (c.body.map Lp.q).map ltL from hx)
    obtain ⟨l, hl, rfl⟩ := List.mem_map.1 hy
    exact ⟨l, hl, rfl⟩
  refine ⟨⟨hk, (tm0_iff _).2 h2, g1, by show ((c.body.map Lp.q).map ltL).length ≤ 6; rw [List.length_map, List.length_map]; exact h1, fun x hx => ?_⟩, ?_, ?_⟩
  · obtain ⟨l, hl, rfl⟩ := hb x hx
    exact (good_lit (h4 l hl) (hn.body l hl)).1
  · rw [← clX_dl h hn]
    refine ClauseS.clause_lx tvL reads_one g3 g4 fun x hx => ?_
    obtain ⟨l, hl, rfl⟩ := hb x hx
    exact (good_lit (h4 l hl) (hn.body l hl)).2.1
  · have hsz : c.head.saidT.size ≤ 200 := by
      have := (good_lit hl hn.head).2.2.2
      rwa [saidT_lit hk] at this
    have hj := (joinB_size (c.body.map Lp.litT) 200 (fun x hx => by obtain ⟨l, hl, rfl⟩ := List.mem_map.1 hx; exact (good_lit (h4 l hl) (hn.body l hl)).2.2.2)).1
    rw [List.length_map] at hj
    have e1 : wdIfB.size = 4 := rfl
    have e2 : (⟨#[46]⟩ : ByteArray).size = 1 := rfl
    unfold Kp.txt
    split
    · simp only [ByteArray.size_append]; omega
    · simp only [ByteArray.size_append]; omega
/-- a clause that may be is read as it was -/
theorem clause_back {c : Kp} (h : c.check = true) (hn : c.Nb) : parseR c.txt = .ok c.q := by
  obtain ⟨g1, hx, hsz⟩ := good_cl h hn
  obtain ⟨e1, e2⟩ := kts_of hx (by omega)
  have ht := ClauseS.clause_tok rdL tvL c.txt.size g1 _ e2
  have hw := whole_tie clL c.txt (allL c.txt.data.toList).toks (ClauseS.clauseS rdL c.txt.size) (clauseR c.txt (allL c.txt.data.toList).toks 0) (clause_tie c.txt _ 0)
  rw [ht] at hw
  unfold parseR
  rw [if_pos e1]
  cases hr : wholeR c.txt (allL c.txt.data.toList).toks (clauseR c.txt (allL c.txt.data.toList).toks 0) with
  | error e => rw [hr] at hw; cases hw
  | ok x =>
    rw [hr] at hw
    injection hw with hw
    rw [clL_inj _ _ hw]
end Go.Proofs.YtfmkfabbiifolaaGreatDoor

/-
  Plain: what a request is written as; how large that is.
-/
set_option linter.unusedVariables false
set_option linter.unusedSimpArgs false
namespace Go.Proofs.YtfmkfabbiifolaaGreatDoor
open Go.RowKit

theorem islit_iff (l : Lp) : isLitB l = false ↔ l.q = lpZ.q := by
  obtain ⟨kd, ⟨v, s, n⟩, p, q, c, xs⟩ := l
  unfold isLitB lpZ tmZ Lp.q
  simp only [Bool.or_eq_false_iff, bne_eq_false_iff_eq, Bool.not_eq_false', Bool.and_eq_true, beq_iff_eq, decide_eq_false_iff_not, Lq.mk.injEq, Tm.mk.injEq]
  have he : ∀ x : ByteArray, x.toList.isEmpty = true ↔ x = ⟨#[]⟩ := fun x => by
    rw [← dl_nil]
    constructor
    · intro h; exact ba_ext (by rw [h])
    · rintro rfl; rfl
  rw [he, he, he]
  constructor
  · rintro ⟨h1, ⟨h2, h3, h4⟩, h5, h6⟩
    exact ⟨h1, ⟨h2, h3, h4⟩, h5, List.eq_nil_of_length_eq_zero (by omega)⟩
  · rintro ⟨h1, ⟨h2, h3, h4⟩, h5, rfl⟩
    exact ⟨h1, ⟨h2, h3, h4⟩, h5, by simp⟩
theorem sameL_zero (l : Lp) : sameL l lpZ = !isLitB l := by
  cases h : isLitB l with
  | false => exact sameL_iff.2 ((islit_iff l).1 h)
  | true =>
    cases h2 : sameL l lpZ with
    | false => rfl
    | true => rw [(islit_iff l).2 (sameL_iff.1 h2)] at h; cases h
theorem isclause_iff (k : Kp) : isClauseB k = false ↔ k.q = kpZ.q := by
  unfold isClauseB
  rw [Bool.or_eq_false_iff, islit_iff, decide_eq_false_iff_not]
  unfold Kp.q kpZ
  rw [Cq.mk.injEq]
  constructor
  · rintro ⟨h1, h2⟩
    exact ⟨h1, by rw [List.eq_nil_of_length_eq_zero (show k.body.length = 0 by omega)]⟩
  · rintro ⟨h1, h2⟩
    have h3 : k.body.length = 0 := by simpa using congrArg List.length h2
    exact ⟨h1, by omega⟩
theorem sameK_zero (k : Kp) : sameK k kpZ = !isClauseB k := by
  cases h : isClauseB k with
  | false => exact sameK_iff.2 ((isclause_iff k).1 h)
  | true =>
    cases h2 : sameK k kpZ with
    | false => rfl
    | true => rw [(isclause_iff k).2 (sameK_iff.1 h2)] at h; cases h
theorem sameK_self (k : Kp) : sameK k k = true := sameK_iff.2 rfl
theorem sameL_self (l : Lp) : sameL l l = true := sameL_iff.2 rfl
theorem dl_empty (x : ByteArray) : (x.toList == (⟨#[]⟩ : ByteArray).toList) = x.toList.isEmpty := by
  have e : (⟨#[]⟩ : ByteArray).toList = [] := by rw [ByteArray.toList_eq]
  rw [e]
  cases h : x.toList with
  | nil => rfl
  | cons a r => rfl

theorem claT_size (k : Kp) (hn : k.Nb) : (claT k).size ≤ 2000 := by
  unfold claT
  cases h : k.check with
  | true => exact (good_cl h hn).2.2
  | false => show (0 : Nat) ≤ 2000; omega
theorem askT_size (l : Lp) (hn : l.Nb) : (askT l).size ≤ 200 := by
  unfold askT
  cases h : l.ask with
  | true =>
    obtain ⟨hk, hs, hl⟩ := ask_said h
    have := (good_lit hl hn).2.2.2
    rwa [saidT_lit hk] at this
  | false => show (0 : Nat) ≤ 200; omega
theorem joinW3 (a b c : ByteArray) : joinW [a, b, c] = ((a ++ ⟨#[32]⟩ ++ b) ++ ⟨#[32]⟩) ++ c := ba_ext (by
  simp only [dl_append, joinW, Lib.join, List.map]
  simp)
theorem joinW5 (a b c d e : ByteArray) : joinW [a, b, c, d, e] = ((a ++ ⟨#[32]⟩ ++ b) ++ ⟨#[32]⟩) ++ (((c ++ ⟨#[32]⟩) ++ d) ++ ⟨#[32]⟩) ++ e := ba_ext (by
  simp only [dl_append, joinW, Lib.join, List.map]
  simp)
theorem joinW2 (a b : ByteArray) : joinW [a, b] = (a ++ ⟨#[32]⟩) ++ b := ba_ext (by
  simp only [dl_append, joinW, Lib.join, List.map]
  simp)
theorem joinW1 (a : ByteArray) : joinW [a] = a := ba_ext (by
  simp [joinW, Lib.join, List.intercalate])
/-- the words of a request -/
def wordsQ (kd : Int) (lb : ByteArray) (lf : Int) (cl : Kp) (no : Int) (lp : Lp) : List ByteArray :=
  if kd = 1 then (if 0 < lf then [wdAssert, lb, wdFor, itoaS lf, claT cl] else [wdAssert, lb, claT cl])
  else if kd = 2 then [wdRevoke, itoaS no]
  else if kd = 3 then [wdQuery, askT lp]
  else if kd = 4 then [wdProve, askT lp]
  else [wdAudit]
def outQ (kd : Int) (lb : ByteArray) (lf : Int) (cl : Kp) (no : Int) (lp : Lp) : ByteArray := joinW (wordsQ kd lb lf cl no lp)
/-- what Print answers -/
def printV (kd : Int) (lb : ByteArray) (lf : Int) (cl : Kp) (no : Int) (lp : Lp) : Value :=
  if checkB kd lb lf cl no lp = true then (if 4096 < (outQ kd lb lf cl no lp).size then .tuple #[.string ⟨#[]⟩, .int .i64 2] else .tuple #[.string (outQ kd lb lf cl no lp), .int .i64 0]) else .tuple #[.string ⟨#[]⟩, .int .i64 1]
theorem words_len (kd : Int) (lb : ByteArray) (lf : Int) (cl : Kp) (no : Int) (lp : Lp) : 0 < (wordsQ kd lb lf cl no lp).length ∧ (wordsQ kd lb lf cl no lp).length ≤ 1000 := by
  unfold wordsQ
  split
  · split <;> exact ⟨by simp, by simp⟩
  · split
    · exact ⟨by simp, by simp⟩
    · split
      · exact ⟨by simp, by simp⟩
      · split <;> exact ⟨by simp, by simp⟩
section
variable {kd : Int} {lb : ByteArray} {lf : Int} {cl : Kp} {no : Int} {lp : Lp} {w : World}
theorem out_size (h : RqArg kd lb lf cl no lp w) : (outQ kd lb lf cl no lp).size ≤ lb.size + 2100 := by
  have h1 := claT_size cl h.cl.nb
  have h2 := askT_size lp h.lp.nb
  have h3 := itoa_size lf h.lf.1 h.lf.2
  have h4 := itoa_size no h.no.1 h.no.2
  have e1 : wdAssert.size = 6 := rfl
  have e2 : wdFor.size = 3 := rfl
  have e3 : wdRevoke.size = 6 := rfl
  have e4 : wdQuery.size = 5 := rfl
  have e5 : wdProve.size = 5 := rfl
  have e6 : wdAudit.size = 5 := rfl
  have e7 : (⟨#[32]⟩ : ByteArray).size = 1 := rfl
  unfold outQ wordsQ
  split
  · split
    · rw [joinW5]; simp only [ByteArray.size_append]; omega
    · rw [joinW3]; simp only [ByteArray.size_append]; omega
  · split
    · rw [joinW2]; simp only [ByteArray.size_append]; omega
    · split
      · rw [joinW2]; simp only [ByteArray.size_append]; omega
      · split
        · rw [joinW2]; simp only [ByteArray.size_append]; omega
        · rw [joinW1]; omega
/-- request.Print of any request that came in -/
theorem reqprint_arg (h : RqArg kd lb lf cl no lp w) (he : Env w) :
    Calls Tryz.prog 11 #[.agg (rqC kd lb lf cl no lp)] w fun e w' => e = .returned (printV kd lb lf cl no lp) ∧ Below w.heap.size w w' := by
  have hs := out_size h
  have hl := h.lb
  refine reqprint_any kd lb lf cl no lp w (wordsQ kd lb lf cl no lp) (by unfold maxLen; omega) h.cl.kin h.lp.isin he (fun hc X hX => ?_) (words_len _ _ _ _ _ _).1 (words_len _ _ _ _ _ _).2 (by show (outQ kd lb lf cl no lp).size ≤ _; omega)
  have hcx := h.cl.kin.grow hX
  have hlx := h.lp.isin.grow hX
  have hex := he.on hX
  unfold wordsQ
  split
  · rename_i h1
    subst h1
    split
    · rename_i h0
      exact words_assf lb lf cl no lp X h0 h.lf.2 hcx h.cl.nb hex
    · rename_i h0
      exact words_ass0 lb lf cl no lp X (by omega) hcx h.cl.nb hex
  · split
    · rename_i h1 h2
      subst h2
      exact words_rev lb lf cl no lp X h.no.1 h.no.2 hex
    · split
      · rename_i h1 h2 h3
        subst h3
        exact words_query lb lf cl no lp X hlx h.lp.nb hex
      · split
        · rename_i h1 h2 h3 h4
          subst h4
          exact words_prove lb lf cl no lp X hlx h.lp.nb hex
        · rename_i h1 h2 h3 h4
          by_cases h5 : kd = 5
          · subst h5
            exact words_aud lb lf cl no lp X
          · unfold checkB at hc
            rw [if_neg h1, if_neg h2, if_neg (by omega), if_neg h5] at hc
            cases hc
theorem reqcheck_arg (h : RqArg kd lb lf cl no lp w) (he : Env w) :
    Calls Tryz.prog 14 #[.agg (rqC kd lb lf cl no lp)] w fun e w' => e = .returned (.bool (checkB kd lb lf cl no lp)) ∧ Below w.heap.size w w' := by
  have hl := h.lb
  exact reqcheck_any kd lb lf cl no lp w (by unfold maxLen; omega) h.cl.kin h.lp.isin he
end
end Go.Proofs.YtfmkfabbiifolaaGreatDoor

/-
  The reference's Copy: what its loop keeps.
-/
namespace Go.Proofs.YtfmkfabbiifolaaGreatDoor
open Go.RowKit

/-- The literals that were copied lie in a row of the call's own, which the new clause's block holds. -/
structure CJ (w1 : World) (B cb : Nat) (a0 a1 a2 a3 a4 a5 : Value) (acc : List Lp) (w : World) : Prop where
  io : w.os = w1.os ∧ w.tape = w1.tape ∧ w.output = w1.output
  old : ∀ g, g < B → g ≠ cb → w.heap[g]? = w1.heap[g]?
  own : ∃ v, Bk w cb 31 #[a0, a1, a2, a3, a4, a5, v] ∧ w.ownsRow B 28 6 v acc.length (flatE encL acc) ∧ ∀ l ∈ acc, Far w B v.ownBlock l
  hcb : cb < B
  hi : B ≤ w.heap.size
section
variable {w1 : World} {B cb : Nat} {a0 a1 a2 a3 a4 a5 : Value} {acc : List Lp} {w : World}
theorem CJ.on {w' : World} (h : CJ w1 B cb a0 a1 a2 a3 a4 a5 acc w) (hb : Below w.heap.size w w') : CJ w1 B cb a0 a1 a2 a3 a4 a5 acc w' := by
  obtain ⟨v, h1, h2, h3⟩ := h.own
  have hi := h.hi
  exact ⟨⟨hb.os.trans h.io.1, hb.tape.trans h.io.2.1, hb.output.trans h.io.2.2⟩, fun g hg x => (hb.block g (by omega)).trans (h.old g hg x), ⟨v, h1.on hb, own_below h2 hb, fun l hl => (h3 l hl).keep hb.size fun b _ hlt hne => ⟨hb.block b hlt, hne⟩⟩, h.hcb, Nat.le_trans h.hi hb.size⟩
theorem CJ.value (h : CJ w1 B cb a0 a1 a2 a3 a4 a5 acc w) {v : Value} (hb : Bk w cb 31 #[a0, a1, a2, a3, a4, a5, v]) :
    w.ownsRow B 28 6 v acc.length (flatE encL acc) ∧ ∀ l ∈ acc, Far w B v.ownBlock l := by
  obtain ⟨v2, h1, h2, h3⟩ := h.own
  have e2 : v2 = v := by
    have e := h1.cell 6 _ rfl
    rw [hb.cell 6 _ rfl] at e
    injection e with e; exact e.symm
  subst e2
  exact ⟨h2, h3⟩
/-- a block of before that is not the clause's -/
theorem CJ.keeps {b : Nat} {T : TypeId} {cs : Array Value} (h : CJ w1 B cb a0 a1 a2 a3 a4 a5 acc w) (hb : Bk w1 b T cs) (h1 : b < B) (h2 : b ≠ cb) : Bk w b T cs := (h.old b h1 h2).trans hb
end
theorem CJ.push {w1 : World} {B cb : Nat} {a0 a1 a2 a3 a4 a5 : Value} {acc : List Lp} {w6 w7 : World} {l : Lp} {g cap : Nat} {v : Value}
    (h : CJ w1 B cb a0 a1 a2 a3 a4 a5 acc w6) (hv : Bk w6 cb 31 #[a0, a1, a2, a3, a4, a5, v]) (hf : ∀ x ∈ acc, Far w6 B v.ownBlock x) (hr : w6.ownsRow B 28 6 v acc.length (flatE encL acc)) (hl : Far w6 B v.ownBlock l)
    (ho : w7.ownsRow B 28 6 (.slice (some ⟨g, 0, none⟩) (acc.length + 1) cap) (acc.length + 1) (flatE encL acc ++ encL l)) (hg : w6.grownBy w7 v.ownBlock) (hat : v.ownBlock = some g ∨ g = w6.heap.size) :
    CJ w1 B cb a0 a1 a2 a3 a4 a5 (acc ++ [l]) (w7.setCell ⟨cb, 6, none⟩ (.slice (some ⟨g, 0, none⟩) (acc.length + 1) cap)) ∧ w7.cell? ⟨cb, 6, none⟩ = some v ∧ w7.frozen? ⟨cb, 6, none⟩ = false := by
  have h1 := h.hcb
  have h6 := h.hi
  have hb : Below B w6 w7 := (Below.refl B w6).grown hg h6 (fun k hk => (hr.lt k hk).1)
  have hb7 : Bk w7 cb 31 #[a0, a1, a2, a3, a4, a5, v] := hv.below hb h1
  have hs : Below 0 w7 (w7.setCell ⟨cb, 6, none⟩ (.slice (some ⟨g, 0, none⟩) (acc.length + 1) cap)) := setB (Nat.zero_le _) 6 _
  have hkeep : ∀ b, B ≤ b → b < w6.heap.size → v.ownBlock ≠ some b → (w7.setCell ⟨cb, 6, none⟩ (.slice (some ⟨g, 0, none⟩) (acc.length + 1) cap)).heap[b]? = w6.heap[b]? ∧ (Value.slice (some ⟨g, 0, none⟩) (acc.length + 1) cap).ownBlock ≠ some b := by
    intro b hB hlt hne
    refine ⟨(Below.heap_setCell w7 ⟨cb, 6, none⟩ _ b (by show b ≠ cb; omega)).trans (hg.block b hlt (fun e => hne e.symm)), ?_⟩
    show some g ≠ some b
    rcases hat with e | e
    · rw [← e]; exact hne
    · intro e'; injection e' with e'; omega
  refine ⟨⟨⟨(hs.os.trans hb.os).trans h.io.1, (hs.tape.trans hb.tape).trans h.io.2.1, (hs.output.trans hb.output).trans h.io.2.2⟩, fun i hi y => (Below.heap_setCell w7 ⟨cb, 6, none⟩ _ i (by show i ≠ cb; exact y)).trans ((hb.block i hi).trans (h.old i hi y)), ⟨_, hb7.set 6 _, ?_, ?_⟩, h.hcb, Nat.le_trans h.hi (Nat.le_trans hb.size hs.size)⟩, hb7.cell 6 _ rfl, hb7.soft 6⟩
  · rw [List.length_append, flatE_snoc]
    exact ownsRow_setCell_below ho (a := ⟨cb, 6, none⟩) h1 _
  · intro x hx
    have hsz : w6.heap.size ≤ (w7.setCell ⟨cb, 6, none⟩ (.slice (some ⟨g, 0, none⟩) (acc.length + 1) cap)).heap.size := Nat.le_trans hb.size hs.size
    rcases List.mem_append.1 hx with hx | hx
    · exact (hf x hx).keep hsz hkeep
    · rw [List.mem_singleton.1 hx]; exact hl.keep hsz hkeep
/-- the copy once it is whole -/
theorem CJ.mem {w1 : World} {cb : Nat} {a0 a1 a2 a3 a4 a5 : Value} {acc : List Lp} {w : World} {hq : Option Addr} {l : List Tm}
    (h : CJ w1 w1.heap.size cb a0 a1 a2 a3 a4 a5 acc w) (ht : Tms w1 cb hq l) :
    Tms w w.heap.size hq l ∧ ∃ q' c', Bk w cb 31 #[a0, a1, a2, a3, a4, a5, .slice q' acc.length c'] ∧ Rd encL 6 w w.heap.size q' acc ∧ (∀ x ∈ acc, Tms w w.heap.size x.ptr x.args) ∧ (∀ b, q' = some b → w1.heap.size ≤ b.block) ∧ (∀ x ∈ acc, x.args = [] ∨ ∀ b, x.ptr = some b → w1.heap.size ≤ b.block) := by
  obtain ⟨v, hv, hown, hfar⟩ := h.own
  obtain ⟨q', c', rfl, hrd, _⟩ := grw_form EL (.inr hown) h.hi
  refine ⟨?_, q', c', hv, hrd, fun x hx => (hfar x hx).rd, own_fresh hown, fun x hx => ?_⟩
  · rcases ht with h1 | ⟨b, off, h1, h2, h3⟩
    · exact .inl h1
    · exact .inr ⟨b, off, h1, Nat.lt_of_lt_of_le h2 (Nat.le_trans (Nat.le_of_lt h.hcb) h.hi), fun i hi r u hu => (show w.cell? ⟨b, off + i * 3 + r, none⟩ = w1.cell? ⟨b, off + i * 3 + r, none⟩ from World.cell?_of_block (w := w1) (h.old b (Nat.lt_trans h2 h.hcb) (Nat.ne_of_lt h2))).trans (h3 i hi r u hu)⟩
  · rcases hfar x hx with h1 | ⟨b, off, h1, h2, _⟩
    · exact .inl h1
    · exact .inr fun b' hb' => by rw [h1] at hb'; cases hb'; exact h2
theorem CJ.belowAt {w0 w1 : World} {cb : Nat} {a0 a1 a2 a3 a4 a5 : Value} {acc : List Lp} {w : World} (h : CJ w1 w1.heap.size cb a0 a1 a2 a3 a4 a5 acc w) (hw : Below w0.heap.size w0 w1) (h2 : w0.heap.size ≤ cb) : Below w0.heap.size w0 w :=
  ⟨h.io.1.trans hw.os, h.io.2.1.trans hw.tape, h.io.2.2.trans hw.output, Nat.le_trans hw.size h.hi, fun k hk => (h.old k (Nat.lt_of_lt_of_le hk hw.size) (by omega)).trans (hw.block k hk)⟩
end Go.Proofs.YtfmkfabbiifolaaGreatDoor
