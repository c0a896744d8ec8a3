/-
  Joined of: Rbk.
-/
import Derived.Test.YtfmkfabbiifolaaGreatDoorJe06
import Derived.Test.YtfmkfabbiifolaaGreatDoorJg01
set_option linter.unusedVariables false
set_option linter.unusedSimpArgs false
/-
  Plain: what a request is written as is read as it was; what is read may be written.
-/
set_option linter.unusedVariables false
set_option linter.unusedSimpArgs false
namespace Go.Proofs.YtfmkfabbiifolaaGreatDoor
open Go.RowKit

def toksL (s : ByteArray) : List Tok := (allL s.data.toList).toks
def errL (s : ByteArray) : Int := (allL s.data.toList).err
theorem tok_in {s : ByteArray} (h : errL s = 0) {k : Nat} {t : Tok} (ht : (toksL s)[k]? = some t) : ∃ p q : Nat, t.fr = p ∧ t.to = q ∧ p < q ∧ q ≤ s.size := by
  have hc := chain_all s.data.toList h
  exact chain_bd _ _ 0 hc t (List.mem_of_getElem? ht)
/-- the tokens of a text that is made of tokens, one by one -/
theorem kts_at {s : ByteArray} {ks : List ClauseS.KT} (h : ClauseS.Lx oneX s.data.toList ks) (hl : s.size ≤ 4096) :
    errL s = 0 ∧ (toksL s).length = ks.length ∧ ∀ i k w, ks[i]? = some (k, w) → kindAt (toksL s) i = k ∧ (textAt s (toksL s) i).data.toList = w := by
  obtain ⟨h1, h2⟩ := kts_of h hl
  refine ⟨h1, ?_, fun i k w hi => ?_⟩
  · have := congrArg List.length h2
    rw [List.length_map] at this
    unfold txs at this
    rw [List.length_map] at this
    exact this
  · rw [← h2, List.getElem?_map, txs_get] at hi
    unfold kindAt textAt toksL
    cases ht : (allL s.data.toList).toks[i]? with
    | none => rw [ht] at hi; cases hi
    | some t =>
      rw [ht] at hi
      injection hi with hi
      have e1 := congrArg Prod.fst hi
      have e2 := congrArg Prod.snd hi
      exact ⟨e1, e2⟩
section
variable {A B : ByteArray}
theorem dl_join (A B : ByteArray) : ((A ++ ⟨#[32]⟩) ++ B).data.toList = A.data.toList ++ 32 :: B.data.toList := by
  rw [dl_append, dl_append, List.append_assoc]
  rfl
theorem split_toks (h : A.size + 1 + B.size ≤ 4096) (ha : errL A = 0) (hb : errL B = 0) :
    errL ((A ++ ⟨#[32]⟩) ++ B) = 0 ∧ toksL ((A ++ ⟨#[32]⟩) ++ B) = toksL A ++ (toksL B).map (shT (A.size + 1)) := by
  unfold errL toksL
  rw [dl_join]
  exact (join_all A.data.toList B.data.toList h).2.2 ha hb
theorem left_text (ha : errL A = 0) (r : List Tok) (k : Nat) (hk : k < (toksL A).length) : textAt ((A ++ ⟨#[32]⟩) ++ B) (toksL A ++ r) k = textAt A (toksL A) k ∧ kindAt (toksL A ++ r) k = kindAt (toksL A) k := by
  unfold textAt kindAt
  rw [List.getElem?_append_left hk]
  refine ⟨?_, rfl⟩
  cases ht : (toksL A)[k]? with
  | none => rfl
  | some t =>
    obtain ⟨p, q, h1, h2, h3, h4⟩ := tok_in ha ht
    refine ba_ext ?_
    show (((A ++ ⟨#[32]⟩) ++ B).extract t.fr.toNat t.to.toNat).data.toList = (A.extract t.fr.toNat t.to.toNat).data.toList
    have hz : A.data.toList.length = A.size := rfl
    rw [h1, h2, extract_list, extract_list, dl_join, Int.toNat_natCast, Int.toNat_natCast, List.drop_append_of_le_length (by omega), List.take_append_of_le_length (by rw [List.length_drop]; omega)]
theorem right_text (hb : errL B = 0) (j : Nat) : textAt ((A ++ ⟨#[32]⟩) ++ B) (toksL A ++ (toksL B).map (shT (A.size + 1))) ((toksL A).length + j) = textAt B (toksL B) j ∧ kindAt (toksL A ++ (toksL B).map (shT (A.size + 1))) ((toksL A).length + j) = kindAt (toksL B) j := by
  unfold textAt kindAt
  rw [List.getElem?_append_right (by omega), Nat.add_sub_cancel_left, List.getElem?_map]
  cases ht : (toksL B)[j]? with
  | none => exact ⟨rfl, rfl⟩
  | some t =>
    obtain ⟨p, q, h1, h2, h3, h4⟩ := tok_in hb ht
    refine ⟨ba_ext ?_, rfl⟩
    show (((A ++ ⟨#[32]⟩) ++ B).extract (t.fr + ((A.size + 1 : Nat) : Int)).toNat (t.to + ((A.size + 1 : Nat) : Int)).toNat).data.toList = (B.extract t.fr.toNat t.to.toNat).data.toList
    have hz : A.data.toList.length = A.size := rfl
    rw [h1, h2, extract_list, extract_list, dl_join]
    have e1 : ((p : Int) + ((A.size + 1 : Nat) : Int)).toNat = A.size + 1 + p := by omega
    have e2 : ((q : Int) + ((A.size + 1 : Nat) : Int)).toNat = A.size + 1 + q := by omega
    rw [e1, e2, Int.toNat_natCast, Int.toNat_natCast, List.drop_append, List.drop_eq_nil_of_le (by omega), List.nil_append, hz, show A.size + 1 + p - A.size = p + 1 by omega, List.drop_succ_cons, show A.size + 1 + q - (A.size + 1 + p) = q - p by omega]
theorem right_place (hn : 0 < (toksL B).length) : placeAt ((A ++ ⟨#[32]⟩) ++ B) (toksL A ++ (toksL B).map (shT (A.size + 1))) (toksL A).length = A.size + 1 + placeAt B (toksL B) 0 := by
  unfold placeAt
  rw [List.getElem?_append_right (by omega), Nat.sub_self, List.getElem?_map, List.getElem?_eq_getElem hn]
  show (toksL B)[0].fr + ((A.size + 1 : Nat) : Int) = _
  push_cast
  omega
theorem join_tail : tailS ((A ++ ⟨#[32]⟩) ++ B) (A.size + 1) = B := by
  refine ba_ext ?_
  unfold tailS
  have hz : A.data.toList.length = A.size := rfl
  have hy : B.data.toList.length = B.size := rfl
  have e1 : ((A.size : Int) + 1).toNat = A.size + 1 := by omega
  rw [extract_list, dl_join, e1, ByteArray.size_append, ByteArray.size_append, show (⟨#[32]⟩ : ByteArray).size = 1 from rfl, List.drop_append, List.drop_eq_nil_of_le (by omega), List.nil_append, hz, show A.size + 1 - A.size = 1 by omega]
  show List.take _ (B.data.toList) = _
  rw [List.take_of_length_le (by omega)]
/-- a text that begins with no blank begins with a token -/
def BegB (B : ByteArray) : Prop := ∃ c r, B.data.toList = c :: r ∧ c.toNat ≠ 32 ∧ c.toNat ≠ 9
theorem first0 (hb : errL B = 0) (hf : BegB B) : 0 < (toksL B).length ∧ placeAt B (toksL B) 0 = 0 := by
  obtain ⟨c, r, hl, h1, h2⟩ := hf
  unfold errL at hb
  unfold placeAt toksL
  rw [hl] at hb ⊢
  have h4 : (oneL (c :: r)).err ≠ 4 := fun e => by rcases one_four c r e with h | h <;> contradiction
  unfold allL at hb ⊢
  split at hb
  · cases hb
  · rename_i hn
    rw [if_neg hn]
    rw [show (c :: r).length = r.length + 1 from rfl] at hb ⊢
    rw [allF, if_neg h4] at hb ⊢
    split at hb
    · rename_i h0
      rw [if_pos h0]
      generalize allF r.length _ _ = X at *
      unfold Toks.put at hb ⊢
      split at hb
      · rename_i hx
        rw [if_pos hx]
        exact ⟨by simp, rfl⟩
      · rename_i hx
        exact absurd hb hx
    · rename_i h0
      exact absurd hb h0
end

/-! Words. -/
def Wd (k : Int) (w : List UInt8) : Prop := w ≠ [] ∧ ∀ r, stopX r → oneX (w ++ r) = (0, k, w.length)
theorem wd_name {p : ByteArray} (h : nameB p = true) : Wd 1 p.data.toList := (name_lx h).1
theorem wd_num {n : Int} (h0 : -9223372036854775808 ≤ n) (h1 : n ≤ 9223372036854775807) : Wd 3 (itoaS n).data.toList := ⟨(num_lx n h0 h1).1, (num_lx n h0 h1).2.1⟩
theorem lx_last {k : Int} {w : List UInt8} (h : Wd k w) : ClauseS.Lx oneX w [(k, w)] := by
  have := ClauseS.Lx.tok (one := oneX) (r := []) h.1 (h.2 [] rfl) ClauseS.Lx.nil
  rwa [List.append_nil] at this
theorem lx_word {k : Int} {w r : List UInt8} {ks : List ClauseS.KT} (h : Wd k w) (hr : ClauseS.Lx oneX r ks) : ClauseS.Lx oneX (w ++ 32 :: r) ((k, w) :: ks) :=
  ClauseS.Lx.tok h.1 (h.2 _ rfl) (ClauseS.Lx.blank rfl hr)
theorem wd_begins {k : Int} {w r : List UInt8} {B : ByteArray} (h : Wd k w) (hB : B.data.toList = w ++ r) : BegB B := by
  obtain ⟨h1, h2⟩ := h
  cases w with
  | nil => exact absurd rfl h1
  | cons c w =>
    refine ⟨c, w ++ r, hB, fun e => ?_, fun e => ?_⟩
    all_goals
      have := h2 [] rfl
      rw [List.append_nil] at this
      have h3 := (oneX_iff this).1
      rw [oneL_blank c w (by unfold Blk; rw [e]; rfl)] at h3
      cases h3
theorem nm_assert : nameB wdAssert = true := by kernel_rfl
theorem nm_for : nameB wdFor = true := by kernel_rfl
theorem nm_revoke : nameB wdRevoke = true := by kernel_rfl
theorem nm_query : nameB wdQuery = true := by kernel_rfl
theorem nm_prove : nameB wdProve = true := by kernel_rfl
theorem nm_audit : nameB wdAudit = true := by kernel_rfl
theorem text_is {s : ByteArray} {ts : List Tok} {k : Nat} {x : ByteArray} (h : (textAt s ts k).data.toList = x.data.toList) : textAt s ts k = x := ba_ext h
theorem numR_itoa {n : Int} (h0 : 1 ≤ n) (h1 : n ≤ 1099511627776) : numR (itoaS n) = n := by
  have e : readP (itoaS n) = (⟨#[]⟩, n) := by
    unfold readP
    rw [name_itoa, readN_itoa n (by omega) (by omega)]
    rfl
  unfold numR
  rw [e, if_pos ⟨h0, h1⟩]
theorem parse_err {s : ByteArray} {x : Cq} (h : parseR s = .ok x) : errL s = 0 := by
  unfold parseR at h
  split at h
  · assumption
  · cases h
theorem parseLit_err {s : ByteArray} {x : Lq} (h : parseLitR s = .ok x) : errL s = 0 := by
  unfold parseLitR at h
  split at h
  · assumption
  · cases h
theorem reqR_of {s : ByteArray} (h : errL s = 0) : reqR s = reqT s (toksL s) := by
  unfold reqR
  exact if_pos h

/-! What is written is read. -/
theorem back_for {lb C : ByteArray} {lf : Int} {x : Cq} (hn : nameB lb = true) (h0 : 1 ≤ lf) (h1 : lf ≤ 1099511627776) (hp : parseR C = .ok x) (hb : BegB C) (hz : C.size ≤ 2000) :
    reqR (joinW [wdAssert, lb, wdFor, itoaS lf, C]) = .ok (.ass lb lf x) := by
  have e : joinW [wdAssert, lb, wdFor, itoaS lf, C] = (joinW [wdAssert, lb, wdFor, itoaS lf] ++ ⟨#[32]⟩) ++ C := ba_ext (by
    simp only [dl_append, joinW, Lib.join, List.map]
    simp)
  have hA : (joinW [wdAssert, lb, wdFor, itoaS lf]).data.toList = wdAssert.data.toList ++ 32 :: (lb.data.toList ++ 32 :: (wdFor.data.toList ++ 32 :: (itoaS lf).data.toList)) := by
    simp only [dl_append, joinW, Lib.join, List.map]
    simp
  have hl := name_size hn
  have hd := itoa_size lf (by omega) (by omega)
  have hAz : (joinW [wdAssert, lb, wdFor, itoaS lf]).size = 6 + 1 + lb.size + 1 + 3 + 1 + (itoaS lf).size := by
    show (joinW [wdAssert, lb, wdFor, itoaS lf]).data.toList.length = _
    rw [hA]
    simp only [List.length_append, List.length_cons]
    show 6 + (lb.size + (3 + ((itoaS lf).size + 1) + 1) + 1) = _
    omega
  have hx : ClauseS.Lx oneX (joinW [wdAssert, lb, wdFor, itoaS lf]).data.toList [(1, wdAssert.data.toList), (1, lb.data.toList), (1, wdFor.data.toList), (3, (itoaS lf).data.toList)] := by
    rw [hA]
    exact lx_word (wd_name nm_assert) (lx_word (wd_name hn) (lx_word (wd_name nm_for) (lx_last (wd_num (by omega) (by omega)))))
  rw [e]
  generalize joinW [wdAssert, lb, wdFor, itoaS lf] = A at *
  obtain ⟨ha, hlen, hat⟩ := kts_at hx (by omega)
  have hce := parse_err hp
  obtain ⟨hs, ht⟩ := split_toks (A := A) (B := C) (by omega) ha hce
  obtain ⟨f1, f2⟩ := first0 hce hb
  have hpl := right_place (A := A) f1
  have L := fun k hk => left_text (B := C) ha ((toksL C).map (shT (A.size + 1))) k hk
  have hlen' : (toksL A).length = 4 := hlen
  rw [hlen'] at L hpl
  rw [reqR_of hs, ht]
  have t0 := text_is ((hat 0 _ _ rfl).2)
  have t1 := text_is ((hat 1 _ _ rfl).2)
  have t2 := text_is ((hat 2 _ _ rfl).2)
  have t3 := text_is ((hat 3 _ _ rfl).2)
  unfold reqT assR
  rw [(L 0 (by omega)).1, (L 1 (by omega)).1, (L 1 (by omega)).2, (L 2 (by omega)).1, (L 3 (by omega)).1, (L 3 (by omega)).2, t0, t1, t2, t3, (hat 1 _ _ rfl).1, (hat 3 _ _ rfl).1, if_pos rfl, if_neg (by decide), if_pos ⟨rfl, rfl⟩, numR_itoa h0 h1, if_neg (by omega), hpl, f2]
  unfold restC
  rw [show (A.size : Int) + 1 + 0 = A.size + 1 by omega, join_tail, hp]
theorem back_ass {lb C : ByteArray} {x : Cq} (hn : nameB lb = true) (hp : parseR C = .ok x) (hb : BegB C) (hz : C.size ≤ 2000) (hk : kindAt (toksL C) 1 = 4) :
    reqR (joinW [wdAssert, lb, C]) = .ok (.ass lb 0 x) := by
  have e : joinW [wdAssert, lb, C] = (joinW [wdAssert, lb] ++ ⟨#[32]⟩) ++ C := ba_ext (by
    simp only [dl_append, joinW, Lib.join, List.map]
    simp)
  have hA : (joinW [wdAssert, lb]).data.toList = wdAssert.data.toList ++ 32 :: lb.data.toList := by
    simp only [dl_append, joinW, Lib.join, List.map]
    simp
  have hl := name_size hn
  have hAz : (joinW [wdAssert, lb]).size = 6 + 1 + lb.size := by
    show (joinW [wdAssert, lb]).data.toList.length = _
    rw [hA]
    simp only [List.length_append, List.length_cons]
    show 6 + (lb.size + 1) = _
    omega
  have hx : ClauseS.Lx oneX (joinW [wdAssert, lb]).data.toList [(1, wdAssert.data.toList), (1, lb.data.toList)] := by
    rw [hA]
    exact lx_word (wd_name nm_assert) (lx_last (wd_name hn))
  rw [e]
  generalize joinW [wdAssert, lb] = A at *
  obtain ⟨ha, hlen, hat⟩ := kts_at hx (by omega)
  have hce := parse_err hp
  obtain ⟨hs, ht⟩ := split_toks (A := A) (B := C) (by omega) ha hce
  obtain ⟨f1, f2⟩ := first0 hce hb
  have hpl := right_place (A := A) f1
  have L := fun k hk => left_text (B := C) ha ((toksL C).map (shT (A.size + 1))) k hk
  have R1 := (right_text (A := A) hce 1).2
  have hlen' : (toksL A).length = 2 := hlen
  rw [hlen'] at L hpl R1
  rw [reqR_of hs, ht]
  have t0 := text_is ((hat 0 _ _ rfl).2)
  have t1 := text_is ((hat 1 _ _ rfl).2)
  have hno : ¬ kindAt (toksL A ++ (toksL C).map (shT (A.size + 1))) 3 = 3 := by
    rw [show (3 : Nat) = 2 + 1 from rfl, R1, hk]
    decide
  unfold reqT assR
  rw [(L 0 (by omega)).1, (L 1 (by omega)).1, (L 1 (by omega)).2, t0, t1, (hat 1 _ _ rfl).1, if_pos rfl, if_neg (by decide), if_neg (fun h => hno h.2), hpl, f2]
  unfold restC
  rw [show (A.size : Int) + 1 + 0 = A.size + 1 by omega, join_tail, hp]
theorem back_rev {n : Int} (h0 : 1 ≤ n) (h1 : n ≤ 1099511627776) : reqR (joinW [wdRevoke, itoaS n]) = .ok (.rev n) := by
  have hA : (joinW [wdRevoke, itoaS n]).data.toList = wdRevoke.data.toList ++ 32 :: (itoaS n).data.toList := by
    simp only [dl_append, joinW, Lib.join, List.map]
    simp
  have hd := itoa_size n (by omega) (by omega)
  have hAz : (joinW [wdRevoke, itoaS n]).size = 6 + 1 + (itoaS n).size := by
    show (joinW [wdRevoke, itoaS n]).data.toList.length = _
    rw [hA]
    simp only [List.length_append, List.length_cons]
    show 6 + ((itoaS n).size + 1) = _
    omega
  have hx : ClauseS.Lx oneX (joinW [wdRevoke, itoaS n]).data.toList [(1, wdRevoke.data.toList), (3, (itoaS n).data.toList)] := by
    rw [hA]
    exact lx_word (wd_name nm_revoke) (lx_last (wd_num (by omega) (by omega)))
  generalize joinW [wdRevoke, itoaS n] = A at *
  obtain ⟨ha, hlen, hat⟩ := kts_at hx (by omega)
  have hlen' : (toksL A).length = 2 := hlen
  rw [reqR_of ha]
  have t0 := text_is ((hat 0 _ _ rfl).2)
  have t1 := text_is ((hat 1 _ _ rfl).2)
  unfold reqT revR
  rw [t0, t1, if_neg (by decide), if_pos rfl, numR_itoa h0 h1, if_neg (by omega), if_neg (by omega)]
theorem back_aud : reqR (joinW [wdAudit]) = .ok .aud := by kernel_rfl
theorem back_ask {w C : ByteArray} {kd : Int} {x : Lq} (hk : (kd = 3 ∧ w = wdQuery) ∨ (kd = 4 ∧ w = wdProve)) (hp : parseLitR C = .ok x) (hb : BegB C) (hz : C.size ≤ 200) :
    reqR (joinW [w, C]) = .ok (.ask kd x) := by
  have hw : nameB w = true := by
    rcases hk with ⟨_, rfl⟩ | ⟨_, rfl⟩
    · exact nm_query
    · exact nm_prove
  have hws := name_size hw
  rw [joinW2]
  obtain ⟨ha, hlen, hat⟩ := kts_at (lx_last (wd_name hw)) (by omega)
  have hce := parseLit_err hp
  obtain ⟨hs, ht⟩ := split_toks (A := w) (B := C) (by omega) ha hce
  obtain ⟨f1, f2⟩ := first0 hce hb
  have hpl := right_place (A := w) f1
  have L := fun k hk => left_text (B := C) ha ((toksL C).map (shT (w.size + 1))) k hk
  have hlen' : (toksL w).length = 1 := hlen
  rw [hlen'] at L hpl
  rw [reqR_of hs, ht]
  have t0 := text_is ((hat 0 _ _ rfl).2)
  unfold reqT askR
  have hr : restL ((w ++ ⟨#[32]⟩) ++ C) (placeAt ((w ++ ⟨#[32]⟩) ++ C) (toksL w ++ (toksL C).map (shT (w.size + 1))) 1) (Req.ask kd) = .ok (.ask kd x) := by
    rw [hpl, f2]
    unfold restL
    rw [show (w.size : Int) + 1 + 0 = w.size + 1 by omega, join_tail, hp]
  rw [(L 0 (by omega)).1, t0]
  rcases hk with ⟨rfl, rfl⟩ | ⟨rfl, rfl⟩
  · rw [if_neg (by decide), if_neg (by decide), if_pos rfl]
    exact hr
  · rw [if_neg (by decide), if_neg (by decide), if_neg (by decide), if_pos rfl]
    exact hr
theorem cla_begins {k : Kp} (h : k.check = true) (hn : k.Nb) : BegB k.txt ∧ kindAt (toksL k.txt) 1 = 4 := by
  obtain ⟨g1, hx, hsz⟩ := good_cl h hn
  obtain ⟨h1, h2, h3, h4⟩ := check_parts h
  obtain ⟨hk, hs, hl⟩ := ask_said h3
  obtain ⟨g3, g4, g5, g6⟩ := good_said hs hn.head
  obtain ⟨e1, e2, e3⟩ := kts_at hx (by omega)
  constructor
  · have hd := clX_dl h hn
    unfold ClauseS.clX ClauseS.atomX at hd
    rw [List.append_assoc] at hd
    exact wd_begins g5 hd.symm
  · unfold ClauseS.tkCl ClauseS.tkAtom at e3
    by_cases ha : (clL k.q).head.args = []
    · by_cases hb : (clL k.q).body = []
      · rw [if_pos ha, if_pos hb] at e3
        exact (e3 1 _ _ rfl).1
      · rw [if_pos ha, if_neg hb] at e3
        exact (e3 1 _ _ rfl).1
    · rw [if_neg ha] at e3
      exact (e3 1 _ _ rfl).1
theorem ask_begins {l : Lp} (h : l.ask = true) (hn : l.Nb) : BegB l.saidT := by
  obtain ⟨hk, hs, hl⟩ := ask_said h
  obtain ⟨g3, g4, g5, g6⟩ := good_said hs hn
  have hd := saidX_dl l
  unfold ClauseS.saidX ClauseS.whoX at hd
  by_cases hw : (ltL l.q).who = ClauseS.tm0
  · rw [if_pos hw, List.nil_append] at hd
    unfold ClauseS.atomX at hd
    exact wd_begins g5 hd.symm
  · rw [if_neg hw, List.append_assoc] at hd
    rcases g4 with g4 | g4
    · exact absurd g4 hw
    · exact wd_begins (k := (ClauseS.tkTm tvL (ltL l.q).who).1) g4 hd.symm
/-- a request that may be is read as it was -/
theorem req_back {kd : Int} {lb : ByteArray} {lf : Int} {k : Kp} {no : Int} {l : Lp} (hc : checkB kd lb lf k no l = true) (hk : k.Nb) (hl : l.Nb) :
    ∃ r, reqR (outQ kd lb lf k no l) = .ok r ∧ r.v = ⟨kd, lb, lf, k.q, no, l.q⟩ := by
  have he : ∀ x : ByteArray, (!x.toList.isEmpty) = false → x = ⟨#[]⟩ := fun x hx => by
    have h1 : x.toList.isEmpty = true := by simpa using hx
    exact ba_ext (dl_nil.2 h1)
  have hz : ∀ n : Int, (n != 0) = false → n = 0 := fun n hn => by simpa using hn
  unfold outQ wordsQ
  unfold checkB at hc
  by_cases h1 : kd = 1
  · subst h1
    rw [if_pos rfl] at hc ⊢
    simp only [Bool.and_eq_true, Bool.not_eq_true', Bool.or_eq_true, beq_iff_eq] at hc
    obtain ⟨hn, hlf, hck, hno, hil⟩ := hc
    obtain rfl := hz _ hno
    have hq := (islit_iff l).1 hil
    have ht : claT k = k.txt := by unfold claT; rw [if_pos hck]
    have hp := clause_back hck hk
    obtain ⟨hb, h4⟩ := cla_begins hck hk
    have hsz := (good_cl hck hk).2.2
    rw [ht]
    by_cases h0 : 0 < lf
    · rw [if_pos h0]
      have hbd : lf ≤ 1099511627776 := by
        rcases hlf with h | h
        · omega
        · unfold boundB at h; simp at h; exact h.2
      exact ⟨_, back_for hn (by omega) hbd hp hb hsz, by rw [hq]; rfl⟩
    · rw [if_neg h0]
      have : lf = 0 := by
        rcases hlf with h | h
        · exact h
        · unfold boundB at h; simp at h; omega
      subst this
      exact ⟨_, back_ass hn hp hb hsz h4, by rw [hq]; rfl⟩
  rw [if_neg h1] at hc ⊢
  by_cases h2 : kd = 2
  · subst h2
    rw [if_pos rfl] at hc ⊢
    simp only [Bool.and_eq_true, Bool.not_eq_true', Bool.or_eq_false_iff] at hc
    obtain ⟨hb, ⟨h3, h4, h5⟩, h6⟩ := hc
    obtain rfl := he lb (by simp [h3])
    obtain rfl := hz _ h4
    have hq := (islit_iff l).1 h6
    have hkq := (isclause_iff k).1 h5
    unfold boundB at hb
    simp at hb
    exact ⟨_, back_rev hb.1 hb.2, by rw [hq, hkq]; rfl⟩
  rw [if_neg h2] at hc ⊢
  by_cases h34 : kd = 3 ∨ kd = 4
  · rw [if_pos h34] at hc
    simp only [Bool.and_eq_true, Bool.not_eq_true', Bool.or_eq_false_iff] at hc
    obtain ⟨hak, ⟨h3, h4, h5⟩, h6⟩ := hc
    obtain rfl := he lb (by simp [h3])
    obtain rfl := hz _ h4
    obtain rfl := hz _ h6
    have hkq := (isclause_iff k).1 h5
    have ht : askT l = l.saidT := by unfold askT; rw [if_pos hak]
    have hp := asked_back hak hl
    have hb := ask_begins hak hl
    have hsz := askT_size l hl
    rw [ht] at hsz ⊢
    rcases h34 with rfl | rfl
    · rw [if_pos rfl]
      exact ⟨_, back_ask (.inl ⟨rfl, rfl⟩) hp hb hsz, by rw [hkq]; rfl⟩
    · rw [if_neg (by decide), if_pos rfl]
      exact ⟨_, back_ask (.inr ⟨rfl, rfl⟩) hp hb hsz, by rw [hkq]; rfl⟩
  rw [if_neg h34] at hc
  rw [if_neg (fun h => h34 (.inl h)), if_neg (fun h => h34 (.inr h))]
  by_cases h5 : kd = 5
  · subst h5
    rw [if_pos rfl] at hc
    simp only [Bool.and_eq_true, Bool.not_eq_true', Bool.or_eq_false_iff] at hc
    obtain ⟨⟨h3, h4, h5⟩, h6, h7⟩ := hc
    obtain rfl := he lb (by simp [h3])
    obtain rfl := hz _ h4
    obtain rfl := hz _ h6
    have hq := (islit_iff l).1 h7
    have hkq := (isclause_iff k).1 h5
    exact ⟨_, back_aud, by rw [hq, hkq]; rfl⟩
  · rw [if_neg h5] at hc
    cases hc

/-! What is read may be written. -/
theorem name_at {s : ByteArray} {k : Nat} (h : errL s = 0) (hk : kindAt (toksL s) k = 1) : nameB (textAt s (toksL s) k) = true := by
  unfold kindAt at hk
  unfold textAt
  cases ht : (toksL s)[k]? with
  | none => rw [ht] at hk; cases hk
  | some t =>
    rw [ht] at hk
    have h1 := (chain_ok s.data.toList _ 0 (chain_all s.data.toList h) t (List.mem_of_getElem? ht)).name hk
    rw [nameB_eq]
    show nameL (s.extract t.fr.toNat t.to.toNat).data.toList = true
    rw [extract_dl]
    exact h1
theorem numR_bound {t : ByteArray} (h : numR t ≠ 0) : boundB (numR t) = true := by
  unfold numR at h ⊢
  split
  · rename_i h1
    unfold boundB
    simp only [Bool.and_eq_true, decide_eq_true_eq]
    exact h1
  · rename_i h1
    rw [if_neg h1] at h
    exact absurd rfl h
/-- what is asked of a request, by what it says -/
def RqOk (r : Req) : Prop := match r with
  | .ass lb lf c => nameB lb = true ∧ (lf = 0 ∨ boundB lf = true) ∧ ∃ s, parseR s = .ok c
  | .rev n => boundB n = true
  | .ask kd x => (kd = 3 ∨ kd = 4) ∧ ∃ s, parseLitR s = .ok x
  | .aud => True
theorem restC_ok {s : ByteArray} {fr : Int} {lb : ByteArray} {lf : Int} {r : Req} (h : restC s fr (.ass lb lf) = .ok r) (h1 : nameB lb = true) (h2 : lf = 0 ∨ boundB lf = true) : RqOk r := by
  unfold restC at h
  split at h
  · cases h
  · rename_i c hc
    injection h with h
    subst h
    exact ⟨h1, h2, _, hc⟩
theorem restL_ok {s : ByteArray} {fr : Int} {kd : Int} {r : Req} (h : restL s fr (.ask kd) = .ok r) (h1 : kd = 3 ∨ kd = 4) : RqOk r := by
  unfold restL at h
  split at h
  · cases h
  · rename_i c hc
    injection h with h
    subst h
    exact ⟨h1, _, hc⟩
theorem req_ok {s : ByteArray} {r : Req} (h : reqR s = .ok r) : RqOk r := by
  unfold reqR at h
  split at h
  · rename_i he
    unfold reqT at h
    split at h
    · unfold assR at h
      split at h
      · cases h
      · rename_i hk
        have hn := name_at he (Classical.not_not.1 hk)
        split at h
        · split at h
          · cases h
          · rename_i h0
            exact restC_ok h hn (.inr (numR_bound h0))
        · exact restC_ok h hn (.inl rfl)
    · split at h
      · unfold revR at h
        split at h
        · cases h
        · rename_i h0
          split at h
          · cases h
          · injection h with h; subst h; exact numR_bound h0
      · split at h
        · exact restL_ok h (.inl rfl)
        · split at h
          · exact restL_ok h (.inr rfl)
          · split at h
            · unfold audR at h
              split at h
              · cases h
              · injection h with h; subst h; exact trivial
            · cases h
  · cases h
/-- a request that was read may be written -/
theorem check_read {s : ByteArray} {r : Req} {cl : Kp} {lp : Lp} (h : reqR s = .ok r) (hc : cl.q = r.v.c) (hl : lp.q = r.v.l) : checkB r.v.kd r.v.lb r.v.lf cl r.v.no lp = true := by
  have hr := req_ok h
  have z1 : (!(⟨#[]⟩ : ByteArray).toList.isEmpty) = false := by rw [ByteArray.toList_eq]; rfl
  unfold checkB
  cases r with
  | ass lb lf c =>
    obtain ⟨h1, h2, t, h3⟩ := hr
    have h4 := check_of (h3.trans (congrArg _ hc.symm))
    have h5 := (islit_iff lp).2 hl
    show (if (1 : Int) = 1 then nameB lb && ((lf == 0 || boundB lf) && (cl.check && (!((0 : Int) != 0) && !isLitB lp))) else _) = true
    rw [if_pos rfl, h1, h4, h5]
    rcases h2 with rfl | h2
    · rfl
    · rw [h2]; simp
  | rev n =>
    have h1 : boundB n = true := hr
    have h5 := (islit_iff lp).2 hl
    have h6 := (isclause_iff cl).2 hc
    show (if (2 : Int) = 1 then _ else if (2 : Int) = 2 then boundB n && (!((!(⟨#[]⟩ : ByteArray).toList.isEmpty) || (((0 : Int) != 0) || isClauseB cl)) && !isLitB lp) else _) = true
    rw [if_neg (by decide), if_pos rfl, h1, h5, h6, z1]
    rfl
  | ask kd x =>
    obtain ⟨h1, t, h3⟩ := hr
    have h4 := asked_of (h3.trans (congrArg _ hl.symm))
    have h6 := (isclause_iff cl).2 hc
    show (if kd = 1 then _ else if kd = 2 then _ else if kd = 3 ∨ kd = 4 then lp.ask && (!((!(⟨#[]⟩ : ByteArray).toList.isEmpty) || (((0 : Int) != 0) || isClauseB cl)) && !((0 : Int) != 0)) else _) = true
    rw [if_neg (by omega), if_neg (by omega), if_pos h1, h4, h6, z1]
    rfl
  | aud =>
    have h5 := (islit_iff lp).2 hl
    have h6 := (isclause_iff cl).2 hc
    show (if (5 : Int) = 1 then _ else if (5 : Int) = 2 then _ else if (5 : Int) = 3 ∨ (5 : Int) = 4 then _ else if (5 : Int) = 5 then !((!(⟨#[]⟩ : ByteArray).toList.isEmpty) || (((0 : Int) != 0) || isClauseB cl)) && (!((0 : Int) != 0) && !isLitB lp) else _) = true
    rw [if_neg (by decide), if_neg (by decide), if_neg (by decide), if_pos rfl, h5, h6, z1]
    rfl
end Go.Proofs.YtfmkfabbiifolaaGreatDoor
