/-
  Joined of: RdrF, RdrG.
-/
import Derived.Test.YtfmkfabbiifolaaGreatDoorJb04
import Derived.Test.YtfmkfabbiifolaaGreatDoorJb03
set_option linter.unusedVariables false
set_option linter.unusedSimpArgs false
/-
  Contracts: the reference's open and ParseLit.
-/
namespace Go.Proofs.YtfmkfabbiifolaaGreatDoor
open Go.RowKit

set_option maxHeartbeats 4000000 in
theorem ropen_any (s : ByteArray) (w : World) (hm : s.size ≤ 140737488351232) :
    Calls Tryz.prog 58 #[.string s] w fun e w' => ∃ rb q c, e = .returned (.tuple #[.pointer (some ⟨rb, 0, none⟩), .int .i64 (allL s.data.toList).pl, .int .i64 (allL s.data.toList).err]) ∧ w.heap.size ≤ rb ∧ rb < w'.heap.size ∧ ((allL s.data.toList).err = 0 → Rr w' rb s q c (allL s.data.toList).toks 0 0 0) ∧ Below w.heap.size w w' := by
  have HA := Lib.hid (show Calls Tryz.prog 20 #[.string s] w fun e w' => ∃ q c, e = .returned (.tuple #[.slice q (allL s.data.toList).toks.length c, .int .i64 (allL s.data.toList).pl, .int .i64 (allL s.data.toList).err]) ∧ Rd encT 3 w' w'.heap.size q (allL s.data.toList).toks ∧ Below w.heap.size w w' from (refall_any s w hm).mono fun e w' ⟨v, h1, h2, h3⟩ => by
    obtain ⟨q, c, rfl, hr⟩ := tokrow_rd h2
    exact ⟨q, c, h1, hr, h3⟩)
  have HS := Lib.hid (src_of s)
  generalize (allL s.data.toList).err = er at *
  generalize (allL s.data.toList).pl = pl at *
  generalize (allL s.data.toList).toks = ts at *
  go_enter Tryz.func58, Tryz.ntmps58
  go_wp2_with (go_at_call 20; refine (HA.out).mono ?_; rintro e w1 ⟨q, c, rfl, hr1, hb1⟩; have HR1 := Lib.hid hr1; have HB1 := Lib.hid hb1; clear hr1 hb1)
  go_ret3
  exact ⟨w1.heap.size, q, c, rfl, HB1.out.size, by simp, fun h0 => ⟨Bk.new w1 _ _, HR1.out.below (below1 w1 _) (Nat.le_refl _), Nat.zero_le _, HS.out h0⟩, HB1.out.trans ((below1 w1 _).mono HB1.out.size)⟩

theorem rd_only {α : Type} {enc : α → List Value} {m : Nat} {w w' : World} {pb : Nat} {p : Option Addr} {l : List α} (h : Rd enc m w w.heap.size p l) (ho : Only pb w w') (hp : ∀ b, p = some b → b.block ≠ pb) : Rd enc m w' w'.heap.size p l := by
  rcases h with h | ⟨b, off, rfl, hl, hc⟩
  · exact .inl h
  · exact .inr ⟨b, off, rfl, Nat.lt_of_lt_of_le hl ho.size, fun i hi r u hu => (ho.cell hl (hp _ rfl)).trans (hc i hi r u hu)⟩
theorem ended_sum {α : Type} {s : ByteArray} {ts : List Tok} {SR : Except (Int × Int) (α × Nat)} {R : Except (Int × Int) α} (hp : R = wholeR s ts SR) {x : α} {k : Nat} {er fr : Int} (hd : (er = 0 ∧ SR = .ok (x, k)) ∨ (er ≠ 0 ∧ SR = .error (er, fr))) (P : Nat → Int → Int → Prop)
    (h : if er = 0 then (if ts.length ≤ k then P k 0 fr else P k 6 (placeAt s ts k)) else P k er fr) : ∃ k3 e3 f3, P k3 e3 f3 ∧ ((e3 = 0 ∧ R = .ok x) ∨ (e3 ≠ 0 ∧ R = .error (e3, f3))) := by
  rcases hd with ⟨rfl, rfl⟩ | ⟨he, rfl⟩
  · rw [if_pos rfl] at h
    by_cases hk : ts.length ≤ k
    · rw [if_pos hk] at h; exact ⟨_, _, _, h, .inl ⟨rfl, by rw [hp]; simp [wholeR, hk]⟩⟩
    · rw [if_neg hk] at h; exact ⟨_, _, _, h, .inr ⟨by decide, by rw [hp]; simp [wholeR, hk]⟩⟩
  · rw [if_neg he] at h
    exact ⟨_, _, _, h, .inr ⟨he, by rw [hp]; rfl⟩⟩
theorem read_state {w : World} {rb : Nat} {s : ByteArray} {q : Option Addr} {c : Nat} {ts : List Tok} {α : Type} {fr : Int} {SR : Except (Int × Int) (α × Nat)} {x : α} (h : (∃ k', SR = .ok (x, k') ∧ Rr w rb s q c ts k' 0 fr) ∨ (∃ k' n p, n ≠ 0 ∧ SR = .error (n, p) ∧ Rr w rb s q c ts k' n p)) :
    ∃ k er f2, Rr w rb s q c ts k er f2 ∧ ((er = 0 ∧ SR = .ok (x, k)) ∨ (er ≠ 0 ∧ SR = .error (er, f2))) := by
  rcases h with ⟨k', h1, h2⟩ | ⟨k', n, p, h0, h1, h2⟩
  · exact ⟨_, _, _, h2, .inl ⟨rfl, h1⟩⟩
  · exact ⟨_, _, _, h2, .inr ⟨h0, h1⟩⟩

set_option maxHeartbeats 8000000 in
set_option maxRecDepth 100000 in
theorem refParseLit_any (s : ByteArray) (w : World) (hm : s.size ≤ 140737488351232) :
    Calls Tryz.prog 25 #[.string s] w (ParseLitPost w (parseLitR s)) := by
  have HB := Lib.hid (below1 w)
  have HO := Lib.hid (show ∀ o, _ from fun o => ropen_any s (w.alloc o) hm)
  by_cases hx : (allL s.data.toList).err = 0
  · have HP := Lib.hid (show parseLitR s = wholeR s (allL s.data.toList).toks (saidR s (allL s.data.toList).toks 1 0) by unfold parseLitR; rw [if_pos hx])
    generalize parseLitR s = R at *
    rw [hx] at HO
    generalize (allL s.data.toList).toks = ts at *
    generalize (allL s.data.toList).pl = pl at *
    have HSD := Lib.hid (show ∀ wx rb q c, Rr wx rb s q c ts 0 0 0 → _ from fun wx rb q c hx' => rsaid_any wx rb s q c ts 0 1 0 hx')
    have HEN := Lib.hid (show ∀ wx rb q c k er fr, Rr wx rb s q c ts k er fr → _ from fun wx rb q c k er fr hx' => rended_any wx rb s q c ts k er fr hx')
    generalize saidR s ts 1 0 = SR at *
    clear hx
    go_enter Tryz.func25, Tryz.ntmps25
    go_wp2_with (first
      | (go_at_call 64; refine (HEN.out _ _ _ _ _ _ _ (HR2.out.on (below1 w2 _))).mono ?_; rintro e w3 ⟨rfl, ho3, hs3⟩; obtain ⟨k3, er3, fr3, hr3, hd3⟩ := ended_sum HP.out HD2.out (fun k e f => Rr w3 rb s q c ts k e f) hs3; have HR3 := Lib.hid hr3; have HD3 := Lib.hid hd3; have hrl := HR2.out.lt; have HL3 := Lib.hid ((Bk.new w2 _ _).only ho3 (by omega)); have HZ3 := Lib.hid ((HZ2.out.on (below1 w2 _)).only ho3 (by omega)); have HT3 := Lib.hid ho3; obtain ⟨c0, c1, c2', c3, c4⟩ := hr3.five; obtain ⟨z0, z1, z2, z3, z4, z5⟩ := HZ3.out.six; obtain ⟨t0, t1, t2, t3, t4, t5, t6⟩ := HZ3.out.softs; obtain ⟨y0, y1, y2, y3, y4, y5⟩ := HL3.out.six; clear ho3 hs3 hr3 hd3)
      | (go_at_call 65; refine (HSD.out _ _ _ _ HR1.out).mono ?_; rintro e w2 ⟨L, q2, c2, rfl, ht2, hf2, ho2, hs2⟩; have HT2 := Lib.hid ht2; have HF2 := Lib.hid hf2; have HO2 := Lib.hid ho2; obtain ⟨k2, er2, fr2, hr2, hd2⟩ := read_state hs2; have HR2 := Lib.hid hr2; have HD2 := Lib.hid hd2; have HZ2 := Lib.hid (HZ1.out.only ho2 (by omega)); unfold Lp.agg; clear ht2 hf2 ho2 hs2 hr2 hd2)
      | (go_at_call 58; refine (HO.out _).mono ?_; rintro e w1 ⟨rb, q, c, rfl, hge, hlt, hr1, hb1⟩; have HR1 := Lib.hid (hr1 trivial); have HZ1 := Lib.hid ((Bk.new w _ _).on hb1); have HB1 := Lib.hid ((HB.out _).trans (hb1.mono (HB.out _).size)); have hgw : w.heap.size < rb := Nat.lt_of_succ_le (by simpa using hge); clear hb1 hr1 hge))
    · have he3 : er3 ≠ 0 := by simpa using (by assumption : (er3 != 0) = true)
      have HRE := Lib.hid ((HD3.out.resolve_left (fun h => he3 h.1)).2)
      have hwl : w.heap.size < w3.heap.size := HZ3.out.lt
      have HW := Lib.hid (((HB1.out.trans ((HO2.out.below (Nat.le_of_lt hlt)).mono (Nat.le_of_lt hgw))).trans ((below1 w2 _).mono (Nat.le_trans (Nat.le_of_lt (Nat.lt_trans hgw hlt)) HO2.out.size))).trans ((HT3.out.below (by simp; omega)).mono (Nat.le_of_lt hgw)))
      clear HD3 HD2 HT3 HO2 HR2 HZ2 HL3 y0 y1 y2 y3 y4 y5 HT2 HF2 HR1 HZ1 HEN HSD HO HP hlt hrl c0 c1 c2' HB1
      have hne : w.heap.size ≠ rb := Nat.ne_of_lt hgw
      go_region_held3 (fun X => X.cell? ⟨rb, 3, none⟩ = some (.int .i64 er3) ∧ X.cell? ⟨rb, 4, none⟩ = some (.int .i64 fr3)) (go_keep) (fail)
      go_wp2_with fail
      have HQ := load6 HZ3.out (.int .u8 0) (.string ⟨#[]⟩) (.string ⟨#[]⟩) (.int .i64 0) (.string ⟨#[]⟩) (.slice none 0 0)
      have HC := set6 (w := w3) (Nat.le_refl w.heap.size) (.int .u8 0) (.string ⟨#[]⟩) (.string ⟨#[]⟩) (.int .i64 0) (.string ⟨#[]⟩) (.slice none 0 0)
      generalize (((((w3.setCell ⟨w.heap.size, 0, none⟩ (.int .u8 0)).setCell ⟨w.heap.size, 1, none⟩ (.string ⟨#[]⟩)).setCell ⟨w.heap.size, 2, none⟩ (.string ⟨#[]⟩)).setCell ⟨w.heap.size, 3, none⟩ (.int .i64 0)).setCell ⟨w.heap.size, 4, none⟩ (.string ⟨#[]⟩)).setCell ⟨w.heap.size, 5, none⟩ (.slice none 0 0) = W6 at *
      obtain ⟨q0, q1, q2', q3, q4, q5⟩ := (show Bk W6.drew w.heap.size _ _ from HQ).six
      refine bodyPost_ret (v := .tuple #[lpZ.agg, .int .i64 fr3, .int .i64 er3]) ?_ rfl ?_
      · simp [results, Tryz.results25, go_sem, q0, q1, q2', q3, q4, q5, lpZ, Lp.agg, tmZ]
      · rw [HRE.out]
        exact ⟨rfl, (HW.out.trans HC).trans (below_drewN' (Below.refl w.heap.size W6) 1)⟩
    · have he3 : er3 = 0 := by simpa using (by assumption : (er3 != 0) = false)
      have HRE := Lib.hid ((HD3.out.resolve_right (fun h => h.1 he3)).2)
      have HW := Lib.hid (((HB1.out.trans ((HO2.out.below (Nat.le_of_lt hlt)).mono (Nat.le_of_lt hgw))).trans ((below1 w2 _).mono (Nat.le_trans (Nat.le_of_lt (Nat.lt_trans hgw hlt)) HO2.out.size))).trans ((HT3.out.below (by simp; omega)).mono (Nat.le_of_lt hgw)))
      have HTT := Lib.hid (rd_only (rd_only HT2.out (Only.of (pb := rb) (below1 w2 _)) (fun b hb => Nat.ne_of_gt (Nat.lt_of_lt_of_le hlt (HF2.out b hb)))) HT3.out (fun b hb => Nat.ne_of_gt (Nat.lt_of_lt_of_le hlt (HF2.out b hb))))
      obtain ⟨q0, q1, q2', q3, q4, q5⟩ := (load6 HZ3.out (.int .u8 L.kind) (.string L.who.v) (.string L.who.s) (.int .i64 L.who.n) (.string L.pred) (.slice q2 L.args.length c2)).six
      refine bodyPost_ret (v := .tuple #[(L.at q2 c2).agg, .int .i64 0, .int .i64 0]) ?_ rfl ?_
      · simp [results, Tryz.results25, go_sem, q0, q1, q2', q3, q4, q5, Lp.agg, Lq.at]
      · rw [HRE.out]
        exact ⟨q2, c2, rfl, ((Above.refl (w.heap.size + 1) _).set6 (by omega) _ _ _ _ _ _).rd HTT.out (fun b hb => Nat.le_trans (by omega) (HF2.out b hb)) ((set6 (Nat.le_refl w.heap.size) _ _ _ _ _ _).size), fun b hb => Nat.le_trans (by omega) (HF2.out b hb), HW.out.trans (set6 (Nat.le_refl _) _ _ _ _ _ _)⟩
  · have HR := Lib.hid (show parseLitR s = .error ((allL s.data.toList).err, (allL s.data.toList).pl) by unfold parseLitR; rw [if_neg hx])
    generalize parseLitR s = R at *
    generalize (allL s.data.toList).err = er at *
    generalize (allL s.data.toList).toks = ts at *
    generalize (allL s.data.toList).pl = pl at *
    have hx' : (er != 0) = true := by simpa using hx
    go_enter Tryz.func25, Tryz.ntmps25
    go_wp2_with (go_at_call 58; refine (HO.out _).mono ?_; rintro e w1 ⟨rb, q, c, rfl, hge, hlt, hr1, hb1⟩; have HZ1 := Lib.hid ((Bk.new w _ _).on hb1); have HB1 := Lib.hid ((HB.out _).trans (hb1.mono (HB.out _).size)); obtain ⟨z0, z1, z2, z3, z4, z5⟩ := HZ1.out.six; obtain ⟨t0, t1, t2, t3, t4, t5, t6⟩ := HZ1.out.softs; clear hb1 hr1 hge)
    obtain ⟨q0, q1, q2', q3, q4, q5⟩ := (load6 HZ1.out (.int .u8 0) (.string ⟨#[]⟩) (.string ⟨#[]⟩) (.int .i64 0) (.string ⟨#[]⟩) (.slice none 0 0)).six
    refine bodyPost_ret (v := .tuple #[lpZ.agg, .int .i64 pl, .int .i64 er]) ?_ rfl ?_
    · simp [results, Tryz.results25, go_sem, q0, q1, q2', q3, q4, q5, lpZ, Lp.agg, tmZ]
    · rw [HR.out]
      exact ⟨rfl, HB1.out.trans (set6 (Nat.le_refl w.heap.size) _ _ _ _ _ _)⟩
end Go.Proofs.YtfmkfabbiifolaaGreatDoor

/-
  Contract: the reference's reader: literal.
-/
namespace Go.Proofs.YtfmkfabbiifolaaGreatDoor
open Go.RowKit

theorem kind_lt {ts : List Tok} {k : Nat} (h : isT ts k = true) : k < ts.length := by
  exact kindAt_lt (fun h0 => by simp [isT, h0] at h)
theorem comp_state {s : ByteArray} {ts : List Tok} {k : Nat} {fr : Int} {w : World} {rb : Nat} {q : Option Addr} {c : Nat} (hk : isT ts k = true) (hx : textAt s ts (k + 1) ≠ wdUnlike) (t2 : Tm) (k2 : Nat) (e2 f2 : Int)
    (hd : (textAt s ts (k + 1) = wdLess ∧ e2 = 0 ∧ f2 = fr ∧ k2 = k + 2) ∨ (textAt s ts (k + 1) ≠ wdLess ∧ e2 = 6 ∧ f2 = placeAt s ts (k + 1)))
    (ht : (e2 = 0 ∧ isT ts k2 = true ∧ t2 = termR s ts k2 ∧ Rr w rb s q c ts (k2 + 1) 0 f2) ∨ (e2 = 0 ∧ isT ts k2 = false ∧ Rr w rb s q c ts k2 6 (placeAt s ts k2)) ∨ (e2 ≠ 0 ∧ Rr w rb s q c ts k2 e2 f2)) :
    (∃ k', compR s ts k = .ok (⟨3, tmZ, ⟨#[]⟩, [termR s ts k, t2]⟩, k') ∧ Rr w rb s q c ts k' 0 fr) ∨ (∃ k' n p, n ≠ 0 ∧ compR s ts k = .error (n, p) ∧ Rr w rb s q c ts k' n p) := by
  rcases hd with ⟨hy, rfl, rfl, rfl⟩ | ⟨hn, rfl, rfl⟩
  · rcases ht with ⟨_, h1, rfl, h2⟩ | ⟨_, h1, h2⟩ | ⟨h1, _⟩
    · exact .inl ⟨_, by simp [compR, hk, hy, h1], h2⟩
    · exact .inr ⟨_, 6, _, by decide, by simp [compR, hk, hy, h1], h2⟩
    · exact absurd rfl h1
  · rcases ht with ⟨h1, _⟩ | ⟨h1, _⟩ | ⟨_, h2⟩
    · exact absurd h1 (by decide)
    · exact absurd h1 (by decide)
    · exact .inr ⟨_, 6, _, by decide, by simp [compR, hk, hn, hx], h2⟩
theorem unlike_state {s : ByteArray} {ts : List Tok} {k : Nat} {fr : Int} {w : World} {rb : Nat} {q : Option Addr} {c : Nat} (hk : isT ts k = true) (hx : textAt s ts (k + 1) = wdUnlike) (t2 : Tm)
    (ht : ((0 : Int) = 0 ∧ isT ts (k + 2) = true ∧ t2 = termR s ts (k + 2) ∧ Rr w rb s q c ts (k + 2 + 1) 0 fr) ∨ ((0 : Int) = 0 ∧ isT ts (k + 2) = false ∧ Rr w rb s q c ts (k + 2) 6 (placeAt s ts (k + 2))) ∨ ((0 : Int) ≠ 0 ∧ Rr w rb s q c ts (k + 2) 0 fr)) :
    (∃ k', compR s ts k = .ok (⟨4, tmZ, ⟨#[]⟩, [termR s ts k, t2]⟩, k') ∧ Rr w rb s q c ts k' 0 fr) ∨ (∃ k' n p, n ≠ 0 ∧ compR s ts k = .error (n, p) ∧ Rr w rb s q c ts k' n p) := by
  have hl : wdUnlike ≠ wdLess := by decide
  rcases ht with ⟨_, h1, rfl, h2⟩ | ⟨_, h1, h2⟩ | ⟨h1, _⟩
  · exact .inl ⟨_, by simp [compR, hk, hl, hx, h1], h2⟩
  · exact .inr ⟨_, 6, _, by decide, by simp [compR, hk, hl, hx, h1], h2⟩
  · exact absurd rfl h1
theorem toList_bne {x : ByteArray} {l : List UInt8} (h : ¬ x = ⟨l.toArray⟩) : (x.toList != l) = true := by simp only [bne, toList_beq h]; rfl
theorem toList_bne_no {x : ByteArray} {l : List UInt8} (h : x = ⟨l.toArray⟩) : (x.toList != l) = false := by simp only [bne, toList_beq_yes h]; rfl

set_option maxHeartbeats 8000000 in
set_option maxRecDepth 100000 in
theorem rlit_not (w : World) (rb : Nat) (s : ByteArray) (q : Option Addr) (c : Nat) (ts : List Tok) (k : Nat) (fr : Int) (h : Rr w rb s q c ts k 0 fr) (hn : textAt s ts k = wdNot) :
    Calls Tryz.prog 61 #[.pointer (some ⟨rb, 0, none⟩)] w (RSaidPost w rb s q c ts fr (saidR s ts 2 (k + 1))) := by
  have HP := Lib.hid h
  have hpb := h.lt
  have hl := h.src.len
  have HB := Lib.hid (below1 w)
  have hk : k < ts.length := text_lt hn (by decide)
  have g0 := toList_beq_yes (l := [110, 111, 116]) hn
  have HS0 := Lib.hid (show ∀ wx, Rr wx rb s q c ts k 0 fr → Calls Tryz.prog 60 #[.pointer (some ⟨rb, 0, none⟩), .int .i64 0] wx fun e w' => e = .returned (.string (textAt s ts k)) ∧ Below wx.heap.size wx w' from fun wx hx => rtext_any wx rb s q c ts k 0 0 fr hx (by omega))
  have HR := Lib.hid (show saidR s ts 2 (k + 1) = saidR s ts 2 (k + 1) from rfl)
  obtain ⟨R, hR⟩ : ∃ R, R = saidR s ts 2 (k + 1) := ⟨_, rfl⟩
  have HR := Lib.hid hR.symm
  rw [← hR]
  clear hR
  have HS := Lib.hid (show ∀ wx, Rr wx rb s q c ts (k + 1) 0 fr → Calls Tryz.prog 65 #[.pointer (some ⟨rb, 0, none⟩), .int .u8 2] wx (RSaidPost wx rb s q c ts fr R) from fun wx hx => HR.out ▸ rsaid_any wx rb s q c ts (k + 1) 2 fr hx)
  generalize textAt s ts k = x0 at *
  clear h hn HR
  go_enter Tryz.func61, Tryz.ntmps61
  go_wp2_with (first
    | (go_at_call 65; refine (HS.out _ (HP1.out.set 2 _ (k + 1) 0 fr (by omega) (by simp))).mono ?_; rintro e w9 ⟨L, q', c', rfl, ht9, hf9, ho9, hs9⟩; have HT9 := Lib.hid ht9; have HF9 := Lib.hid hf9; have HO9 := Lib.hid ho9; have HS9 := Lib.hid hs9; have HZ9 := Lib.hid ((HZ1.out.other (b' := rb) (by omega) 2 _).only ho9 (by omega)); obtain ⟨r0, r1, r2, r3, r4, r5⟩ := HZ9.out.six; obtain ⟨z0, z1, z2, z3, z4, z5, z6⟩ := HZ9.out.softs; unfold Lp.agg; clear ht9 hf9 ho9 hs9)
    | (go_at_call 60; refine (HS0.out _ (HP.out.on (HB.out _))).mono ?_; rintro e w1 ⟨rfl, hb1⟩; have HP1 := Lib.hid ((HP.out.on (HB.out _)).on hb1); have HO1 := Lib.hid ((Only.of (pb := rb) (HB.out _)).trans (Only.of hb1)); have HZ1 := Lib.hid ((Bk.new w _ _).on hb1); have d2 := HP1.out.box.cell 2 _ rfl; have d2' := HP1.out.box.soft 2; clear hb1))
  obtain ⟨q0, q1, q2, q3, q4, q5⟩ := (load6 HZ9.out (.int .u8 L.kind) (.string L.who.v) (.string L.who.s) (.int .i64 L.who.n) (.string L.pred) (.slice q' L.args.length c')).six
  have hlt := HZ1.out.lt
  refine bodyPost_ret (v := Lp.agg ⟨L.kind, L.who, L.pred, q', c', L.args⟩) ?_ rfl ?_
  · simp [results, Tryz.results61, go_sem, q0, q1, q2, q3, q4, q5, Lp.agg]
  · exact rsaid_close (w2 := (w1.setCell ⟨rb, 2, none⟩ (.int .i64 ((k : Int) + 1)))) (w3 := w9) (G := w.heap.size + 1) (L := L) (set6 (Nat.le_refl _) _ _ _ _ _ _) ((Above.refl _ _).set6 (by omega) _ _ _ _ _ _) (Nat.le_trans hlt (Only.set rb w1 2 _).size) (by omega) hpb (HO1.out.trans (Only.set rb _ 2 _)) HT9.out HF9.out HO9.out HS9.out
set_option maxHeartbeats 8000000 in
set_option maxRecDepth 100000 in
theorem rlit_says (w : World) (rb : Nat) (s : ByteArray) (q : Option Addr) (c : Nat) (ts : List Tok) (k : Nat) (fr : Int) (h : Rr w rb s q c ts k 0 fr) (hn : textAt s ts k ≠ wdNot) (h2 : kindAt ts k = 2) (hs : textAt s ts (k + 1) = wdSays) :
    Calls Tryz.prog 61 #[.pointer (some ⟨rb, 0, none⟩)] w (RSaidPost w rb s q c ts fr (saidR s ts 1 k)) := by
  have HP := Lib.hid h
  have hpb := h.lt
  have hl := h.src.len
  have HB := Lib.hid (below1 w)
  have g0 := toList_beq (l := [110, 111, 116]) hn
  have g3 : (kindAt ts k == 3) = false := by rw [h2]; rfl
  have g2 : (kindAt ts k == 2) = true := by rw [h2]; rfl
  have g1 : (kindAt ts k == 1) = false := by rw [h2]; rfl
  have gs := toList_beq_yes (l := [115, 97, 121, 115]) hs
  clear h2 hs
  have HS0 := Lib.hid (show ∀ wx, Rr wx rb s q c ts k 0 fr → Calls Tryz.prog 60 #[.pointer (some ⟨rb, 0, none⟩), .int .i64 0] wx fun e w' => e = .returned (.string (textAt s ts k)) ∧ Below wx.heap.size wx w' from fun wx hx => rtext_any wx rb s q c ts k 0 0 fr hx (by omega))
  have HS1 := Lib.hid (show ∀ wx, Rr wx rb s q c ts k 0 fr → Calls Tryz.prog 60 #[.pointer (some ⟨rb, 0, none⟩), .int .i64 1] wx fun e w' => e = .returned (.string (textAt s ts (k + 1))) ∧ Below wx.heap.size wx w' from fun wx hx => rtext_any wx rb s q c ts k 1 0 fr hx (by omega))
  have HK := Lib.hid (show ∀ wx, Rr wx rb s q c ts k 0 fr → Calls Tryz.prog 92 #[.pointer (some ⟨rb, 0, none⟩)] wx fun e w' => e = .returned (.int .u8 (kindAt ts k)) ∧ Below wx.heap.size wx w' from fun wx hx => rkind_any wx rb s q c ts k 0 fr hx)
  obtain ⟨R, hR⟩ : ∃ R, R = saidR s ts 1 k := ⟨_, rfl⟩
  have HR := Lib.hid hR.symm
  rw [← hR]
  clear hR
  have HS := Lib.hid (show ∀ wx, Rr wx rb s q c ts (k) 0 fr → Calls Tryz.prog 65 #[.pointer (some ⟨rb, 0, none⟩), .int .u8 1] wx (RSaidPost wx rb s q c ts fr R) from fun wx hx => HR.out ▸ rsaid_any wx rb s q c ts (k) 1 fr hx)
  generalize textAt s ts k = x0 at *
  generalize textAt s ts (k + 1) = x1 at *
  generalize kindAt ts k = kk at *
  clear h hn HR 
  go_enter Tryz.func61, Tryz.ntmps61
  go_wp2_with (first
    | (go_at_call 65; refine (HS.out _ HP5.out).mono ?_; rintro e w9 ⟨L, q', c', rfl, ht9, hf9, ho9, hs9⟩; have HT9 := Lib.hid ht9; have HF9 := Lib.hid hf9; have HO9 := Lib.hid ho9; have HS9 := Lib.hid hs9; have HZ9 := Lib.hid (HZ5.out.only ho9 (by omega)); obtain ⟨r0, r1, r2, r3, r4, r5⟩ := HZ9.out.six; obtain ⟨z0, z1, z2, z3, z4, z5, z6⟩ := HZ9.out.softs; unfold Lp.agg; clear ht9 hf9 ho9 hs9)
    | (go_at_call 92; refine (HK.out _ HP4.out).mono ?_; rintro e w5 ⟨rfl, hb5⟩; have HP5 := Lib.hid (HP4.out.on hb5); have HO5 := Lib.hid (HO4.out.trans (Only.of hb5)); have HZ5 := Lib.hid (HZ4.out.on hb5); clear hb5)
    | (go_at_call 92; refine (HK.out _ HP3.out).mono ?_; rintro e w4 ⟨rfl, hb4⟩; have HP4 := Lib.hid (HP3.out.on hb4); have HO4 := Lib.hid (HO3.out.trans (Only.of hb4)); have HZ4 := Lib.hid (HZ3.out.on hb4); clear hb4)
    | (go_at_call 92; refine (HK.out _ HP2.out).mono ?_; rintro e w3 ⟨rfl, hb3⟩; have HP3 := Lib.hid (HP2.out.on hb3); have HO3 := Lib.hid (HO2.out.trans (Only.of hb3)); have HZ3 := Lib.hid (HZ2.out.on hb3); clear hb3)
    | (go_at_call 60; refine (HS1.out _ HP1.out).mono ?_; rintro e w2 ⟨rfl, hb2⟩; have HP2 := Lib.hid (HP1.out.on hb2); have HO2 := Lib.hid (HO1.out.trans (Only.of hb2)); have HZ2 := Lib.hid (HZ1.out.on hb2); clear hb2)
    | (go_at_call 60; refine (HS0.out _ (HP.out.on (HB.out _))).mono ?_; rintro e w1 ⟨rfl, hb1⟩; have HP1 := Lib.hid ((HP.out.on (HB.out _)).on hb1); have HO1 := Lib.hid ((Only.of (pb := rb) (HB.out _)).trans (Only.of hb1)); have HZ1 := Lib.hid ((Bk.new w _ _).on hb1); have d2 := HP1.out.box.cell 2 _ rfl; have d2' := HP1.out.box.soft 2; clear hb1))
  obtain ⟨q0, q1, q2, q3, q4, q5⟩ := (load6 HZ9.out (.int .u8 L.kind) (.string L.who.v) (.string L.who.s) (.int .i64 L.who.n) (.string L.pred) (.slice q' L.args.length c')).six
  have hlt := HZ5.out.lt
  refine bodyPost_ret (v := Lp.agg ⟨L.kind, L.who, L.pred, q', c', L.args⟩) ?_ rfl ?_
  · simp [results, Tryz.results61, go_sem, q0, q1, q2, q3, q4, q5, Lp.agg]
  · exact rsaid_close (w2 := w5) (w3 := w9) (G := w.heap.size + 1) (L := L) (set6 (Nat.le_refl _) _ _ _ _ _ _) ((Above.refl _ _).set6 (by omega) _ _ _ _ _ _) (by omega) (by omega) hpb HO5.out HT9.out HF9.out HO9.out HS9.out
set_option maxHeartbeats 8000000 in
set_option maxRecDepth 100000 in
theorem rlit_name (w : World) (rb : Nat) (s : ByteArray) (q : Option Addr) (c : Nat) (ts : List Tok) (k : Nat) (fr : Int) (h : Rr w rb s q c ts k 0 fr) (hn : textAt s ts k ≠ wdNot) (h1 : kindAt ts k = 1) (hl1 : textAt s ts (k + 1) ≠ wdLess) (hu : textAt s ts (k + 1) ≠ wdUnlike) :
    Calls Tryz.prog 61 #[.pointer (some ⟨rb, 0, none⟩)] w (RSaidPost w rb s q c ts fr (saidR s ts 1 k)) := by
  have HP := Lib.hid h
  have hpb := h.lt
  have hl := h.src.len
  have HB := Lib.hid (below1 w)
  have g0 := toList_beq (l := [110, 111, 116]) hn
  have g3 : (kindAt ts k == 3) = false := by rw [h1]; rfl
  have g2 : (kindAt ts k == 2) = false := by rw [h1]; rfl
  have g1 : (kindAt ts k == 1) = true := by rw [h1]; rfl
  have gl := toList_beq (l := [60]) hl1
  have gu := toList_beq (l := [33, 61]) hu
  clear h1 hl1 hu
  have HS0 := Lib.hid (show ∀ wx, Rr wx rb s q c ts k 0 fr → Calls Tryz.prog 60 #[.pointer (some ⟨rb, 0, none⟩), .int .i64 0] wx fun e w' => e = .returned (.string (textAt s ts k)) ∧ Below wx.heap.size wx w' from fun wx hx => rtext_any wx rb s q c ts k 0 0 fr hx (by omega))
  have HS1 := Lib.hid (show ∀ wx, Rr wx rb s q c ts k 0 fr → Calls Tryz.prog 60 #[.pointer (some ⟨rb, 0, none⟩), .int .i64 1] wx fun e w' => e = .returned (.string (textAt s ts (k + 1))) ∧ Below wx.heap.size wx w' from fun wx hx => rtext_any wx rb s q c ts k 1 0 fr hx (by omega))
  have HK := Lib.hid (show ∀ wx, Rr wx rb s q c ts k 0 fr → Calls Tryz.prog 92 #[.pointer (some ⟨rb, 0, none⟩)] wx fun e w' => e = .returned (.int .u8 (kindAt ts k)) ∧ Below wx.heap.size wx w' from fun wx hx => rkind_any wx rb s q c ts k 0 fr hx)
  obtain ⟨R, hR⟩ : ∃ R, R = saidR s ts 1 k := ⟨_, rfl⟩
  have HR := Lib.hid hR.symm
  rw [← hR]
  clear hR
  have HS := Lib.hid (show ∀ wx, Rr wx rb s q c ts (k) 0 fr → Calls Tryz.prog 65 #[.pointer (some ⟨rb, 0, none⟩), .int .u8 1] wx (RSaidPost wx rb s q c ts fr R) from fun wx hx => HR.out ▸ rsaid_any wx rb s q c ts (k) 1 fr hx)
  generalize textAt s ts k = x0 at *
  generalize textAt s ts (k + 1) = x1 at *
  generalize kindAt ts k = kk at *
  clear h hn HR 
  go_enter Tryz.func61, Tryz.ntmps61
  go_wp2_with (first
    | (go_at_call 65; refine (HS.out _ HP5.out).mono ?_; rintro e w9 ⟨L, q', c', rfl, ht9, hf9, ho9, hs9⟩; have HT9 := Lib.hid ht9; have HF9 := Lib.hid hf9; have HO9 := Lib.hid ho9; have HS9 := Lib.hid hs9; have HZ9 := Lib.hid (HZ5.out.only ho9 (by omega)); obtain ⟨r0, r1, r2, r3, r4, r5⟩ := HZ9.out.six; obtain ⟨z0, z1, z2, z3, z4, z5, z6⟩ := HZ9.out.softs; unfold Lp.agg; clear ht9 hf9 ho9 hs9)
    | (go_at_call 92; refine (HK.out _ HP4.out).mono ?_; rintro e w5 ⟨rfl, hb5⟩; have HP5 := Lib.hid (HP4.out.on hb5); have HO5 := Lib.hid (HO4.out.trans (Only.of hb5)); have HZ5 := Lib.hid (HZ4.out.on hb5); clear hb5)
    | (go_at_call 92; refine (HK.out _ HP3.out).mono ?_; rintro e w4 ⟨rfl, hb4⟩; have HP4 := Lib.hid (HP3.out.on hb4); have HO4 := Lib.hid (HO3.out.trans (Only.of hb4)); have HZ4 := Lib.hid (HZ3.out.on hb4); clear hb4)
    | (go_at_call 92; refine (HK.out _ HP2.out).mono ?_; rintro e w3 ⟨rfl, hb3⟩; have HP3 := Lib.hid (HP2.out.on hb3); have HO3 := Lib.hid (HO2.out.trans (Only.of hb3)); have HZ3 := Lib.hid (HZ2.out.on hb3); clear hb3)
    | (go_at_call 60; refine (HS1.out _ HP1.out).mono ?_; rintro e w2 ⟨rfl, hb2⟩; have HP2 := Lib.hid (HP1.out.on hb2); have HO2 := Lib.hid (HO1.out.trans (Only.of hb2)); have HZ2 := Lib.hid (HZ1.out.on hb2); clear hb2)
    | (go_at_call 60; refine (HS0.out _ (HP.out.on (HB.out _))).mono ?_; rintro e w1 ⟨rfl, hb1⟩; have HP1 := Lib.hid ((HP.out.on (HB.out _)).on hb1); have HO1 := Lib.hid ((Only.of (pb := rb) (HB.out _)).trans (Only.of hb1)); have HZ1 := Lib.hid ((Bk.new w _ _).on hb1); have d2 := HP1.out.box.cell 2 _ rfl; have d2' := HP1.out.box.soft 2; clear hb1))
  obtain ⟨q0, q1, q2, q3, q4, q5⟩ := (load6 HZ9.out (.int .u8 L.kind) (.string L.who.v) (.string L.who.s) (.int .i64 L.who.n) (.string L.pred) (.slice q' L.args.length c')).six
  have hlt := HZ5.out.lt
  refine bodyPost_ret (v := Lp.agg ⟨L.kind, L.who, L.pred, q', c', L.args⟩) ?_ rfl ?_
  · simp [results, Tryz.results61, go_sem, q0, q1, q2, q3, q4, q5, Lp.agg]
  · exact rsaid_close (w2 := w5) (w3 := w9) (G := w.heap.size + 1) (L := L) (set6 (Nat.le_refl _) _ _ _ _ _ _) ((Above.refl _ _).set6 (by omega) _ _ _ _ _ _) (by omega) (by omega) hpb HO5.out HT9.out HF9.out HO9.out HS9.out
set_option maxHeartbeats 8000000 in
set_option maxRecDepth 100000 in
theorem rlit_other (w : World) (rb : Nat) (s : ByteArray) (q : Option Addr) (c : Nat) (ts : List Tok) (k : Nat) (fr : Int) (h : Rr w rb s q c ts k 0 fr) (hn : textAt s ts k ≠ wdNot) (h1 : kindAt ts k ≠ 1) (h2 : kindAt ts k ≠ 2) (h3 : kindAt ts k ≠ 3) :
    Calls Tryz.prog 61 #[.pointer (some ⟨rb, 0, none⟩)] w (RSaidPost w rb s q c ts fr (saidR s ts 1 k)) := by
  have HP := Lib.hid h
  have hpb := h.lt
  have hl := h.src.len
  have HB := Lib.hid (below1 w)
  have g0 := toList_beq (l := [110, 111, 116]) hn
  have g3 : (kindAt ts k == 3) = false := by simp [h3]
  have g2 : (kindAt ts k == 2) = false := by simp [h2]
  have g1 : (kindAt ts k == 1) = false := by simp [h1]
  clear h1 h2 h3
  have HS0 := Lib.hid (show ∀ wx, Rr wx rb s q c ts k 0 fr → Calls Tryz.prog 60 #[.pointer (some ⟨rb, 0, none⟩), .int .i64 0] wx fun e w' => e = .returned (.string (textAt s ts k)) ∧ Below wx.heap.size wx w' from fun wx hx => rtext_any wx rb s q c ts k 0 0 fr hx (by omega))
  have HS1 := Lib.hid (show ∀ wx, Rr wx rb s q c ts k 0 fr → Calls Tryz.prog 60 #[.pointer (some ⟨rb, 0, none⟩), .int .i64 1] wx fun e w' => e = .returned (.string (textAt s ts (k + 1))) ∧ Below wx.heap.size wx w' from fun wx hx => rtext_any wx rb s q c ts k 1 0 fr hx (by omega))
  have HK := Lib.hid (show ∀ wx, Rr wx rb s q c ts k 0 fr → Calls Tryz.prog 92 #[.pointer (some ⟨rb, 0, none⟩)] wx fun e w' => e = .returned (.int .u8 (kindAt ts k)) ∧ Below wx.heap.size wx w' from fun wx hx => rkind_any wx rb s q c ts k 0 fr hx)
  obtain ⟨R, hR⟩ : ∃ R, R = saidR s ts 1 k := ⟨_, rfl⟩
  have HR := Lib.hid hR.symm
  rw [← hR]
  clear hR
  have HS := Lib.hid (show ∀ wx, Rr wx rb s q c ts (k) 0 fr → Calls Tryz.prog 65 #[.pointer (some ⟨rb, 0, none⟩), .int .u8 1] wx (RSaidPost wx rb s q c ts fr R) from fun wx hx => HR.out ▸ rsaid_any wx rb s q c ts (k) 1 fr hx)
  generalize textAt s ts k = x0 at *
  generalize textAt s ts (k + 1) = x1 at *
  generalize kindAt ts k = kk at *
  clear h hn HR 
  go_enter Tryz.func61, Tryz.ntmps61
  go_wp2_with (first
    | (go_at_call 65; refine (HS.out _ HP5.out).mono ?_; rintro e w9 ⟨L, q', c', rfl, ht9, hf9, ho9, hs9⟩; have HT9 := Lib.hid ht9; have HF9 := Lib.hid hf9; have HO9 := Lib.hid ho9; have HS9 := Lib.hid hs9; have HZ9 := Lib.hid (HZ5.out.only ho9 (by omega)); obtain ⟨r0, r1, r2, r3, r4, r5⟩ := HZ9.out.six; obtain ⟨z0, z1, z2, z3, z4, z5, z6⟩ := HZ9.out.softs; unfold Lp.agg; clear ht9 hf9 ho9 hs9)
    | (go_at_call 92; refine (HK.out _ HP4.out).mono ?_; rintro e w5 ⟨rfl, hb5⟩; have HP5 := Lib.hid (HP4.out.on hb5); have HO5 := Lib.hid (HO4.out.trans (Only.of hb5)); have HZ5 := Lib.hid (HZ4.out.on hb5); clear hb5)
    | (go_at_call 92; refine (HK.out _ HP3.out).mono ?_; rintro e w4 ⟨rfl, hb4⟩; have HP4 := Lib.hid (HP3.out.on hb4); have HO4 := Lib.hid (HO3.out.trans (Only.of hb4)); have HZ4 := Lib.hid (HZ3.out.on hb4); clear hb4)
    | (go_at_call 92; refine (HK.out _ HP2.out).mono ?_; rintro e w3 ⟨rfl, hb3⟩; have HP3 := Lib.hid (HP2.out.on hb3); have HO3 := Lib.hid (HO2.out.trans (Only.of hb3)); have HZ3 := Lib.hid (HZ2.out.on hb3); clear hb3)
    | (go_at_call 60; refine (HS1.out _ HP1.out).mono ?_; rintro e w2 ⟨rfl, hb2⟩; have HP2 := Lib.hid (HP1.out.on hb2); have HO2 := Lib.hid (HO1.out.trans (Only.of hb2)); have HZ2 := Lib.hid (HZ1.out.on hb2); clear hb2)
    | (go_at_call 60; refine (HS0.out _ (HP.out.on (HB.out _))).mono ?_; rintro e w1 ⟨rfl, hb1⟩; have HP1 := Lib.hid ((HP.out.on (HB.out _)).on hb1); have HO1 := Lib.hid ((Only.of (pb := rb) (HB.out _)).trans (Only.of hb1)); have HZ1 := Lib.hid ((Bk.new w _ _).on hb1); have d2 := HP1.out.box.cell 2 _ rfl; have d2' := HP1.out.box.soft 2; clear hb1))
  obtain ⟨q0, q1, q2, q3, q4, q5⟩ := (load6 HZ9.out (.int .u8 L.kind) (.string L.who.v) (.string L.who.s) (.int .i64 L.who.n) (.string L.pred) (.slice q' L.args.length c')).six
  have hlt := HZ5.out.lt
  refine bodyPost_ret (v := Lp.agg ⟨L.kind, L.who, L.pred, q', c', L.args⟩) ?_ rfl ?_
  · simp [results, Tryz.results61, go_sem, q0, q1, q2, q3, q4, q5, Lp.agg]
  · exact rsaid_close (w2 := w5) (w3 := w9) (G := w.heap.size + 1) (L := L) (set6 (Nat.le_refl _) _ _ _ _ _ _) ((Above.refl _ _).set6 (by omega) _ _ _ _ _ _) (by omega) (by omega) hpb HO5.out HT9.out HF9.out HO9.out HS9.out
end Go.Proofs.YtfmkfabbiifolaaGreatDoor
