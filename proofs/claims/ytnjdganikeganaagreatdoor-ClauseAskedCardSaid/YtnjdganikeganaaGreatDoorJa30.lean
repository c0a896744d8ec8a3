/-
  Joined of: RdrG.
-/
import Derived.Test.YtnjdganikeganaaGreatDoorJa29
set_option linter.unusedVariables false
set_option linter.unusedSimpArgs false
/-
  Contract: the reference's reader: literal.
-/
namespace Go.Proofs.YtnjdganikeganaaGreatDoor
open Go.RowKit

theorem kind_lt {ts : List Tok} {k : Nat} (h : isT ts k = true) : k < ts.length := by
  exact kindAt_lt (fun h0 => by simp [isT, h0] at h)
theorem comp_state {s : ByteArray} {ts : List Tok} {k : Nat} {fr : Int} {w : World} {rb : Nat} {q : Option Addr} {c : Nat} (hk : isT ts k = true) (hx : textAt s ts (k + 1) ≠ wdUnlike) (t2 : Tm) (k2 : Nat) (e2 f2 : Int)
    (hd : (textAt s ts (k + 1) = wdLess ∧ e2 = 0 ∧ f2 = fr ∧ k2 = k + 2) ∨ (textAt s ts (k + 1) ≠ wdLess ∧ e2 = 6 ∧ f2 = placeAt s ts (k + 1)))
    (ht : (e2 = 0 ∧ isT ts k2 = true ∧ t2 = termR s ts k2 ∧ Rr w rb s q c ts (k2 + 1) 0 f2) ∨ (e2 = 0 ∧ isT ts k2 = false ∧ Rr w rb s q c ts k2 6 (placeAt s ts k2)) ∨ (e2 ≠ 0 ∧ Rr w rb s q c ts k2 e2 f2)) :
    (∃ k', compR s ts k = .ok (⟨3, tmZ, ⟨#[]⟩, [termR s ts k, t2]⟩, k') ∧ Rr w rb s q c ts k' 0 fr) ∨ (∃ k' n p, n ≠ 0 ∧ compR s ts k = .error (n, p) ∧ Rr w rb s q c ts k' n p) := by
  rcases hd with ⟨hy, rfl, rfl, rfl⟩ | ⟨hn, rfl, rfl⟩
  · rcases ht with ⟨_, h1, rfl, h2⟩ | ⟨_, h1, h2⟩ | ⟨h1, _⟩
    · exact .inl ⟨_, by simp [compR, hk, hy, h1], h2⟩
    · exact .inr ⟨_, 6, _, by decide, by simp [compR, hk, hy, h1], h2⟩
    · exact absurd rfl h1
  · rcases ht with ⟨h1, _⟩ | ⟨h1, _⟩ | ⟨_, h2⟩
    · exact absurd h1 (by decide)
    · exact absurd h1 (by decide)
    · exact .inr ⟨_, 6, _, by decide, by simp [compR, hk, hn, hx], h2⟩
theorem unlike_state {s : ByteArray} {ts : List Tok} {k : Nat} {fr : Int} {w : World} {rb : Nat} {q : Option Addr} {c : Nat} (hk : isT ts k = true) (hx : textAt s ts (k + 1) = wdUnlike) (t2 : Tm)
    (ht : ((0 : Int) = 0 ∧ isT ts (k + 2) = true ∧ t2 = termR s ts (k + 2) ∧ Rr w rb s q c ts (k + 2 + 1) 0 fr) ∨ ((0 : Int) = 0 ∧ isT ts (k + 2) = false ∧ Rr w rb s q c ts (k + 2) 6 (placeAt s ts (k + 2))) ∨ ((0 : Int) ≠ 0 ∧ Rr w rb s q c ts (k + 2) 0 fr)) :
    (∃ k', compR s ts k = .ok (⟨4, tmZ, ⟨#[]⟩, [termR s ts k, t2]⟩, k') ∧ Rr w rb s q c ts k' 0 fr) ∨ (∃ k' n p, n ≠ 0 ∧ compR s ts k = .error (n, p) ∧ Rr w rb s q c ts k' n p) := by
  have hl : wdUnlike ≠ wdLess := by decide
  rcases ht with ⟨_, h1, rfl, h2⟩ | ⟨_, h1, h2⟩ | ⟨h1, _⟩
  · exact .inl ⟨_, by simp [compR, hk, hl, hx, h1], h2⟩
  · exact .inr ⟨_, 6, _, by decide, by simp [compR, hk, hl, hx, h1], h2⟩
  · exact absurd rfl h1
theorem toList_bne {x : ByteArray} {l : List UInt8} (h : ¬ x = ⟨l.toArray⟩) : (x.toList != l) = true := by simp only [bne, toList_beq h]; rfl
theorem toList_bne_no {x : ByteArray} {l : List UInt8} (h : x = ⟨l.toArray⟩) : (x.toList != l) = false := by simp only [bne, toList_beq_yes h]; rfl

set_option maxHeartbeats 8000000 in
set_option maxRecDepth 100000 in
theorem rlit_not (w : World) (rb : Nat) (s : ByteArray) (q : Option Addr) (c : Nat) (ts : List Tok) (k : Nat) (fr : Int) (h : Rr w rb s q c ts k 0 fr) (hn : textAt s ts k = wdNot) :
    Calls Tryz.prog 35 #[.pointer (some ⟨rb, 0, none⟩)] w (RSaidPost w rb s q c ts fr (saidR s ts 2 (k + 1))) := by
  have HP := Lib.hid h
  have hpb := h.lt
  have hl := h.src.len
  have HB := Lib.hid (below1 w)
  have hk : k < ts.length := text_lt hn (by decide)
  have g0 := toList_beq_yes (l := [110, 111, 116]) hn
  have HS0 := Lib.hid (show ∀ wx, Rr wx rb s q c ts k 0 fr → Calls Tryz.prog 34 #[.pointer (some ⟨rb, 0, none⟩), .int .i64 0] wx fun e w' => e = .returned (.string (textAt s ts k)) ∧ Below wx.heap.size wx w' from fun wx hx => rtext_any wx rb s q c ts k 0 0 fr hx (by omega))
  have HR := Lib.hid (show saidR s ts 2 (k + 1) = saidR s ts 2 (k + 1) from rfl)
  obtain ⟨R, hR⟩ : ∃ R, R = saidR s ts 2 (k + 1) := ⟨_, rfl⟩
  have HR := Lib.hid hR.symm
  rw [← hR]
  clear hR
  have HS := Lib.hid (show ∀ wx, Rr wx rb s q c ts (k + 1) 0 fr → Calls Tryz.prog 42 #[.pointer (some ⟨rb, 0, none⟩), .int .u8 2] wx (RSaidPost wx rb s q c ts fr R) from fun wx hx => HR.out ▸ rsaid_any wx rb s q c ts (k + 1) 2 fr hx)
  generalize textAt s ts k = x0 at *
  clear h hn HR
  go_enter Tryz.func35, Tryz.ntmps35
  go_wp2_with (first
    | (go_at_call 42; refine (HS.out _ (HP1.out.set 2 _ (k + 1) 0 fr (by omega) (by simp))).mono ?_; rintro e w9 ⟨L, q', c', rfl, ht9, hf9, ho9, hs9⟩; have HT9 := Lib.hid ht9; have HF9 := Lib.hid hf9; have HO9 := Lib.hid ho9; have HS9 := Lib.hid hs9; have HZ9 := Lib.hid ((HZ1.out.other (b' := rb) (by omega) 2 _).only ho9 (by omega)); obtain ⟨r0, r1, r2, r3, r4, r5⟩ := HZ9.out.six; obtain ⟨z0, z1, z2, z3, z4, z5, z6⟩ := HZ9.out.softs; unfold Lp.agg; clear ht9 hf9 ho9 hs9)
    | (go_at_call 34; refine (HS0.out _ (HP.out.on (HB.out _))).mono ?_; rintro e w1 ⟨rfl, hb1⟩; have HP1 := Lib.hid ((HP.out.on (HB.out _)).on hb1); have HO1 := Lib.hid ((Only.of (pb := rb) (HB.out _)).trans (Only.of hb1)); have HZ1 := Lib.hid ((Bk.new w _ _).on hb1); have d2 := HP1.out.box.cell 2 _ rfl; have d2' := HP1.out.box.soft 2; clear hb1))
  obtain ⟨q0, q1, q2, q3, q4, q5⟩ := (load6 HZ9.out (.int .u8 L.kind) (.string L.who.v) (.string L.who.s) (.int .i64 L.who.n) (.string L.pred) (.slice q' L.args.length c')).six
  have hlt := HZ1.out.lt
  refine bodyPost_ret (v := Lp.agg ⟨L.kind, L.who, L.pred, q', c', L.args⟩) ?_ rfl ?_
  · simp [results, Tryz.results35, go_sem, q0, q1, q2, q3, q4, q5, Lp.agg]
  · exact rsaid_close (w2 := (w1.setCell ⟨rb, 2, none⟩ (.int .i64 ((k : Int) + 1)))) (w3 := w9) (G := w.heap.size + 1) (L := L) (set6 (Nat.le_refl _) _ _ _ _ _ _) ((Above.refl _ _).set6 (by omega) _ _ _ _ _ _) (Nat.le_trans hlt (Only.set rb w1 2 _).size) (by omega) hpb (HO1.out.trans (Only.set rb _ 2 _)) HT9.out HF9.out HO9.out HS9.out
set_option maxHeartbeats 8000000 in
set_option maxRecDepth 100000 in
theorem rlit_says (w : World) (rb : Nat) (s : ByteArray) (q : Option Addr) (c : Nat) (ts : List Tok) (k : Nat) (fr : Int) (h : Rr w rb s q c ts k 0 fr) (hn : textAt s ts k ≠ wdNot) (h2 : kindAt ts k = 2) (hs : textAt s ts (k + 1) = wdSays) :
    Calls Tryz.prog 35 #[.pointer (some ⟨rb, 0, none⟩)] w (RSaidPost w rb s q c ts fr (saidR s ts 1 k)) := by
  have HP := Lib.hid h
  have hpb := h.lt
  have hl := h.src.len
  have HB := Lib.hid (below1 w)
  have g0 := toList_beq (l := [110, 111, 116]) hn
  have g3 : (kindAt ts k == 3) = false := by rw [h2]; rfl
  have g2 : (kindAt ts k == 2) = true := by rw [h2]; rfl
  have g1 : (kindAt ts k == 1) = false := by rw [h2]; rfl
  have gs := toList_beq_yes (l := [115, 97, 121, 115]) hs
  clear h2 hs
  have HS0 := Lib.hid (show ∀ wx, Rr wx rb s q c ts k 0 fr → Calls Tryz.prog 34 #[.pointer (some ⟨rb, 0, none⟩), .int .i64 0] wx fun e w' => e = .returned (.string (textAt s ts k)) ∧ Below wx.heap.size wx w' from fun wx hx => rtext_any wx rb s q c ts k 0 0 fr hx (by omega))
  have HS1 := Lib.hid (show ∀ wx, Rr wx rb s q c ts k 0 fr → Calls Tryz.prog 34 #[.pointer (some ⟨rb, 0, none⟩), .int .i64 1] wx fun e w' => e = .returned (.string (textAt s ts (k + 1))) ∧ Below wx.heap.size wx w' from fun wx hx => rtext_any wx rb s q c ts k 1 0 fr hx (by omega))
  have HK := Lib.hid (show ∀ wx, Rr wx rb s q c ts k 0 fr → Calls Tryz.prog 66 #[.pointer (some ⟨rb, 0, none⟩)] wx fun e w' => e = .returned (.int .u8 (kindAt ts k)) ∧ Below wx.heap.size wx w' from fun wx hx => rkind_any wx rb s q c ts k 0 fr hx)
  obtain ⟨R, hR⟩ : ∃ R, R = saidR s ts 1 k := ⟨_, rfl⟩
  have HR := Lib.hid hR.symm
  rw [← hR]
  clear hR
  have HS := Lib.hid (show ∀ wx, Rr wx rb s q c ts (k) 0 fr → Calls Tryz.prog 42 #[.pointer (some ⟨rb, 0, none⟩), .int .u8 1] wx (RSaidPost wx rb s q c ts fr R) from fun wx hx => HR.out ▸ rsaid_any wx rb s q c ts (k) 1 fr hx)
  generalize textAt s ts k = x0 at *
  generalize textAt s ts (k + 1) = x1 at *
  generalize kindAt ts k = kk at *
  clear h hn HR 
  go_enter Tryz.func35, Tryz.ntmps35
  go_wp2_with (first
    | (go_at_call 42; refine (HS.out _ HP5.out).mono ?_; rintro e w9 ⟨L, q', c', rfl, ht9, hf9, ho9, hs9⟩; have HT9 := Lib.hid ht9; have HF9 := Lib.hid hf9; have HO9 := Lib.hid ho9; have HS9 := Lib.hid hs9; have HZ9 := Lib.hid (HZ5.out.only ho9 (by omega)); obtain ⟨r0, r1, r2, r3, r4, r5⟩ := HZ9.out.six; obtain ⟨z0, z1, z2, z3, z4, z5, z6⟩ := HZ9.out.softs; unfold Lp.agg; clear ht9 hf9 ho9 hs9)
    | (go_at_call 66; refine (HK.out _ HP4.out).mono ?_; rintro e w5 ⟨rfl, hb5⟩; have HP5 := Lib.hid (HP4.out.on hb5); have HO5 := Lib.hid (HO4.out.trans (Only.of hb5)); have HZ5 := Lib.hid (HZ4.out.on hb5); clear hb5)
    | (go_at_call 66; refine (HK.out _ HP3.out).mono ?_; rintro e w4 ⟨rfl, hb4⟩; have HP4 := Lib.hid (HP3.out.on hb4); have HO4 := Lib.hid (HO3.out.trans (Only.of hb4)); have HZ4 := Lib.hid (HZ3.out.on hb4); clear hb4)
    | (go_at_call 66; refine (HK.out _ HP2.out).mono ?_; rintro e w3 ⟨rfl, hb3⟩; have HP3 := Lib.hid (HP2.out.on hb3); have HO3 := Lib.hid (HO2.out.trans (Only.of hb3)); have HZ3 := Lib.hid (HZ2.out.on hb3); clear hb3)
    | (go_at_call 34; refine (HS1.out _ HP1.out).mono ?_; rintro e w2 ⟨rfl, hb2⟩; have HP2 := Lib.hid (HP1.out.on hb2); have HO2 := Lib.hid (HO1.out.trans (Only.of hb2)); have HZ2 := Lib.hid (HZ1.out.on hb2); clear hb2)
    | (go_at_call 34; refine (HS0.out _ (HP.out.on (HB.out _))).mono ?_; rintro e w1 ⟨rfl, hb1⟩; have HP1 := Lib.hid ((HP.out.on (HB.out _)).on hb1); have HO1 := Lib.hid ((Only.of (pb := rb) (HB.out _)).trans (Only.of hb1)); have HZ1 := Lib.hid ((Bk.new w _ _).on hb1); have d2 := HP1.out.box.cell 2 _ rfl; have d2' := HP1.out.box.soft 2; clear hb1))
  obtain ⟨q0, q1, q2, q3, q4, q5⟩ := (load6 HZ9.out (.int .u8 L.kind) (.string L.who.v) (.string L.who.s) (.int .i64 L.who.n) (.string L.pred) (.slice q' L.args.length c')).six
  have hlt := HZ5.out.lt
  refine bodyPost_ret (v := Lp.agg ⟨L.kind, L.who, L.pred, q', c', L.args⟩) ?_ rfl ?_
  · simp [results, Tryz.results35, go_sem, q0, q1, q2, q3, q4, q5, Lp.agg]
  · exact rsaid_close (w2 := w5) (w3 := w9) (G := w.heap.size + 1) (L := L) (set6 (Nat.le_refl _) _ _ _ _ _ _) ((Above.refl _ _).set6 (by omega) _ _ _ _ _ _) (by omega) (by omega) hpb HO5.out HT9.out HF9.out HO9.out HS9.out
set_option maxHeartbeats 8000000 in
set_option maxRecDepth 100000 in
theorem rlit_name (w : World) (rb : Nat) (s : ByteArray) (q : Option Addr) (c : Nat) (ts : List Tok) (k : Nat) (fr : Int) (h : Rr w rb s q c ts k 0 fr) (hn : textAt s ts k ≠ wdNot) (h1 : kindAt ts k = 1) (hl1 : textAt s ts (k + 1) ≠ wdLess) (hu : textAt s ts (k + 1) ≠ wdUnlike) :
    Calls Tryz.prog 35 #[.pointer (some ⟨rb, 0, none⟩)] w (RSaidPost w rb s q c ts fr (saidR s ts 1 k)) := by
  have HP := Lib.hid h
  have hpb := h.lt
  have hl := h.src.len
  have HB := Lib.hid (below1 w)
  have g0 := toList_beq (l := [110, 111, 116]) hn
  have g3 : (kindAt ts k == 3) = false := by rw [h1]; rfl
  have g2 : (kindAt ts k == 2) = false := by rw [h1]; rfl
  have g1 : (kindAt ts k == 1) = true := by rw [h1]; rfl
  have gl := toList_beq (l := [60]) hl1
  have gu := toList_beq (l := [33, 61]) hu
  clear h1 hl1 hu
  have HS0 := Lib.hid (show ∀ wx, Rr wx rb s q c ts k 0 fr → Calls Tryz.prog 34 #[.pointer (some ⟨rb, 0, none⟩), .int .i64 0] wx fun e w' => e = .returned (.string (textAt s ts k)) ∧ Below wx.heap.size wx w' from fun wx hx => rtext_any wx rb s q c ts k 0 0 fr hx (by omega))
  have HS1 := Lib.hid (show ∀ wx, Rr wx rb s q c ts k 0 fr → Calls Tryz.prog 34 #[.pointer (some ⟨rb, 0, none⟩), .int .i64 1] wx fun e w' => e = .returned (.string (textAt s ts (k + 1))) ∧ Below wx.heap.size wx w' from fun wx hx => rtext_any wx rb s q c ts k 1 0 fr hx (by omega))
  have HK := Lib.hid (show ∀ wx, Rr wx rb s q c ts k 0 fr → Calls Tryz.prog 66 #[.pointer (some ⟨rb, 0, none⟩)] wx fun e w' => e = .returned (.int .u8 (kindAt ts k)) ∧ Below wx.heap.size wx w' from fun wx hx => rkind_any wx rb s q c ts k 0 fr hx)
  obtain ⟨R, hR⟩ : ∃ R, R = saidR s ts 1 k := ⟨_, rfl⟩
  have HR := Lib.hid hR.symm
  rw [← hR]
  clear hR
  have HS := Lib.hid (show ∀ wx, Rr wx rb s q c ts (k) 0 fr → Calls Tryz.prog 42 #[.pointer (some ⟨rb, 0, none⟩), .int .u8 1] wx (RSaidPost wx rb s q c ts fr R) from fun wx hx => HR.out ▸ rsaid_any wx rb s q c ts (k) 1 fr hx)
  generalize textAt s ts k = x0 at *
  generalize textAt s ts (k + 1) = x1 at *
  generalize kindAt ts k = kk at *
  clear h hn HR 
  go_enter Tryz.func35, Tryz.ntmps35
  go_wp2_with (first
    | (go_at_call 42; refine (HS.out _ HP5.out).mono ?_; rintro e w9 ⟨L, q', c', rfl, ht9, hf9, ho9, hs9⟩; have HT9 := Lib.hid ht9; have HF9 := Lib.hid hf9; have HO9 := Lib.hid ho9; have HS9 := Lib.hid hs9; have HZ9 := Lib.hid (HZ5.out.only ho9 (by omega)); obtain ⟨r0, r1, r2, r3, r4, r5⟩ := HZ9.out.six; obtain ⟨z0, z1, z2, z3, z4, z5, z6⟩ := HZ9.out.softs; unfold Lp.agg; clear ht9 hf9 ho9 hs9)
    | (go_at_call 66; refine (HK.out _ HP4.out).mono ?_; rintro e w5 ⟨rfl, hb5⟩; have HP5 := Lib.hid (HP4.out.on hb5); have HO5 := Lib.hid (HO4.out.trans (Only.of hb5)); have HZ5 := Lib.hid (HZ4.out.on hb5); clear hb5)
    | (go_at_call 66; refine (HK.out _ HP3.out).mono ?_; rintro e w4 ⟨rfl, hb4⟩; have HP4 := Lib.hid (HP3.out.on hb4); have HO4 := Lib.hid (HO3.out.trans (Only.of hb4)); have HZ4 := Lib.hid (HZ3.out.on hb4); clear hb4)
    | (go_at_call 66; refine (HK.out _ HP2.out).mono ?_; rintro e w3 ⟨rfl, hb3⟩; have HP3 := Lib.hid (HP2.out.on hb3); have HO3 := Lib.hid (HO2.out.trans (Only.of hb3)); have HZ3 := Lib.hid (HZ2.out.on hb3); clear hb3)
    | (go_at_call 34; refine (HS1.out _ HP1.out).mono ?_; rintro e w2 ⟨rfl, hb2⟩; have HP2 := Lib.hid (HP1.out.on hb2); have HO2 := Lib.hid (HO1.out.trans (Only.of hb2)); have HZ2 := Lib.hid (HZ1.out.on hb2); clear hb2)
    | (go_at_call 34; refine (HS0.out _ (HP.out.on (HB.out _))).mono ?_; rintro e w1 ⟨rfl, hb1⟩; have HP1 := Lib.hid ((HP.out.on (HB.out _)).on hb1); have HO1 := Lib.hid ((Only.of (pb := rb) (HB.out _)).trans (Only.of hb1)); have HZ1 := Lib.hid ((Bk.new w _ _).on hb1); have d2 := HP1.out.box.cell 2 _ rfl; have d2' := HP1.out.box.soft 2; clear hb1))
  obtain ⟨q0, q1, q2, q3, q4, q5⟩ := (load6 HZ9.out (.int .u8 L.kind) (.string L.who.v) (.string L.who.s) (.int .i64 L.who.n) (.string L.pred) (.slice q' L.args.length c')).six
  have hlt := HZ5.out.lt
  refine bodyPost_ret (v := Lp.agg ⟨L.kind, L.who, L.pred, q', c', L.args⟩) ?_ rfl ?_
  · simp [results, Tryz.results35, go_sem, q0, q1, q2, q3, q4, q5, Lp.agg]
  · exact rsaid_close (w2 := w5) (w3 := w9) (G := w.heap.size + 1) (L := L) (set6 (Nat.le_refl _) _ _ _ _ _ _) ((Above.refl _ _).set6 (by omega) _ _ _ _ _ _) (by omega) (by omega) hpb HO5.out HT9.out HF9.out HO9.out HS9.out
set_option maxHeartbeats 8000000 in
set_option maxRecDepth 100000 in
theorem rlit_other (w : World) (rb : Nat) (s : ByteArray) (q : Option Addr) (c : Nat) (ts : List Tok) (k : Nat) (fr : Int) (h : Rr w rb s q c ts k 0 fr) (hn : textAt s ts k ≠ wdNot) (h1 : kindAt ts k ≠ 1) (h2 : kindAt ts k ≠ 2) (h3 : kindAt ts k ≠ 3) :
    Calls Tryz.prog 35 #[.pointer (some ⟨rb, 0, none⟩)] w (RSaidPost w rb s q c ts fr (saidR s ts 1 k)) := by
  have HP := Lib.hid h
  have hpb := h.lt
  have hl := h.src.len
  have HB := Lib.hid (below1 w)
  have g0 := toList_beq (l := [110, 111, 116]) hn
  have g3 : (kindAt ts k == 3) = false := by simp [h3]
  have g2 : (kindAt ts k == 2) = false := by simp [h2]
  have g1 : (kindAt ts k == 1) = false := by simp [h1]
  clear h1 h2 h3
  have HS0 := Lib.hid (show ∀ wx, Rr wx rb s q c ts k 0 fr → Calls Tryz.prog 34 #[.pointer (some ⟨rb, 0, none⟩), .int .i64 0] wx fun e w' => e = .returned (.string (textAt s ts k)) ∧ Below wx.heap.size wx w' from fun wx hx => rtext_any wx rb s q c ts k 0 0 fr hx (by omega))
  have HS1 := Lib.hid (show ∀ wx, Rr wx rb s q c ts k 0 fr → Calls Tryz.prog 34 #[.pointer (some ⟨rb, 0, none⟩), .int .i64 1] wx fun e w' => e = .returned (.string (textAt s ts (k + 1))) ∧ Below wx.heap.size wx w' from fun wx hx => rtext_any wx rb s q c ts k 1 0 fr hx (by omega))
  have HK := Lib.hid (show ∀ wx, Rr wx rb s q c ts k 0 fr → Calls Tryz.prog 66 #[.pointer (some ⟨rb, 0, none⟩)] wx fun e w' => e = .returned (.int .u8 (kindAt ts k)) ∧ Below wx.heap.size wx w' from fun wx hx => rkind_any wx rb s q c ts k 0 fr hx)
  obtain ⟨R, hR⟩ : ∃ R, R = saidR s ts 1 k := ⟨_, rfl⟩
  have HR := Lib.hid hR.symm
  rw [← hR]
  clear hR
  have HS := Lib.hid (show ∀ wx, Rr wx rb s q c ts (k) 0 fr → Calls Tryz.prog 42 #[.pointer (some ⟨rb, 0, none⟩), .int .u8 1] wx (RSaidPost wx rb s q c ts fr R) from fun wx hx => HR.out ▸ rsaid_any wx rb s q c ts (k) 1 fr hx)
  generalize textAt s ts k = x0 at *
  generalize textAt s ts (k + 1) = x1 at *
  generalize kindAt ts k = kk at *
  clear h hn HR 
  go_enter Tryz.func35, Tryz.ntmps35
  go_wp2_with (first
    | (go_at_call 42; refine (HS.out _ HP5.out).mono ?_; rintro e w9 ⟨L, q', c', rfl, ht9, hf9, ho9, hs9⟩; have HT9 := Lib.hid ht9; have HF9 := Lib.hid hf9; have HO9 := Lib.hid ho9; have HS9 := Lib.hid hs9; have HZ9 := Lib.hid (HZ5.out.only ho9 (by omega)); obtain ⟨r0, r1, r2, r3, r4, r5⟩ := HZ9.out.six; obtain ⟨z0, z1, z2, z3, z4, z5, z6⟩ := HZ9.out.softs; unfold Lp.agg; clear ht9 hf9 ho9 hs9)
    | (go_at_call 66; refine (HK.out _ HP4.out).mono ?_; rintro e w5 ⟨rfl, hb5⟩; have HP5 := Lib.hid (HP4.out.on hb5); have HO5 := Lib.hid (HO4.out.trans (Only.of hb5)); have HZ5 := Lib.hid (HZ4.out.on hb5); clear hb5)
    | (go_at_call 66; refine (HK.out _ HP3.out).mono ?_; rintro e w4 ⟨rfl, hb4⟩; have HP4 := Lib.hid (HP3.out.on hb4); have HO4 := Lib.hid (HO3.out.trans (Only.of hb4)); have HZ4 := Lib.hid (HZ3.out.on hb4); clear hb4)
    | (go_at_call 66; refine (HK.out _ HP2.out).mono ?_; rintro e w3 ⟨rfl, hb3⟩; have HP3 := Lib.hid (HP2.out.on hb3); have HO3 := Lib.hid (HO2.out.trans (Only.of hb3)); have HZ3 := Lib.hid (HZ2.out.on hb3); clear hb3)
    | (go_at_call 34; refine (HS1.out _ HP1.out).mono ?_; rintro e w2 ⟨rfl, hb2⟩; have HP2 := Lib.hid (HP1.out.on hb2); have HO2 := Lib.hid (HO1.out.trans (Only.of hb2)); have HZ2 := Lib.hid (HZ1.out.on hb2); clear hb2)
    | (go_at_call 34; refine (HS0.out _ (HP.out.on (HB.out _))).mono ?_; rintro e w1 ⟨rfl, hb1⟩; have HP1 := Lib.hid ((HP.out.on (HB.out _)).on hb1); have HO1 := Lib.hid ((Only.of (pb := rb) (HB.out _)).trans (Only.of hb1)); have HZ1 := Lib.hid ((Bk.new w _ _).on hb1); have d2 := HP1.out.box.cell 2 _ rfl; have d2' := HP1.out.box.soft 2; clear hb1))
  obtain ⟨q0, q1, q2, q3, q4, q5⟩ := (load6 HZ9.out (.int .u8 L.kind) (.string L.who.v) (.string L.who.s) (.int .i64 L.who.n) (.string L.pred) (.slice q' L.args.length c')).six
  have hlt := HZ5.out.lt
  refine bodyPost_ret (v := Lp.agg ⟨L.kind, L.who, L.pred, q', c', L.args⟩) ?_ rfl ?_
  · simp [results, Tryz.results35, go_sem, q0, q1, q2, q3, q4, q5, Lp.agg]
  · exact rsaid_close (w2 := w5) (w3 := w9) (G := w.heap.size + 1) (L := L) (set6 (Nat.le_refl _) _ _ _ _ _ _) ((Above.refl _ _).set6 (by omega) _ _ _ _ _ _) (by omega) (by omega) hpb HO5.out HT9.out HF9.out HO9.out HS9.out
end Go.Proofs.YtnjdganikeganaaGreatDoor
