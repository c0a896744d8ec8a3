/-
  Joined of: RdrH.
-/
import Derived.Test.YtfmkfabbiifolaaGreatDoorJb05
set_option linter.unusedVariables false
set_option linter.unusedSimpArgs false
/-
  Contract: the reference's reader: literal, whole.
-/
namespace Go.Proofs.YtfmkfabbiifolaaGreatDoor
open Go.RowKit

theorem term_on {w w' : World} {rb : Nat} {s : ByteArray} {q : Option Addr} {c : Nat} {ts : List Tok} {k : Nat} {er fr : Int} {t : Tm} (hb : Below w.heap.size w w')
    (h : (er = 0 ∧ isT ts k = true ∧ t = termR s ts k ∧ Rr w rb s q c ts (k + 1) 0 fr) ∨ (er = 0 ∧ isT ts k = false ∧ Rr w rb s q c ts k 6 (placeAt s ts k)) ∨ (er ≠ 0 ∧ Rr w rb s q c ts k er fr)) :
    (er = 0 ∧ isT ts k = true ∧ t = termR s ts k ∧ Rr w' rb s q c ts (k + 1) 0 fr) ∨ (er = 0 ∧ isT ts k = false ∧ Rr w' rb s q c ts k 6 (placeAt s ts k)) ∨ (er ≠ 0 ∧ Rr w' rb s q c ts k er fr) := by
  rcases h with ⟨h1, h2, h3, h4⟩ | ⟨h1, h2, h3⟩ | ⟨h1, h2⟩
  · exact .inl ⟨h1, h2, h3, h4.on hb⟩
  · exact .inr (.inl ⟨h1, h2, h3.on hb⟩)
  · exact .inr (.inr ⟨h1, h2.on hb⟩)
theorem term_on0 {w w' : World} {rb : Nat} {s : ByteArray} {q : Option Addr} {c : Nat} {ts : List Tok} {k : Nat} {fr : Int} {t : Tm} (hb : Below w.heap.size w w')
    (h : (True ∧ isT ts k = true ∧ t = termR s ts k ∧ Rr w rb s q c ts (k + 1) 0 fr) ∨ (True ∧ isT ts k = false ∧ Rr w rb s q c ts k 6 (placeAt s ts k)) ∨ ((0 : Int) ≠ 0 ∧ Rr w rb s q c ts k 0 fr)) :
    (True ∧ isT ts k = true ∧ t = termR s ts k ∧ Rr w' rb s q c ts (k + 1) 0 fr) ∨ (True ∧ isT ts k = false ∧ Rr w' rb s q c ts k 6 (placeAt s ts k)) ∨ ((0 : Int) ≠ 0 ∧ Rr w' rb s q c ts k 0 fr) := by
  rcases h with ⟨h1, h2, h3, h4⟩ | ⟨h1, h2, h3⟩ | ⟨h1, h2⟩
  · exact .inl ⟨h1, h2, h3, h4.on hb⟩
  · exact .inr (.inl ⟨h1, h2, h3.on hb⟩)
  · exact .inr (.inr ⟨h1, h2.on hb⟩)

set_option maxHeartbeats 8000000 in
set_option maxRecDepth 100000 in
theorem rlit_num_less (w : World) (rb : Nat) (s : ByteArray) (q : Option Addr) (c : Nat) (ts : List Tok) (k : Nat) (fr : Int) (h : Rr w rb s q c ts k 0 fr) (hn : textAt s ts k ≠ wdNot) (hk : kindAt ts k = 3) (hu : textAt s ts (k + 1) ≠ wdUnlike) :
    Calls Tryz.prog 61 #[.pointer (some ⟨rb, 0, none⟩)] w (RSaidPost w rb s q c ts fr (compR s ts k)) := by
  have HP := Lib.hid h
  have hpb := h.lt
  have hl := h.src.len
  have HB := Lib.hid (below1 w)
  have g0 := toList_beq (l := [110, 111, 116]) hn
  have hT : isT ts k = true := by simp [isT, hk]
  have hkl : k < ts.length := kind_lt hT
  have g3 : (kindAt ts k == 3) = true := by rw [hk]; rfl
  have gu := toList_beq (l := [33, 61]) hu
  clear hk
  have HS0 := Lib.hid (show ∀ wx, Rr wx rb s q c ts k 0 fr → Calls Tryz.prog 60 #[.pointer (some ⟨rb, 0, none⟩), .int .i64 0] wx fun e w' => e = .returned (.string (textAt s ts k)) ∧ Below wx.heap.size wx w' from fun wx hx => rtext_any wx rb s q c ts k 0 0 fr hx (by omega))
  have HS1 := Lib.hid (show ∀ wx, Rr wx rb s q c ts k 0 fr → Calls Tryz.prog 60 #[.pointer (some ⟨rb, 0, none⟩), .int .i64 1] wx fun e w' => e = .returned (.string (textAt s ts (k + 1))) ∧ Below wx.heap.size wx w' from fun wx hx => rtext_any wx rb s q c ts k 1 0 fr hx (by omega))
  have HK := Lib.hid (show ∀ wx, Rr wx rb s q c ts k 0 fr → Calls Tryz.prog 92 #[.pointer (some ⟨rb, 0, none⟩)] wx fun e w' => e = .returned (.int .u8 (kindAt ts k)) ∧ Below wx.heap.size wx w' from fun wx hx => rkind_any wx rb s q c ts k 0 fr hx)
  obtain ⟨R, hR⟩ : ∃ R, R = compR s ts k := ⟨_, rfl⟩
  have HR := Lib.hid hR.symm
  rw [← hR]
  clear hR
  have HT1 := Lib.hid (show ∀ wx, Rr wx rb s q c ts k 0 fr → Calls Tryz.prog 93 #[.pointer (some ⟨rb, 0, none⟩)] wx fun e w' => e = .returned (.agg #[.string (termR s ts k).v, .string (termR s ts k).s, .int .i64 (termR s ts k).n]) ∧ Rr w' rb s q c ts (k + 1) 0 fr ∧ Only rb wx w' from fun wx hx => (rterm_any wx rb s q c ts k 0 fr hx).mono fun e w' ⟨t, h1, h2, h3⟩ => by
    rcases h3 with ⟨_, _, h4, h5⟩ | ⟨_, h4, _⟩ | ⟨h4, _⟩
    · subst h4; exact ⟨h1, h5, h2⟩
    · rw [hT] at h4; cases h4
    · exact absurd rfl h4)
  have HS2 := Lib.hid (show ∀ wx, Rr wx rb s q c ts (k + 1) 0 fr → Calls Tryz.prog 60 #[.pointer (some ⟨rb, 0, none⟩), .int .i64 0] wx fun e w' => e = .returned (.string (textAt s ts (k + 1))) ∧ Below wx.heap.size wx w' from fun wx hx => rtext_any wx rb s q c ts (k + 1) 0 0 fr hx (by omega))
  have HN := Lib.hid (show ∀ wx, Rr wx rb s q c ts (k + 1) 0 fr → Calls Tryz.prog 63 #[.pointer (some ⟨rb, 0, none⟩), .string ⟨#[60]⟩] wx fun e w' => e = .returned (.tuple #[]) ∧ Only rb wx w' ∧ ∃ k2 e2 f2, Rr w' rb s q c ts k2 e2 f2 ∧ ((textAt s ts (k + 1) = wdLess ∧ e2 = 0 ∧ f2 = fr ∧ k2 = k + 2) ∨ (textAt s ts (k + 1) ≠ wdLess ∧ e2 = 6 ∧ f2 = placeAt s ts (k + 1))) from fun wx hx => rneed_sum wx rb s q c ts (k + 1) fr _ hx (by decide))
  have HT2 := Lib.hid (show ∀ wx k2 e2 f2, Rr wx rb s q c ts k2 e2 f2 → Calls Tryz.prog 93 #[.pointer (some ⟨rb, 0, none⟩)] wx (RTermPost wx rb s q c ts k2 e2 f2) from fun wx k2 e2 f2 hx => rterm_any wx rb s q c ts k2 e2 f2 hx)
  have HST := Lib.hid (show ∀ t2 wx k2 e2 f2, ((textAt s ts (k + 1) = wdLess ∧ e2 = 0 ∧ f2 = fr ∧ k2 = k + 2) ∨ (textAt s ts (k + 1) ≠ wdLess ∧ e2 = 6 ∧ f2 = placeAt s ts (k + 1))) → ((e2 = 0 ∧ isT ts k2 = true ∧ t2 = termR s ts k2 ∧ Rr wx rb s q c ts (k2 + 1) 0 f2) ∨ (e2 = 0 ∧ isT ts k2 = false ∧ Rr wx rb s q c ts k2 6 (placeAt s ts k2)) ∨ (e2 ≠ 0 ∧ Rr wx rb s q c ts k2 e2 f2)) → ((∃ k', R = .ok (⟨3, ⟨⟨#[]⟩, ⟨#[]⟩, 0⟩, ⟨#[]⟩, [termR s ts k, t2]⟩, k') ∧ Rr wx rb s q c ts k' 0 fr) ∨ (∃ k' n p, n ≠ 0 ∧ R = .error (n, p) ∧ Rr wx rb s q c ts k' n p)) from fun t2 wx k2 e2 f2 hd ht => HR.out ▸ comp_state hT hu t2 k2 e2 f2 hd ht)
  generalize termR s ts k = t at *
  obtain ⟨tv, tsy, tn⟩ := t
  simp only at HST HT1
  generalize textAt s ts k = x0 at *
  generalize textAt s ts (k + 1) = x1 at *
  generalize kindAt ts k = kk at *
  clear h hn HR hT hu
  go_enter Tryz.func61, Tryz.ntmps61
  go_wp2_with (first
    | (go_at_call 93; refine (HT2.out _ _ _ _ HP8.out).mono ?_; rintro e w9 ⟨t2, rfl, ho9, hs9⟩; have HS9 := Lib.hid hs9; have HO9 := Lib.hid (HO8.out.trans ho9); have hw9 := ho9.size; have HX9 := Lib.hid (HX8.out.only ho9 (Nat.ne_of_gt hw6)); have HZ9 := Lib.hid (HZ8.out.only ho9 (by omega)); obtain ⟨e0, e1, e2'⟩ := (HX9.out.on (below1 w9 (.cells #[.string t2.v, .string t2.s, .int .i64 t2.n] 25))).three; obtain ⟨i0, i1, i2⟩ := (Bk.new w9 25 #[.string t2.v, .string t2.s, .int .i64 t2.n]).three; have HZA := Lib.hid ((HZ9.out.on (below1 w9 (.cells #[.string t2.v, .string t2.s, .int .i64 t2.n] 25))).on (below1 _ (.cells #[.string tv, .string tsy, .int .i64 tn, .string t2.v, .string t2.s, .int .i64 t2.n] 25))); obtain ⟨r0, r1, r2, r3, r4, r5⟩ := HZA.out.six; obtain ⟨z0, z1, z2, z3, z4, z5, z6⟩ := HZA.out.softs; clear ho9 hs9)
    | (go_at_call 63; refine (HN.out _ HP7.out).mono ?_; rintro e w8 ⟨rfl, ho8, k2, e2, f2, hr8, hd8⟩; have HP8 := Lib.hid hr8; have HD8 := Lib.hid hd8; have HO8 := Lib.hid (HO7.out.trans ho8); have HX8 := Lib.hid (HX7.out.only ho8 (Nat.ne_of_gt hw6)); have HZ8 := Lib.hid (HZ7.out.only ho8 (by omega)); clear ho8 hr8 hd8)
    | (go_at_call 60; refine (HS2.out _ (HP6.out.on (below1 w6 (.cells #[.string tv, .string tsy, .int .i64 tn] 25)))).mono ?_; rintro e w7 ⟨rfl, hb7⟩; have HP7 := Lib.hid ((HP6.out.on (below1 w6 (.cells #[.string tv, .string tsy, .int .i64 tn] 25))).on hb7); have HO7 := Lib.hid ((HO6.out.add ((below1 w6 (.cells #[.string tv, .string tsy, .int .i64 tn] 25)).mono HO6.out.size)).trans (Only.of hb7)); have HX7 := Lib.hid ((Bk.new w6 25 #[.string tv, .string tsy, .int .i64 tn]).on hb7); have HZ7 := Lib.hid ((HZ6.out.on (below1 w6 (.cells #[.string tv, .string tsy, .int .i64 tn] 25))).on hb7); have d7 := HP7.out.box.cell 2 _ rfl; have d7' := HP7.out.box.soft 2; clear hb7)
    | (go_at_call 93; refine (HT1.out _ HP3.out).mono ?_; rintro e w6 ⟨rfl, hp6, ho6⟩; have HP6 := Lib.hid hp6; have hw6 := hp6.lt; have HO6 := Lib.hid (HO3.out.trans ho6); have HZ6 := Lib.hid (HZ3.out.only ho6 (by omega)); clear hp6 ho6)
    | (go_at_call 92; refine (HK.out _ HP2.out).mono ?_; rintro e w3 ⟨rfl, hb3⟩; have HP3 := Lib.hid (HP2.out.on hb3); have HO3 := Lib.hid (HO2.out.trans (Only.of hb3)); have HZ3 := Lib.hid (HZ2.out.on hb3); clear hb3)
    | (go_at_call 60; refine (HS1.out _ HP1.out).mono ?_; rintro e w2 ⟨rfl, hb2⟩; have HP2 := Lib.hid (HP1.out.on hb2); have HO2 := Lib.hid (HO1.out.trans (Only.of hb2)); have HZ2 := Lib.hid (HZ1.out.on hb2); clear hb2)
    | (go_at_call 60; refine (HS0.out _ (HP.out.on (HB.out _))).mono ?_; rintro e w1 ⟨rfl, hb1⟩; have HP1 := Lib.hid ((HP.out.on (HB.out _)).on hb1); have HO1 := Lib.hid ((Only.of (pb := rb) (HB.out _)).trans (Only.of hb1)); have HZ1 := Lib.hid ((Bk.new w _ _).on hb1); have d2 := HP1.out.box.cell 2 _ rfl; have d2' := HP1.out.box.soft 2; clear hb1))
  obtain ⟨q0, q1, q2, q3, q4, q5⟩ := (load6 HZA.out (.int .u8 3) (.string ⟨#[]⟩) (.string ⟨#[]⟩) (.int .i64 0) (.string ⟨#[]⟩) (.slice (some ⟨w9.heap.size + 1, 0, none⟩) 2 2)).six
  have hlt := HZ9.out.lt
  refine bodyPost_ret (v := Lp.agg ⟨3, ⟨⟨#[]⟩, ⟨#[]⟩, 0⟩, ⟨#[]⟩, some ⟨w9.heap.size + 1, 0, none⟩, 2, [⟨tv, tsy, tn⟩, t2]⟩) ?_ rfl ?_
  · simp [results, Tryz.results61, go_sem, q0, q1, q2, q3, q4, q5, Lp.agg]
  · exact rsaid_close (w2 := w9.alloc (.cells #[.string t2.v, .string t2.s, .int .i64 t2.n] 25)) (w3 := (w9.alloc (.cells #[.string t2.v, .string t2.s, .int .i64 t2.n] 25)).alloc (.cells #[.string tv, .string tsy, .int .i64 tn, .string t2.v, .string t2.s, .int .i64 t2.n] 25)) (G := w.heap.size + 1) (L := ⟨3, ⟨⟨#[]⟩, ⟨#[]⟩, 0⟩, ⟨#[]⟩, [⟨tv, tsy, tn⟩, t2]⟩) (set6 (Nat.le_refl _) _ _ _ _ _ _) ((Above.refl _ _).set6 (by omega) _ _ _ _ _ _) (by simp; omega) (by omega) hpb (HO9.out.add ((below1 w9 (.cells #[.string t2.v, .string t2.s, .int .i64 t2.n] 25)).mono HO9.out.size)) (two_rd (t := ⟨tv, tsy, tn⟩) (u := t2) (by simpa using Bk.new (w9.alloc (.cells #[.string t2.v, .string t2.s, .int .i64 t2.n] 25)) 25 #[.string tv, .string tsy, .int .i64 tn, .string t2.v, .string t2.s, .int .i64 t2.n])) (fun b hb => by cases hb; simp) (Only.of (below1 _ _)) (HST.out _ _ _ _ _ HD8.out (term_on ((below1 w9 (.cells #[.string t2.v, .string t2.s, .int .i64 t2.n] 25)).trans ((below1 _ (.cells #[.string tv, .string tsy, .int .i64 tn, .string t2.v, .string t2.s, .int .i64 t2.n] 25)).mono (by simp))) HS9.out))
set_option maxHeartbeats 8000000 in
set_option maxRecDepth 100000 in
theorem rlit_num_unlike (w : World) (rb : Nat) (s : ByteArray) (q : Option Addr) (c : Nat) (ts : List Tok) (k : Nat) (fr : Int) (h : Rr w rb s q c ts k 0 fr) (hn : textAt s ts k ≠ wdNot) (hk : kindAt ts k = 3) (hu : textAt s ts (k + 1) = wdUnlike) :
    Calls Tryz.prog 61 #[.pointer (some ⟨rb, 0, none⟩)] w (RSaidPost w rb s q c ts fr (compR s ts k)) := by
  have HP := Lib.hid h
  have hpb := h.lt
  have hl := h.src.len
  have HB := Lib.hid (below1 w)
  have g0 := toList_beq (l := [110, 111, 116]) hn
  have hT : isT ts k = true := by simp [isT, hk]
  have hkl : k < ts.length := kind_lt hT
  have g3 : (kindAt ts k == 3) = true := by rw [hk]; rfl
  have gu := toList_beq_yes (l := [33, 61]) hu
  clear hk
  have HS0 := Lib.hid (show ∀ wx, Rr wx rb s q c ts k 0 fr → Calls Tryz.prog 60 #[.pointer (some ⟨rb, 0, none⟩), .int .i64 0] wx fun e w' => e = .returned (.string (textAt s ts k)) ∧ Below wx.heap.size wx w' from fun wx hx => rtext_any wx rb s q c ts k 0 0 fr hx (by omega))
  have HS1 := Lib.hid (show ∀ wx, Rr wx rb s q c ts k 0 fr → Calls Tryz.prog 60 #[.pointer (some ⟨rb, 0, none⟩), .int .i64 1] wx fun e w' => e = .returned (.string (textAt s ts (k + 1))) ∧ Below wx.heap.size wx w' from fun wx hx => rtext_any wx rb s q c ts k 1 0 fr hx (by omega))
  have HK := Lib.hid (show ∀ wx, Rr wx rb s q c ts k 0 fr → Calls Tryz.prog 92 #[.pointer (some ⟨rb, 0, none⟩)] wx fun e w' => e = .returned (.int .u8 (kindAt ts k)) ∧ Below wx.heap.size wx w' from fun wx hx => rkind_any wx rb s q c ts k 0 fr hx)
  obtain ⟨R, hR⟩ : ∃ R, R = compR s ts k := ⟨_, rfl⟩
  have HR := Lib.hid hR.symm
  rw [← hR]
  clear hR
  have HT1 := Lib.hid (show ∀ wx, Rr wx rb s q c ts k 0 fr → Calls Tryz.prog 93 #[.pointer (some ⟨rb, 0, none⟩)] wx fun e w' => e = .returned (.agg #[.string (termR s ts k).v, .string (termR s ts k).s, .int .i64 (termR s ts k).n]) ∧ Rr w' rb s q c ts (k + 1) 0 fr ∧ Only rb wx w' from fun wx hx => (rterm_any wx rb s q c ts k 0 fr hx).mono fun e w' ⟨t, h1, h2, h3⟩ => by
    rcases h3 with ⟨_, _, h4, h5⟩ | ⟨_, h4, _⟩ | ⟨h4, _⟩
    · subst h4; exact ⟨h1, h5, h2⟩
    · rw [hT] at h4; cases h4
    · exact absurd rfl h4)
  have HS2 := Lib.hid (show ∀ wx, Rr wx rb s q c ts (k + 1) 0 fr → Calls Tryz.prog 60 #[.pointer (some ⟨rb, 0, none⟩), .int .i64 0] wx fun e w' => e = .returned (.string (textAt s ts (k + 1))) ∧ Below wx.heap.size wx w' from fun wx hx => rtext_any wx rb s q c ts (k + 1) 0 0 fr hx (by omega))
  have hk2 : k + 1 < ts.length := text_lt hu (by decide)
  have HT2 := Lib.hid (show ∀ wx, Rr wx rb s q c ts (k + 2) 0 fr → Calls Tryz.prog 93 #[.pointer (some ⟨rb, 0, none⟩)] wx (RTermPost wx rb s q c ts (k + 2) 0 fr) from fun wx hx => rterm_any wx rb s q c ts (k + 2) 0 fr hx)
  have HST := Lib.hid (show ∀ t2 wx, (((0 : Int) = 0 ∧ isT ts (k + 2) = true ∧ t2 = termR s ts (k + 2) ∧ Rr wx rb s q c ts ((k + 2) + 1) 0 fr) ∨ ((0 : Int) = 0 ∧ isT ts (k + 2) = false ∧ Rr wx rb s q c ts (k + 2) 6 (placeAt s ts (k + 2))) ∨ ((0 : Int) ≠ 0 ∧ Rr wx rb s q c ts (k + 2) (0 : Int) fr)) → ((∃ k', R = .ok (⟨4, ⟨⟨#[]⟩, ⟨#[]⟩, 0⟩, ⟨#[]⟩, [termR s ts k, t2]⟩, k') ∧ Rr wx rb s q c ts k' 0 fr) ∨ (∃ k' n p, n ≠ 0 ∧ R = .error (n, p) ∧ Rr wx rb s q c ts k' n p)) from fun t2 wx ht => HR.out ▸ unlike_state hT hu t2 ht)
  generalize termR s ts k = t at *
  obtain ⟨tv, tsy, tn⟩ := t
  simp only at HST HT1
  generalize textAt s ts k = x0 at *
  generalize textAt s ts (k + 1) = x1 at *
  generalize kindAt ts k = kk at *
  clear h hn HR hT hu
  go_enter Tryz.func61, Tryz.ntmps61
  go_wp2_with (first
    | (go_at_call 93; refine (HT2.out _ (HP7.out.set 2 _ (k + 2) 0 fr (by omega) (by simp; omega))).mono ?_; rintro e w9 ⟨t2, rfl, ho9, hs9⟩; have HS9 := Lib.hid hs9; have HO9 := Lib.hid ((HO7.out.trans (Only.set rb _ 2 _)).trans ho9); have hw9 := ho9.size; have HX9 := Lib.hid ((HX7.out.other (b' := rb) (Nat.ne_of_gt hw6) 2 _).only ho9 (Nat.ne_of_gt hw6)); have HZ9 := Lib.hid ((HZ7.out.other (b' := rb) (by omega) 2 _).only ho9 (by omega)); obtain ⟨e0, e1, e2'⟩ := (HX9.out.on (below1 w9 (.cells #[.string t2.v, .string t2.s, .int .i64 t2.n] 25))).three; obtain ⟨i0, i1, i2⟩ := (Bk.new w9 25 #[.string t2.v, .string t2.s, .int .i64 t2.n]).three; have HZA := Lib.hid ((HZ9.out.on (below1 w9 (.cells #[.string t2.v, .string t2.s, .int .i64 t2.n] 25))).on (below1 _ (.cells #[.string tv, .string tsy, .int .i64 tn, .string t2.v, .string t2.s, .int .i64 t2.n] 25))); obtain ⟨r0, r1, r2, r3, r4, r5⟩ := HZA.out.six; obtain ⟨z0, z1, z2, z3, z4, z5, z6⟩ := HZA.out.softs; clear ho9 hs9)
    | (go_at_call 60; refine (HS2.out _ (HP6.out.on (below1 w6 (.cells #[.string tv, .string tsy, .int .i64 tn] 25)))).mono ?_; rintro e w7 ⟨rfl, hb7⟩; have HP7 := Lib.hid ((HP6.out.on (below1 w6 (.cells #[.string tv, .string tsy, .int .i64 tn] 25))).on hb7); have HO7 := Lib.hid ((HO6.out.add ((below1 w6 (.cells #[.string tv, .string tsy, .int .i64 tn] 25)).mono HO6.out.size)).trans (Only.of hb7)); have HX7 := Lib.hid ((Bk.new w6 25 #[.string tv, .string tsy, .int .i64 tn]).on hb7); have HZ7 := Lib.hid ((HZ6.out.on (below1 w6 (.cells #[.string tv, .string tsy, .int .i64 tn] 25))).on hb7); have d7 := HP7.out.box.cell 2 _ rfl; have d7' := HP7.out.box.soft 2; clear hb7)
    | (go_at_call 93; refine (HT1.out _ HP3.out).mono ?_; rintro e w6 ⟨rfl, hp6, ho6⟩; have HP6 := Lib.hid hp6; have hw6 := hp6.lt; have HO6 := Lib.hid (HO3.out.trans ho6); have HZ6 := Lib.hid (HZ3.out.only ho6 (by omega)); clear hp6 ho6)
    | (go_at_call 92; refine (HK.out _ HP2.out).mono ?_; rintro e w3 ⟨rfl, hb3⟩; have HP3 := Lib.hid (HP2.out.on hb3); have HO3 := Lib.hid (HO2.out.trans (Only.of hb3)); have HZ3 := Lib.hid (HZ2.out.on hb3); clear hb3)
    | (go_at_call 60; refine (HS1.out _ HP1.out).mono ?_; rintro e w2 ⟨rfl, hb2⟩; have HP2 := Lib.hid (HP1.out.on hb2); have HO2 := Lib.hid (HO1.out.trans (Only.of hb2)); have HZ2 := Lib.hid (HZ1.out.on hb2); clear hb2)
    | (go_at_call 60; refine (HS0.out _ (HP.out.on (HB.out _))).mono ?_; rintro e w1 ⟨rfl, hb1⟩; have HP1 := Lib.hid ((HP.out.on (HB.out _)).on hb1); have HO1 := Lib.hid ((Only.of (pb := rb) (HB.out _)).trans (Only.of hb1)); have HZ1 := Lib.hid ((Bk.new w _ _).on hb1); have d2 := HP1.out.box.cell 2 _ rfl; have d2' := HP1.out.box.soft 2; clear hb1))
  obtain ⟨q0, q1, q2, q3, q4, q5⟩ := (load6 HZA.out (.int .u8 4) (.string ⟨#[]⟩) (.string ⟨#[]⟩) (.int .i64 0) (.string ⟨#[]⟩) (.slice (some ⟨w9.heap.size + 1, 0, none⟩) 2 2)).six
  have hlt := HZ9.out.lt
  refine bodyPost_ret (v := Lp.agg ⟨4, ⟨⟨#[]⟩, ⟨#[]⟩, 0⟩, ⟨#[]⟩, some ⟨w9.heap.size + 1, 0, none⟩, 2, [⟨tv, tsy, tn⟩, t2]⟩) ?_ rfl ?_
  · simp [results, Tryz.results61, go_sem, q0, q1, q2, q3, q4, q5, Lp.agg]
  · exact rsaid_close (w2 := w9.alloc (.cells #[.string t2.v, .string t2.s, .int .i64 t2.n] 25)) (w3 := (w9.alloc (.cells #[.string t2.v, .string t2.s, .int .i64 t2.n] 25)).alloc (.cells #[.string tv, .string tsy, .int .i64 tn, .string t2.v, .string t2.s, .int .i64 t2.n] 25)) (G := w.heap.size + 1) (L := ⟨4, ⟨⟨#[]⟩, ⟨#[]⟩, 0⟩, ⟨#[]⟩, [⟨tv, tsy, tn⟩, t2]⟩) (set6 (Nat.le_refl _) _ _ _ _ _ _) ((Above.refl _ _).set6 (by omega) _ _ _ _ _ _) (by simp; omega) (by omega) hpb (HO9.out.add ((below1 w9 (.cells #[.string t2.v, .string t2.s, .int .i64 t2.n] 25)).mono HO9.out.size)) (two_rd (t := ⟨tv, tsy, tn⟩) (u := t2) (by simpa using Bk.new (w9.alloc (.cells #[.string t2.v, .string t2.s, .int .i64 t2.n] 25)) 25 #[.string tv, .string tsy, .int .i64 tn, .string t2.v, .string t2.s, .int .i64 t2.n])) (fun b hb => by cases hb; simp) (Only.of (below1 _ _)) (HST.out _ _ (term_on0 ((below1 w9 (.cells #[.string t2.v, .string t2.s, .int .i64 t2.n] 25)).trans ((below1 _ (.cells #[.string tv, .string tsy, .int .i64 tn, .string t2.v, .string t2.s, .int .i64 t2.n] 25)).mono (by simp))) HS9.out))
set_option maxHeartbeats 8000000 in
set_option maxRecDepth 100000 in
theorem rlit_var_less (w : World) (rb : Nat) (s : ByteArray) (q : Option Addr) (c : Nat) (ts : List Tok) (k : Nat) (fr : Int) (h : Rr w rb s q c ts k 0 fr) (hn : textAt s ts k ≠ wdNot) (hk : kindAt ts k = 2) (hs : textAt s ts (k + 1) ≠ wdSays) (hu : textAt s ts (k + 1) ≠ wdUnlike) :
    Calls Tryz.prog 61 #[.pointer (some ⟨rb, 0, none⟩)] w (RSaidPost w rb s q c ts fr (compR s ts k)) := by
  have HP := Lib.hid h
  have hpb := h.lt
  have hl := h.src.len
  have HB := Lib.hid (below1 w)
  have g0 := toList_beq (l := [110, 111, 116]) hn
  have hT : isT ts k = true := by simp [isT, hk]
  have hkl : k < ts.length := kind_lt hT
  have g3 : (kindAt ts k == 3) = false := by rw [hk]; rfl
  have g2 : (kindAt ts k == 2) = true := by rw [hk]; rfl
  have gu := toList_beq (l := [33, 61]) hu
  have gs := toList_beq (l := [115, 97, 121, 115]) hs
  clear hk hs
  have HS0 := Lib.hid (show ∀ wx, Rr wx rb s q c ts k 0 fr → Calls Tryz.prog 60 #[.pointer (some ⟨rb, 0, none⟩), .int .i64 0] wx fun e w' => e = .returned (.string (textAt s ts k)) ∧ Below wx.heap.size wx w' from fun wx hx => rtext_any wx rb s q c ts k 0 0 fr hx (by omega))
  have HS1 := Lib.hid (show ∀ wx, Rr wx rb s q c ts k 0 fr → Calls Tryz.prog 60 #[.pointer (some ⟨rb, 0, none⟩), .int .i64 1] wx fun e w' => e = .returned (.string (textAt s ts (k + 1))) ∧ Below wx.heap.size wx w' from fun wx hx => rtext_any wx rb s q c ts k 1 0 fr hx (by omega))
  have HK := Lib.hid (show ∀ wx, Rr wx rb s q c ts k 0 fr → Calls Tryz.prog 92 #[.pointer (some ⟨rb, 0, none⟩)] wx fun e w' => e = .returned (.int .u8 (kindAt ts k)) ∧ Below wx.heap.size wx w' from fun wx hx => rkind_any wx rb s q c ts k 0 fr hx)
  obtain ⟨R, hR⟩ : ∃ R, R = compR s ts k := ⟨_, rfl⟩
  have HR := Lib.hid hR.symm
  rw [← hR]
  clear hR
  have HT1 := Lib.hid (show ∀ wx, Rr wx rb s q c ts k 0 fr → Calls Tryz.prog 93 #[.pointer (some ⟨rb, 0, none⟩)] wx fun e w' => e = .returned (.agg #[.string (termR s ts k).v, .string (termR s ts k).s, .int .i64 (termR s ts k).n]) ∧ Rr w' rb s q c ts (k + 1) 0 fr ∧ Only rb wx w' from fun wx hx => (rterm_any wx rb s q c ts k 0 fr hx).mono fun e w' ⟨t, h1, h2, h3⟩ => by
    rcases h3 with ⟨_, _, h4, h5⟩ | ⟨_, h4, _⟩ | ⟨h4, _⟩
    · subst h4; exact ⟨h1, h5, h2⟩
    · rw [hT] at h4; cases h4
    · exact absurd rfl h4)
  have HS2 := Lib.hid (show ∀ wx, Rr wx rb s q c ts (k + 1) 0 fr → Calls Tryz.prog 60 #[.pointer (some ⟨rb, 0, none⟩), .int .i64 0] wx fun e w' => e = .returned (.string (textAt s ts (k + 1))) ∧ Below wx.heap.size wx w' from fun wx hx => rtext_any wx rb s q c ts (k + 1) 0 0 fr hx (by omega))
  have HN := Lib.hid (show ∀ wx, Rr wx rb s q c ts (k + 1) 0 fr → Calls Tryz.prog 63 #[.pointer (some ⟨rb, 0, none⟩), .string ⟨#[60]⟩] wx fun e w' => e = .returned (.tuple #[]) ∧ Only rb wx w' ∧ ∃ k2 e2 f2, Rr w' rb s q c ts k2 e2 f2 ∧ ((textAt s ts (k + 1) = wdLess ∧ e2 = 0 ∧ f2 = fr ∧ k2 = k + 2) ∨ (textAt s ts (k + 1) ≠ wdLess ∧ e2 = 6 ∧ f2 = placeAt s ts (k + 1))) from fun wx hx => rneed_sum wx rb s q c ts (k + 1) fr _ hx (by decide))
  have HT2 := Lib.hid (show ∀ wx k2 e2 f2, Rr wx rb s q c ts k2 e2 f2 → Calls Tryz.prog 93 #[.pointer (some ⟨rb, 0, none⟩)] wx (RTermPost wx rb s q c ts k2 e2 f2) from fun wx k2 e2 f2 hx => rterm_any wx rb s q c ts k2 e2 f2 hx)
  have HST := Lib.hid (show ∀ t2 wx k2 e2 f2, ((textAt s ts (k + 1) = wdLess ∧ e2 = 0 ∧ f2 = fr ∧ k2 = k + 2) ∨ (textAt s ts (k + 1) ≠ wdLess ∧ e2 = 6 ∧ f2 = placeAt s ts (k + 1))) → ((e2 = 0 ∧ isT ts k2 = true ∧ t2 = termR s ts k2 ∧ Rr wx rb s q c ts (k2 + 1) 0 f2) ∨ (e2 = 0 ∧ isT ts k2 = false ∧ Rr wx rb s q c ts k2 6 (placeAt s ts k2)) ∨ (e2 ≠ 0 ∧ Rr wx rb s q c ts k2 e2 f2)) → ((∃ k', R = .ok (⟨3, ⟨⟨#[]⟩, ⟨#[]⟩, 0⟩, ⟨#[]⟩, [termR s ts k, t2]⟩, k') ∧ Rr wx rb s q c ts k' 0 fr) ∨ (∃ k' n p, n ≠ 0 ∧ R = .error (n, p) ∧ Rr wx rb s q c ts k' n p)) from fun t2 wx k2 e2 f2 hd ht => HR.out ▸ comp_state hT hu t2 k2 e2 f2 hd ht)
  generalize termR s ts k = t at *
  obtain ⟨tv, tsy, tn⟩ := t
  simp only at HST HT1
  generalize textAt s ts k = x0 at *
  generalize textAt s ts (k + 1) = x1 at *
  generalize kindAt ts k = kk at *
  clear h hn HR hT hu
  go_enter Tryz.func61, Tryz.ntmps61
  go_wp2_with (first
    | (go_at_call 93; refine (HT2.out _ _ _ _ HP8.out).mono ?_; rintro e w9 ⟨t2, rfl, ho9, hs9⟩; have HS9 := Lib.hid hs9; have HO9 := Lib.hid (HO8.out.trans ho9); have hw9 := ho9.size; have HX9 := Lib.hid (HX8.out.only ho9 (Nat.ne_of_gt hw6)); have HZ9 := Lib.hid (HZ8.out.only ho9 (by omega)); obtain ⟨e0, e1, e2'⟩ := (HX9.out.on (below1 w9 (.cells #[.string t2.v, .string t2.s, .int .i64 t2.n] 25))).three; obtain ⟨i0, i1, i2⟩ := (Bk.new w9 25 #[.string t2.v, .string t2.s, .int .i64 t2.n]).three; have HZA := Lib.hid ((HZ9.out.on (below1 w9 (.cells #[.string t2.v, .string t2.s, .int .i64 t2.n] 25))).on (below1 _ (.cells #[.string tv, .string tsy, .int .i64 tn, .string t2.v, .string t2.s, .int .i64 t2.n] 25))); obtain ⟨r0, r1, r2, r3, r4, r5⟩ := HZA.out.six; obtain ⟨z0, z1, z2, z3, z4, z5, z6⟩ := HZA.out.softs; clear ho9 hs9)
    | (go_at_call 63; refine (HN.out _ HP7.out).mono ?_; rintro e w8 ⟨rfl, ho8, k2, e2, f2, hr8, hd8⟩; have HP8 := Lib.hid hr8; have HD8 := Lib.hid hd8; have HO8 := Lib.hid (HO7.out.trans ho8); have HX8 := Lib.hid (HX7.out.only ho8 (Nat.ne_of_gt hw6)); have HZ8 := Lib.hid (HZ7.out.only ho8 (by omega)); clear ho8 hr8 hd8)
    | (go_at_call 60; refine (HS2.out _ (HP6.out.on (below1 w6 (.cells #[.string tv, .string tsy, .int .i64 tn] 25)))).mono ?_; rintro e w7 ⟨rfl, hb7⟩; have HP7 := Lib.hid ((HP6.out.on (below1 w6 (.cells #[.string tv, .string tsy, .int .i64 tn] 25))).on hb7); have HO7 := Lib.hid ((HO6.out.add ((below1 w6 (.cells #[.string tv, .string tsy, .int .i64 tn] 25)).mono HO6.out.size)).trans (Only.of hb7)); have HX7 := Lib.hid ((Bk.new w6 25 #[.string tv, .string tsy, .int .i64 tn]).on hb7); have HZ7 := Lib.hid ((HZ6.out.on (below1 w6 (.cells #[.string tv, .string tsy, .int .i64 tn] 25))).on hb7); have d7 := HP7.out.box.cell 2 _ rfl; have d7' := HP7.out.box.soft 2; clear hb7)
    | (go_at_call 93; refine (HT1.out _ HP4.out).mono ?_; rintro e w6 ⟨rfl, hp6, ho6⟩; have HP6 := Lib.hid hp6; have hw6 := hp6.lt; have HO6 := Lib.hid (HO4.out.trans ho6); have HZ6 := Lib.hid (HZ4.out.only ho6 (by omega)); clear hp6 ho6)
    | (go_at_call 92; refine (HK.out _ HP3.out).mono ?_; rintro e w4 ⟨rfl, hb4⟩; have HP4 := Lib.hid (HP3.out.on hb4); have HO4 := Lib.hid (HO3.out.trans (Only.of hb4)); have HZ4 := Lib.hid (HZ3.out.on hb4); clear hb4)
    | (go_at_call 92; refine (HK.out _ HP2.out).mono ?_; rintro e w3 ⟨rfl, hb3⟩; have HP3 := Lib.hid (HP2.out.on hb3); have HO3 := Lib.hid (HO2.out.trans (Only.of hb3)); have HZ3 := Lib.hid (HZ2.out.on hb3); clear hb3)
    | (go_at_call 60; refine (HS1.out _ HP1.out).mono ?_; rintro e w2 ⟨rfl, hb2⟩; have HP2 := Lib.hid (HP1.out.on hb2); have HO2 := Lib.hid (HO1.out.trans (Only.of hb2)); have HZ2 := Lib.hid (HZ1.out.on hb2); clear hb2)
    | (go_at_call 60; refine (HS0.out _ (HP.out.on (HB.out _))).mono ?_; rintro e w1 ⟨rfl, hb1⟩; have HP1 := Lib.hid ((HP.out.on (HB.out _)).on hb1); have HO1 := Lib.hid ((Only.of (pb := rb) (HB.out _)).trans (Only.of hb1)); have HZ1 := Lib.hid ((Bk.new w _ _).on hb1); have d2 := HP1.out.box.cell 2 _ rfl; have d2' := HP1.out.box.soft 2; clear hb1))
  obtain ⟨q0, q1, q2, q3, q4, q5⟩ := (load6 HZA.out (.int .u8 3) (.string ⟨#[]⟩) (.string ⟨#[]⟩) (.int .i64 0) (.string ⟨#[]⟩) (.slice (some ⟨w9.heap.size + 1, 0, none⟩) 2 2)).six
  have hlt := HZ9.out.lt
  refine bodyPost_ret (v := Lp.agg ⟨3, ⟨⟨#[]⟩, ⟨#[]⟩, 0⟩, ⟨#[]⟩, some ⟨w9.heap.size + 1, 0, none⟩, 2, [⟨tv, tsy, tn⟩, t2]⟩) ?_ rfl ?_
  · simp [results, Tryz.results61, go_sem, q0, q1, q2, q3, q4, q5, Lp.agg]
  · exact rsaid_close (w2 := w9.alloc (.cells #[.string t2.v, .string t2.s, .int .i64 t2.n] 25)) (w3 := (w9.alloc (.cells #[.string t2.v, .string t2.s, .int .i64 t2.n] 25)).alloc (.cells #[.string tv, .string tsy, .int .i64 tn, .string t2.v, .string t2.s, .int .i64 t2.n] 25)) (G := w.heap.size + 1) (L := ⟨3, ⟨⟨#[]⟩, ⟨#[]⟩, 0⟩, ⟨#[]⟩, [⟨tv, tsy, tn⟩, t2]⟩) (set6 (Nat.le_refl _) _ _ _ _ _ _) ((Above.refl _ _).set6 (by omega) _ _ _ _ _ _) (by simp; omega) (by omega) hpb (HO9.out.add ((below1 w9 (.cells #[.string t2.v, .string t2.s, .int .i64 t2.n] 25)).mono HO9.out.size)) (two_rd (t := ⟨tv, tsy, tn⟩) (u := t2) (by simpa using Bk.new (w9.alloc (.cells #[.string t2.v, .string t2.s, .int .i64 t2.n] 25)) 25 #[.string tv, .string tsy, .int .i64 tn, .string t2.v, .string t2.s, .int .i64 t2.n])) (fun b hb => by cases hb; simp) (Only.of (below1 _ _)) (HST.out _ _ _ _ _ HD8.out (term_on ((below1 w9 (.cells #[.string t2.v, .string t2.s, .int .i64 t2.n] 25)).trans ((below1 _ (.cells #[.string tv, .string tsy, .int .i64 tn, .string t2.v, .string t2.s, .int .i64 t2.n] 25)).mono (by simp))) HS9.out))
set_option maxHeartbeats 8000000 in
set_option maxRecDepth 100000 in
theorem rlit_var_unlike (w : World) (rb : Nat) (s : ByteArray) (q : Option Addr) (c : Nat) (ts : List Tok) (k : Nat) (fr : Int) (h : Rr w rb s q c ts k 0 fr) (hn : textAt s ts k ≠ wdNot) (hk : kindAt ts k = 2) (hu : textAt s ts (k + 1) = wdUnlike) :
    Calls Tryz.prog 61 #[.pointer (some ⟨rb, 0, none⟩)] w (RSaidPost w rb s q c ts fr (compR s ts k)) := by
  have HP := Lib.hid h
  have hpb := h.lt
  have hl := h.src.len
  have HB := Lib.hid (below1 w)
  have g0 := toList_beq (l := [110, 111, 116]) hn
  have hT : isT ts k = true := by simp [isT, hk]
  have hkl : k < ts.length := kind_lt hT
  have g3 : (kindAt ts k == 3) = false := by rw [hk]; rfl
  have g2 : (kindAt ts k == 2) = true := by rw [hk]; rfl
  have gu := toList_beq_yes (l := [33, 61]) hu
  have gs := toList_beq (x := textAt s ts (k + 1)) (l := [115, 97, 121, 115]) (by rw [hu]; decide)
  clear hk
  have HS0 := Lib.hid (show ∀ wx, Rr wx rb s q c ts k 0 fr → Calls Tryz.prog 60 #[.pointer (some ⟨rb, 0, none⟩), .int .i64 0] wx fun e w' => e = .returned (.string (textAt s ts k)) ∧ Below wx.heap.size wx w' from fun wx hx => rtext_any wx rb s q c ts k 0 0 fr hx (by omega))
  have HS1 := Lib.hid (show ∀ wx, Rr wx rb s q c ts k 0 fr → Calls Tryz.prog 60 #[.pointer (some ⟨rb, 0, none⟩), .int .i64 1] wx fun e w' => e = .returned (.string (textAt s ts (k + 1))) ∧ Below wx.heap.size wx w' from fun wx hx => rtext_any wx rb s q c ts k 1 0 fr hx (by omega))
  have HK := Lib.hid (show ∀ wx, Rr wx rb s q c ts k 0 fr → Calls Tryz.prog 92 #[.pointer (some ⟨rb, 0, none⟩)] wx fun e w' => e = .returned (.int .u8 (kindAt ts k)) ∧ Below wx.heap.size wx w' from fun wx hx => rkind_any wx rb s q c ts k 0 fr hx)
  obtain ⟨R, hR⟩ : ∃ R, R = compR s ts k := ⟨_, rfl⟩
  have HR := Lib.hid hR.symm
  rw [← hR]
  clear hR
  have HT1 := Lib.hid (show ∀ wx, Rr wx rb s q c ts k 0 fr → Calls Tryz.prog 93 #[.pointer (some ⟨rb, 0, none⟩)] wx fun e w' => e = .returned (.agg #[.string (termR s ts k).v, .string (termR s ts k).s, .int .i64 (termR s ts k).n]) ∧ Rr w' rb s q c ts (k + 1) 0 fr ∧ Only rb wx w' from fun wx hx => (rterm_any wx rb s q c ts k 0 fr hx).mono fun e w' ⟨t, h1, h2, h3⟩ => by
    rcases h3 with ⟨_, _, h4, h5⟩ | ⟨_, h4, _⟩ | ⟨h4, _⟩
    · subst h4; exact ⟨h1, h5, h2⟩
    · rw [hT] at h4; cases h4
    · exact absurd rfl h4)
  have HS2 := Lib.hid (show ∀ wx, Rr wx rb s q c ts (k + 1) 0 fr → Calls Tryz.prog 60 #[.pointer (some ⟨rb, 0, none⟩), .int .i64 0] wx fun e w' => e = .returned (.string (textAt s ts (k + 1))) ∧ Below wx.heap.size wx w' from fun wx hx => rtext_any wx rb s q c ts (k + 1) 0 0 fr hx (by omega))
  have hk2 : k + 1 < ts.length := text_lt hu (by decide)
  have HT2 := Lib.hid (show ∀ wx, Rr wx rb s q c ts (k + 2) 0 fr → Calls Tryz.prog 93 #[.pointer (some ⟨rb, 0, none⟩)] wx (RTermPost wx rb s q c ts (k + 2) 0 fr) from fun wx hx => rterm_any wx rb s q c ts (k + 2) 0 fr hx)
  have HST := Lib.hid (show ∀ t2 wx, (((0 : Int) = 0 ∧ isT ts (k + 2) = true ∧ t2 = termR s ts (k + 2) ∧ Rr wx rb s q c ts ((k + 2) + 1) 0 fr) ∨ ((0 : Int) = 0 ∧ isT ts (k + 2) = false ∧ Rr wx rb s q c ts (k + 2) 6 (placeAt s ts (k + 2))) ∨ ((0 : Int) ≠ 0 ∧ Rr wx rb s q c ts (k + 2) (0 : Int) fr)) → ((∃ k', R = .ok (⟨4, ⟨⟨#[]⟩, ⟨#[]⟩, 0⟩, ⟨#[]⟩, [termR s ts k, t2]⟩, k') ∧ Rr wx rb s q c ts k' 0 fr) ∨ (∃ k' n p, n ≠ 0 ∧ R = .error (n, p) ∧ Rr wx rb s q c ts k' n p)) from fun t2 wx ht => HR.out ▸ unlike_state hT hu t2 ht)
  generalize termR s ts k = t at *
  obtain ⟨tv, tsy, tn⟩ := t
  simp only at HST HT1
  generalize textAt s ts k = x0 at *
  generalize textAt s ts (k + 1) = x1 at *
  generalize kindAt ts k = kk at *
  clear h hn HR hT hu
  go_enter Tryz.func61, Tryz.ntmps61
  go_wp2_with (first
    | (go_at_call 93; refine (HT2.out _ (HP7.out.set 2 _ (k + 2) 0 fr (by omega) (by simp; omega))).mono ?_; rintro e w9 ⟨t2, rfl, ho9, hs9⟩; have HS9 := Lib.hid hs9; have HO9 := Lib.hid ((HO7.out.trans (Only.set rb _ 2 _)).trans ho9); have hw9 := ho9.size; have HX9 := Lib.hid ((HX7.out.other (b' := rb) (Nat.ne_of_gt hw6) 2 _).only ho9 (Nat.ne_of_gt hw6)); have HZ9 := Lib.hid ((HZ7.out.other (b' := rb) (by omega) 2 _).only ho9 (by omega)); obtain ⟨e0, e1, e2'⟩ := (HX9.out.on (below1 w9 (.cells #[.string t2.v, .string t2.s, .int .i64 t2.n] 25))).three; obtain ⟨i0, i1, i2⟩ := (Bk.new w9 25 #[.string t2.v, .string t2.s, .int .i64 t2.n]).three; have HZA := Lib.hid ((HZ9.out.on (below1 w9 (.cells #[.string t2.v, .string t2.s, .int .i64 t2.n] 25))).on (below1 _ (.cells #[.string tv, .string tsy, .int .i64 tn, .string t2.v, .string t2.s, .int .i64 t2.n] 25))); obtain ⟨r0, r1, r2, r3, r4, r5⟩ := HZA.out.six; obtain ⟨z0, z1, z2, z3, z4, z5, z6⟩ := HZA.out.softs; clear ho9 hs9)
    | (go_at_call 60; refine (HS2.out _ (HP6.out.on (below1 w6 (.cells #[.string tv, .string tsy, .int .i64 tn] 25)))).mono ?_; rintro e w7 ⟨rfl, hb7⟩; have HP7 := Lib.hid ((HP6.out.on (below1 w6 (.cells #[.string tv, .string tsy, .int .i64 tn] 25))).on hb7); have HO7 := Lib.hid ((HO6.out.add ((below1 w6 (.cells #[.string tv, .string tsy, .int .i64 tn] 25)).mono HO6.out.size)).trans (Only.of hb7)); have HX7 := Lib.hid ((Bk.new w6 25 #[.string tv, .string tsy, .int .i64 tn]).on hb7); have HZ7 := Lib.hid ((HZ6.out.on (below1 w6 (.cells #[.string tv, .string tsy, .int .i64 tn] 25))).on hb7); have d7 := HP7.out.box.cell 2 _ rfl; have d7' := HP7.out.box.soft 2; clear hb7)
    | (go_at_call 93; refine (HT1.out _ HP4.out).mono ?_; rintro e w6 ⟨rfl, hp6, ho6⟩; have HP6 := Lib.hid hp6; have hw6 := hp6.lt; have HO6 := Lib.hid (HO4.out.trans ho6); have HZ6 := Lib.hid (HZ4.out.only ho6 (by omega)); clear hp6 ho6)
    | (go_at_call 92; refine (HK.out _ HP3.out).mono ?_; rintro e w4 ⟨rfl, hb4⟩; have HP4 := Lib.hid (HP3.out.on hb4); have HO4 := Lib.hid (HO3.out.trans (Only.of hb4)); have HZ4 := Lib.hid (HZ3.out.on hb4); clear hb4)
    | (go_at_call 92; refine (HK.out _ HP2.out).mono ?_; rintro e w3 ⟨rfl, hb3⟩; have HP3 := Lib.hid (HP2.out.on hb3); have HO3 := Lib.hid (HO2.out.trans (Only.of hb3)); have HZ3 := Lib.hid (HZ2.out.on hb3); clear hb3)
    | (go_at_call 60; refine (HS1.out _ HP1.out).mono ?_; rintro e w2 ⟨rfl, hb2⟩; have HP2 := Lib.hid (HP1.out.on hb2); have HO2 := Lib.hid (HO1.out.trans (Only.of hb2)); have HZ2 := Lib.hid (HZ1.out.on hb2); clear hb2)
    | (go_at_call 60; refine (HS0.out _ (HP.out.on (HB.out _))).mono ?_; rintro e w1 ⟨rfl, hb1⟩; have HP1 := Lib.hid ((HP.out.on (HB.out _)).on hb1); have HO1 := Lib.hid ((Only.of (pb := rb) (HB.out _)).trans (Only.of hb1)); have HZ1 := Lib.hid ((Bk.new w _ _).on hb1); have d2 := HP1.out.box.cell 2 _ rfl; have d2' := HP1.out.box.soft 2; clear hb1))
  obtain ⟨q0, q1, q2, q3, q4, q5⟩ := (load6 HZA.out (.int .u8 4) (.string ⟨#[]⟩) (.string ⟨#[]⟩) (.int .i64 0) (.string ⟨#[]⟩) (.slice (some ⟨w9.heap.size + 1, 0, none⟩) 2 2)).six
  have hlt := HZ9.out.lt
  refine bodyPost_ret (v := Lp.agg ⟨4, ⟨⟨#[]⟩, ⟨#[]⟩, 0⟩, ⟨#[]⟩, some ⟨w9.heap.size + 1, 0, none⟩, 2, [⟨tv, tsy, tn⟩, t2]⟩) ?_ rfl ?_
  · simp [results, Tryz.results61, go_sem, q0, q1, q2, q3, q4, q5, Lp.agg]
  · exact rsaid_close (w2 := w9.alloc (.cells #[.string t2.v, .string t2.s, .int .i64 t2.n] 25)) (w3 := (w9.alloc (.cells #[.string t2.v, .string t2.s, .int .i64 t2.n] 25)).alloc (.cells #[.string tv, .string tsy, .int .i64 tn, .string t2.v, .string t2.s, .int .i64 t2.n] 25)) (G := w.heap.size + 1) (L := ⟨4, ⟨⟨#[]⟩, ⟨#[]⟩, 0⟩, ⟨#[]⟩, [⟨tv, tsy, tn⟩, t2]⟩) (set6 (Nat.le_refl _) _ _ _ _ _ _) ((Above.refl _ _).set6 (by omega) _ _ _ _ _ _) (by simp; omega) (by omega) hpb (HO9.out.add ((below1 w9 (.cells #[.string t2.v, .string t2.s, .int .i64 t2.n] 25)).mono HO9.out.size)) (two_rd (t := ⟨tv, tsy, tn⟩) (u := t2) (by simpa using Bk.new (w9.alloc (.cells #[.string t2.v, .string t2.s, .int .i64 t2.n] 25)) 25 #[.string tv, .string tsy, .int .i64 tn, .string t2.v, .string t2.s, .int .i64 t2.n])) (fun b hb => by cases hb; simp) (Only.of (below1 _ _)) (HST.out _ _ (term_on0 ((below1 w9 (.cells #[.string t2.v, .string t2.s, .int .i64 t2.n] 25)).trans ((below1 _ (.cells #[.string tv, .string tsy, .int .i64 tn, .string t2.v, .string t2.s, .int .i64 t2.n] 25)).mono (by simp))) HS9.out))
set_option maxHeartbeats 8000000 in
set_option maxRecDepth 100000 in
theorem rlit_name_less (w : World) (rb : Nat) (s : ByteArray) (q : Option Addr) (c : Nat) (ts : List Tok) (k : Nat) (fr : Int) (h : Rr w rb s q c ts k 0 fr) (hn : textAt s ts k ≠ wdNot) (hk : kindAt ts k = 1) (hl1 : textAt s ts (k + 1) = wdLess) (hu : textAt s ts (k + 1) ≠ wdUnlike) :
    Calls Tryz.prog 61 #[.pointer (some ⟨rb, 0, none⟩)] w (RSaidPost w rb s q c ts fr (compR s ts k)) := by
  have HP := Lib.hid h
  have hpb := h.lt
  have hl := h.src.len
  have HB := Lib.hid (below1 w)
  have g0 := toList_beq (l := [110, 111, 116]) hn
  have hT : isT ts k = true := by simp [isT, hk]
  have hkl : k < ts.length := kind_lt hT
  have g3 : (kindAt ts k == 3) = false := by rw [hk]; rfl
  have g2 : (kindAt ts k == 2) = false := by rw [hk]; rfl
  have g1 : (kindAt ts k == 1) = true := by rw [hk]; rfl
  have gu := toList_beq (l := [33, 61]) hu
  have gl := toList_beq_yes (l := [60]) hl1
  clear hk hl1
  have HS0 := Lib.hid (show ∀ wx, Rr wx rb s q c ts k 0 fr → Calls Tryz.prog 60 #[.pointer (some ⟨rb, 0, none⟩), .int .i64 0] wx fun e w' => e = .returned (.string (textAt s ts k)) ∧ Below wx.heap.size wx w' from fun wx hx => rtext_any wx rb s q c ts k 0 0 fr hx (by omega))
  have HS1 := Lib.hid (show ∀ wx, Rr wx rb s q c ts k 0 fr → Calls Tryz.prog 60 #[.pointer (some ⟨rb, 0, none⟩), .int .i64 1] wx fun e w' => e = .returned (.string (textAt s ts (k + 1))) ∧ Below wx.heap.size wx w' from fun wx hx => rtext_any wx rb s q c ts k 1 0 fr hx (by omega))
  have HK := Lib.hid (show ∀ wx, Rr wx rb s q c ts k 0 fr → Calls Tryz.prog 92 #[.pointer (some ⟨rb, 0, none⟩)] wx fun e w' => e = .returned (.int .u8 (kindAt ts k)) ∧ Below wx.heap.size wx w' from fun wx hx => rkind_any wx rb s q c ts k 0 fr hx)
  obtain ⟨R, hR⟩ : ∃ R, R = compR s ts k := ⟨_, rfl⟩
  have HR := Lib.hid hR.symm
  rw [← hR]
  clear hR
  have HT1 := Lib.hid (show ∀ wx, Rr wx rb s q c ts k 0 fr → Calls Tryz.prog 93 #[.pointer (some ⟨rb, 0, none⟩)] wx fun e w' => e = .returned (.agg #[.string (termR s ts k).v, .string (termR s ts k).s, .int .i64 (termR s ts k).n]) ∧ Rr w' rb s q c ts (k + 1) 0 fr ∧ Only rb wx w' from fun wx hx => (rterm_any wx rb s q c ts k 0 fr hx).mono fun e w' ⟨t, h1, h2, h3⟩ => by
    rcases h3 with ⟨_, _, h4, h5⟩ | ⟨_, h4, _⟩ | ⟨h4, _⟩
    · subst h4; exact ⟨h1, h5, h2⟩
    · rw [hT] at h4; cases h4
    · exact absurd rfl h4)
  have HS2 := Lib.hid (show ∀ wx, Rr wx rb s q c ts (k + 1) 0 fr → Calls Tryz.prog 60 #[.pointer (some ⟨rb, 0, none⟩), .int .i64 0] wx fun e w' => e = .returned (.string (textAt s ts (k + 1))) ∧ Below wx.heap.size wx w' from fun wx hx => rtext_any wx rb s q c ts (k + 1) 0 0 fr hx (by omega))
  have HN := Lib.hid (show ∀ wx, Rr wx rb s q c ts (k + 1) 0 fr → Calls Tryz.prog 63 #[.pointer (some ⟨rb, 0, none⟩), .string ⟨#[60]⟩] wx fun e w' => e = .returned (.tuple #[]) ∧ Only rb wx w' ∧ ∃ k2 e2 f2, Rr w' rb s q c ts k2 e2 f2 ∧ ((textAt s ts (k + 1) = wdLess ∧ e2 = 0 ∧ f2 = fr ∧ k2 = k + 2) ∨ (textAt s ts (k + 1) ≠ wdLess ∧ e2 = 6 ∧ f2 = placeAt s ts (k + 1))) from fun wx hx => rneed_sum wx rb s q c ts (k + 1) fr _ hx (by decide))
  have HT2 := Lib.hid (show ∀ wx k2 e2 f2, Rr wx rb s q c ts k2 e2 f2 → Calls Tryz.prog 93 #[.pointer (some ⟨rb, 0, none⟩)] wx (RTermPost wx rb s q c ts k2 e2 f2) from fun wx k2 e2 f2 hx => rterm_any wx rb s q c ts k2 e2 f2 hx)
  have HST := Lib.hid (show ∀ t2 wx k2 e2 f2, ((textAt s ts (k + 1) = wdLess ∧ e2 = 0 ∧ f2 = fr ∧ k2 = k + 2) ∨ (textAt s ts (k + 1) ≠ wdLess ∧ e2 = 6 ∧ f2 = placeAt s ts (k + 1))) → ((e2 = 0 ∧ isT ts k2 = true ∧ t2 = termR s ts k2 ∧ Rr wx rb s q c ts (k2 + 1) 0 f2) ∨ (e2 = 0 ∧ isT ts k2 = false ∧ Rr wx rb s q c ts k2 6 (placeAt s ts k2)) ∨ (e2 ≠ 0 ∧ Rr wx rb s q c ts k2 e2 f2)) → ((∃ k', R = .ok (⟨3, ⟨⟨#[]⟩, ⟨#[]⟩, 0⟩, ⟨#[]⟩, [termR s ts k, t2]⟩, k') ∧ Rr wx rb s q c ts k' 0 fr) ∨ (∃ k' n p, n ≠ 0 ∧ R = .error (n, p) ∧ Rr wx rb s q c ts k' n p)) from fun t2 wx k2 e2 f2 hd ht => HR.out ▸ comp_state hT hu t2 k2 e2 f2 hd ht)
  generalize termR s ts k = t at *
  obtain ⟨tv, tsy, tn⟩ := t
  simp only at HST HT1
  generalize textAt s ts k = x0 at *
  generalize textAt s ts (k + 1) = x1 at *
  generalize kindAt ts k = kk at *
  clear h hn HR hT hu
  go_enter Tryz.func61, Tryz.ntmps61
  go_wp2_with (first
    | (go_at_call 93; refine (HT2.out _ _ _ _ HP8.out).mono ?_; rintro e w9 ⟨t2, rfl, ho9, hs9⟩; have HS9 := Lib.hid hs9; have HO9 := Lib.hid (HO8.out.trans ho9); have hw9 := ho9.size; have HX9 := Lib.hid (HX8.out.only ho9 (Nat.ne_of_gt hw6)); have HZ9 := Lib.hid (HZ8.out.only ho9 (by omega)); obtain ⟨e0, e1, e2'⟩ := (HX9.out.on (below1 w9 (.cells #[.string t2.v, .string t2.s, .int .i64 t2.n] 25))).three; obtain ⟨i0, i1, i2⟩ := (Bk.new w9 25 #[.string t2.v, .string t2.s, .int .i64 t2.n]).three; have HZA := Lib.hid ((HZ9.out.on (below1 w9 (.cells #[.string t2.v, .string t2.s, .int .i64 t2.n] 25))).on (below1 _ (.cells #[.string tv, .string tsy, .int .i64 tn, .string t2.v, .string t2.s, .int .i64 t2.n] 25))); obtain ⟨r0, r1, r2, r3, r4, r5⟩ := HZA.out.six; obtain ⟨z0, z1, z2, z3, z4, z5, z6⟩ := HZA.out.softs; clear ho9 hs9)
    | (go_at_call 63; refine (HN.out _ HP7.out).mono ?_; rintro e w8 ⟨rfl, ho8, k2, e2, f2, hr8, hd8⟩; have HP8 := Lib.hid hr8; have HD8 := Lib.hid hd8; have HO8 := Lib.hid (HO7.out.trans ho8); have HX8 := Lib.hid (HX7.out.only ho8 (Nat.ne_of_gt hw6)); have HZ8 := Lib.hid (HZ7.out.only ho8 (by omega)); clear ho8 hr8 hd8)
    | (go_at_call 60; refine (HS2.out _ (HP6.out.on (below1 w6 (.cells #[.string tv, .string tsy, .int .i64 tn] 25)))).mono ?_; rintro e w7 ⟨rfl, hb7⟩; have HP7 := Lib.hid ((HP6.out.on (below1 w6 (.cells #[.string tv, .string tsy, .int .i64 tn] 25))).on hb7); have HO7 := Lib.hid ((HO6.out.add ((below1 w6 (.cells #[.string tv, .string tsy, .int .i64 tn] 25)).mono HO6.out.size)).trans (Only.of hb7)); have HX7 := Lib.hid ((Bk.new w6 25 #[.string tv, .string tsy, .int .i64 tn]).on hb7); have HZ7 := Lib.hid ((HZ6.out.on (below1 w6 (.cells #[.string tv, .string tsy, .int .i64 tn] 25))).on hb7); have d7 := HP7.out.box.cell 2 _ rfl; have d7' := HP7.out.box.soft 2; clear hb7)
    | (go_at_call 93; refine (HT1.out _ HP5.out).mono ?_; rintro e w6 ⟨rfl, hp6, ho6⟩; have HP6 := Lib.hid hp6; have hw6 := hp6.lt; have HO6 := Lib.hid (HO5.out.trans ho6); have HZ6 := Lib.hid (HZ5.out.only ho6 (by omega)); clear hp6 ho6)
    | (go_at_call 92; refine (HK.out _ HP4.out).mono ?_; rintro e w5 ⟨rfl, hb5⟩; have HP5 := Lib.hid (HP4.out.on hb5); have HO5 := Lib.hid (HO4.out.trans (Only.of hb5)); have HZ5 := Lib.hid (HZ4.out.on hb5); clear hb5)
    | (go_at_call 92; refine (HK.out _ HP3.out).mono ?_; rintro e w4 ⟨rfl, hb4⟩; have HP4 := Lib.hid (HP3.out.on hb4); have HO4 := Lib.hid (HO3.out.trans (Only.of hb4)); have HZ4 := Lib.hid (HZ3.out.on hb4); clear hb4)
    | (go_at_call 92; refine (HK.out _ HP2.out).mono ?_; rintro e w3 ⟨rfl, hb3⟩; have HP3 := Lib.hid (HP2.out.on hb3); have HO3 := Lib.hid (HO2.out.trans (Only.of hb3)); have HZ3 := Lib.hid (HZ2.out.on hb3); clear hb3)
    | (go_at_call 60; refine (HS1.out _ HP1.out).mono ?_; rintro e w2 ⟨rfl, hb2⟩; have HP2 := Lib.hid (HP1.out.on hb2); have HO2 := Lib.hid (HO1.out.trans (Only.of hb2)); have HZ2 := Lib.hid (HZ1.out.on hb2); clear hb2)
    | (go_at_call 60; refine (HS0.out _ (HP.out.on (HB.out _))).mono ?_; rintro e w1 ⟨rfl, hb1⟩; have HP1 := Lib.hid ((HP.out.on (HB.out _)).on hb1); have HO1 := Lib.hid ((Only.of (pb := rb) (HB.out _)).trans (Only.of hb1)); have HZ1 := Lib.hid ((Bk.new w _ _).on hb1); have d2 := HP1.out.box.cell 2 _ rfl; have d2' := HP1.out.box.soft 2; clear hb1))
  obtain ⟨q0, q1, q2, q3, q4, q5⟩ := (load6 HZA.out (.int .u8 3) (.string ⟨#[]⟩) (.string ⟨#[]⟩) (.int .i64 0) (.string ⟨#[]⟩) (.slice (some ⟨w9.heap.size + 1, 0, none⟩) 2 2)).six
  have hlt := HZ9.out.lt
  refine bodyPost_ret (v := Lp.agg ⟨3, ⟨⟨#[]⟩, ⟨#[]⟩, 0⟩, ⟨#[]⟩, some ⟨w9.heap.size + 1, 0, none⟩, 2, [⟨tv, tsy, tn⟩, t2]⟩) ?_ rfl ?_
  · simp [results, Tryz.results61, go_sem, q0, q1, q2, q3, q4, q5, Lp.agg]
  · exact rsaid_close (w2 := w9.alloc (.cells #[.string t2.v, .string t2.s, .int .i64 t2.n] 25)) (w3 := (w9.alloc (.cells #[.string t2.v, .string t2.s, .int .i64 t2.n] 25)).alloc (.cells #[.string tv, .string tsy, .int .i64 tn, .string t2.v, .string t2.s, .int .i64 t2.n] 25)) (G := w.heap.size + 1) (L := ⟨3, ⟨⟨#[]⟩, ⟨#[]⟩, 0⟩, ⟨#[]⟩, [⟨tv, tsy, tn⟩, t2]⟩) (set6 (Nat.le_refl _) _ _ _ _ _ _) ((Above.refl _ _).set6 (by omega) _ _ _ _ _ _) (by simp; omega) (by omega) hpb (HO9.out.add ((below1 w9 (.cells #[.string t2.v, .string t2.s, .int .i64 t2.n] 25)).mono HO9.out.size)) (two_rd (t := ⟨tv, tsy, tn⟩) (u := t2) (by simpa using Bk.new (w9.alloc (.cells #[.string t2.v, .string t2.s, .int .i64 t2.n] 25)) 25 #[.string tv, .string tsy, .int .i64 tn, .string t2.v, .string t2.s, .int .i64 t2.n])) (fun b hb => by cases hb; simp) (Only.of (below1 _ _)) (HST.out _ _ _ _ _ HD8.out (term_on ((below1 w9 (.cells #[.string t2.v, .string t2.s, .int .i64 t2.n] 25)).trans ((below1 _ (.cells #[.string tv, .string tsy, .int .i64 tn, .string t2.v, .string t2.s, .int .i64 t2.n] 25)).mono (by simp))) HS9.out))
set_option maxHeartbeats 8000000 in
set_option maxRecDepth 100000 in
theorem rlit_name_unlike (w : World) (rb : Nat) (s : ByteArray) (q : Option Addr) (c : Nat) (ts : List Tok) (k : Nat) (fr : Int) (h : Rr w rb s q c ts k 0 fr) (hn : textAt s ts k ≠ wdNot) (hk : kindAt ts k = 1) (hu : textAt s ts (k + 1) = wdUnlike) :
    Calls Tryz.prog 61 #[.pointer (some ⟨rb, 0, none⟩)] w (RSaidPost w rb s q c ts fr (compR s ts k)) := by
  have HP := Lib.hid h
  have hpb := h.lt
  have hl := h.src.len
  have HB := Lib.hid (below1 w)
  have g0 := toList_beq (l := [110, 111, 116]) hn
  have hT : isT ts k = true := by simp [isT, hk]
  have hkl : k < ts.length := kind_lt hT
  have g3 : (kindAt ts k == 3) = false := by rw [hk]; rfl
  have g2 : (kindAt ts k == 2) = false := by rw [hk]; rfl
  have g1 : (kindAt ts k == 1) = true := by rw [hk]; rfl
  have gu := toList_beq_yes (l := [33, 61]) hu
  have gl := toList_beq (x := textAt s ts (k + 1)) (l := [60]) (by rw [hu]; decide)
  clear hk
  have HS0 := Lib.hid (show ∀ wx, Rr wx rb s q c ts k 0 fr → Calls Tryz.prog 60 #[.pointer (some ⟨rb, 0, none⟩), .int .i64 0] wx fun e w' => e = .returned (.string (textAt s ts k)) ∧ Below wx.heap.size wx w' from fun wx hx => rtext_any wx rb s q c ts k 0 0 fr hx (by omega))
  have HS1 := Lib.hid (show ∀ wx, Rr wx rb s q c ts k 0 fr → Calls Tryz.prog 60 #[.pointer (some ⟨rb, 0, none⟩), .int .i64 1] wx fun e w' => e = .returned (.string (textAt s ts (k + 1))) ∧ Below wx.heap.size wx w' from fun wx hx => rtext_any wx rb s q c ts k 1 0 fr hx (by omega))
  have HK := Lib.hid (show ∀ wx, Rr wx rb s q c ts k 0 fr → Calls Tryz.prog 92 #[.pointer (some ⟨rb, 0, none⟩)] wx fun e w' => e = .returned (.int .u8 (kindAt ts k)) ∧ Below wx.heap.size wx w' from fun wx hx => rkind_any wx rb s q c ts k 0 fr hx)
  obtain ⟨R, hR⟩ : ∃ R, R = compR s ts k := ⟨_, rfl⟩
  have HR := Lib.hid hR.symm
  rw [← hR]
  clear hR
  have HT1 := Lib.hid (show ∀ wx, Rr wx rb s q c ts k 0 fr → Calls Tryz.prog 93 #[.pointer (some ⟨rb, 0, none⟩)] wx fun e w' => e = .returned (.agg #[.string (termR s ts k).v, .string (termR s ts k).s, .int .i64 (termR s ts k).n]) ∧ Rr w' rb s q c ts (k + 1) 0 fr ∧ Only rb wx w' from fun wx hx => (rterm_any wx rb s q c ts k 0 fr hx).mono fun e w' ⟨t, h1, h2, h3⟩ => by
    rcases h3 with ⟨_, _, h4, h5⟩ | ⟨_, h4, _⟩ | ⟨h4, _⟩
    · subst h4; exact ⟨h1, h5, h2⟩
    · rw [hT] at h4; cases h4
    · exact absurd rfl h4)
  have HS2 := Lib.hid (show ∀ wx, Rr wx rb s q c ts (k + 1) 0 fr → Calls Tryz.prog 60 #[.pointer (some ⟨rb, 0, none⟩), .int .i64 0] wx fun e w' => e = .returned (.string (textAt s ts (k + 1))) ∧ Below wx.heap.size wx w' from fun wx hx => rtext_any wx rb s q c ts (k + 1) 0 0 fr hx (by omega))
  have hk2 : k + 1 < ts.length := text_lt hu (by decide)
  have HT2 := Lib.hid (show ∀ wx, Rr wx rb s q c ts (k + 2) 0 fr → Calls Tryz.prog 93 #[.pointer (some ⟨rb, 0, none⟩)] wx (RTermPost wx rb s q c ts (k + 2) 0 fr) from fun wx hx => rterm_any wx rb s q c ts (k + 2) 0 fr hx)
  have HST := Lib.hid (show ∀ t2 wx, (((0 : Int) = 0 ∧ isT ts (k + 2) = true ∧ t2 = termR s ts (k + 2) ∧ Rr wx rb s q c ts ((k + 2) + 1) 0 fr) ∨ ((0 : Int) = 0 ∧ isT ts (k + 2) = false ∧ Rr wx rb s q c ts (k + 2) 6 (placeAt s ts (k + 2))) ∨ ((0 : Int) ≠ 0 ∧ Rr wx rb s q c ts (k + 2) (0 : Int) fr)) → ((∃ k', R = .ok (⟨4, ⟨⟨#[]⟩, ⟨#[]⟩, 0⟩, ⟨#[]⟩, [termR s ts k, t2]⟩, k') ∧ Rr wx rb s q c ts k' 0 fr) ∨ (∃ k' n p, n ≠ 0 ∧ R = .error (n, p) ∧ Rr wx rb s q c ts k' n p)) from fun t2 wx ht => HR.out ▸ unlike_state hT hu t2 ht)
  generalize termR s ts k = t at *
  obtain ⟨tv, tsy, tn⟩ := t
  simp only at HST HT1
  generalize textAt s ts k = x0 at *
  generalize textAt s ts (k + 1) = x1 at *
  generalize kindAt ts k = kk at *
  clear h hn HR hT hu
  go_enter Tryz.func61, Tryz.ntmps61
  go_wp2_with (first
    | (go_at_call 93; refine (HT2.out _ (HP7.out.set 2 _ (k + 2) 0 fr (by omega) (by simp; omega))).mono ?_; rintro e w9 ⟨t2, rfl, ho9, hs9⟩; have HS9 := Lib.hid hs9; have HO9 := Lib.hid ((HO7.out.trans (Only.set rb _ 2 _)).trans ho9); have hw9 := ho9.size; have HX9 := Lib.hid ((HX7.out.other (b' := rb) (Nat.ne_of_gt hw6) 2 _).only ho9 (Nat.ne_of_gt hw6)); have HZ9 := Lib.hid ((HZ7.out.other (b' := rb) (by omega) 2 _).only ho9 (by omega)); obtain ⟨e0, e1, e2'⟩ := (HX9.out.on (below1 w9 (.cells #[.string t2.v, .string t2.s, .int .i64 t2.n] 25))).three; obtain ⟨i0, i1, i2⟩ := (Bk.new w9 25 #[.string t2.v, .string t2.s, .int .i64 t2.n]).three; have HZA := Lib.hid ((HZ9.out.on (below1 w9 (.cells #[.string t2.v, .string t2.s, .int .i64 t2.n] 25))).on (below1 _ (.cells #[.string tv, .string tsy, .int .i64 tn, .string t2.v, .string t2.s, .int .i64 t2.n] 25))); obtain ⟨r0, r1, r2, r3, r4, r5⟩ := HZA.out.six; obtain ⟨z0, z1, z2, z3, z4, z5, z6⟩ := HZA.out.softs; clear ho9 hs9)
    | (go_at_call 60; refine (HS2.out _ (HP6.out.on (below1 w6 (.cells #[.string tv, .string tsy, .int .i64 tn] 25)))).mono ?_; rintro e w7 ⟨rfl, hb7⟩; have HP7 := Lib.hid ((HP6.out.on (below1 w6 (.cells #[.string tv, .string tsy, .int .i64 tn] 25))).on hb7); have HO7 := Lib.hid ((HO6.out.add ((below1 w6 (.cells #[.string tv, .string tsy, .int .i64 tn] 25)).mono HO6.out.size)).trans (Only.of hb7)); have HX7 := Lib.hid ((Bk.new w6 25 #[.string tv, .string tsy, .int .i64 tn]).on hb7); have HZ7 := Lib.hid ((HZ6.out.on (below1 w6 (.cells #[.string tv, .string tsy, .int .i64 tn] 25))).on hb7); have d7 := HP7.out.box.cell 2 _ rfl; have d7' := HP7.out.box.soft 2; clear hb7)
    | (go_at_call 93; refine (HT1.out _ HP5.out).mono ?_; rintro e w6 ⟨rfl, hp6, ho6⟩; have HP6 := Lib.hid hp6; have hw6 := hp6.lt; have HO6 := Lib.hid (HO5.out.trans ho6); have HZ6 := Lib.hid (HZ5.out.only ho6 (by omega)); clear hp6 ho6)
    | (go_at_call 92; refine (HK.out _ HP4.out).mono ?_; rintro e w5 ⟨rfl, hb5⟩; have HP5 := Lib.hid (HP4.out.on hb5); have HO5 := Lib.hid (HO4.out.trans (Only.of hb5)); have HZ5 := Lib.hid (HZ4.out.on hb5); clear hb5)
    | (go_at_call 92; refine (HK.out _ HP3.out).mono ?_; rintro e w4 ⟨rfl, hb4⟩; have HP4 := Lib.hid (HP3.out.on hb4); have HO4 := Lib.hid (HO3.out.trans (Only.of hb4)); have HZ4 := Lib.hid (HZ3.out.on hb4); clear hb4)
    | (go_at_call 92; refine (HK.out _ HP2.out).mono ?_; rintro e w3 ⟨rfl, hb3⟩; have HP3 := Lib.hid (HP2.out.on hb3); have HO3 := Lib.hid (HO2.out.trans (Only.of hb3)); have HZ3 := Lib.hid (HZ2.out.on hb3); clear hb3)
    | (go_at_call 60; refine (HS1.out _ HP1.out).mono ?_; rintro e w2 ⟨rfl, hb2⟩; have HP2 := Lib.hid (HP1.out.on hb2); have HO2 := Lib.hid (HO1.out.trans (Only.of hb2)); have HZ2 := Lib.hid (HZ1.out.on hb2); clear hb2)
    | (go_at_call 60; refine (HS0.out _ (HP.out.on (HB.out _))).mono ?_; rintro e w1 ⟨rfl, hb1⟩; have HP1 := Lib.hid ((HP.out.on (HB.out _)).on hb1); have HO1 := Lib.hid ((Only.of (pb := rb) (HB.out _)).trans (Only.of hb1)); have HZ1 := Lib.hid ((Bk.new w _ _).on hb1); have d2 := HP1.out.box.cell 2 _ rfl; have d2' := HP1.out.box.soft 2; clear hb1))
  obtain ⟨q0, q1, q2, q3, q4, q5⟩ := (load6 HZA.out (.int .u8 4) (.string ⟨#[]⟩) (.string ⟨#[]⟩) (.int .i64 0) (.string ⟨#[]⟩) (.slice (some ⟨w9.heap.size + 1, 0, none⟩) 2 2)).six
  have hlt := HZ9.out.lt
  refine bodyPost_ret (v := Lp.agg ⟨4, ⟨⟨#[]⟩, ⟨#[]⟩, 0⟩, ⟨#[]⟩, some ⟨w9.heap.size + 1, 0, none⟩, 2, [⟨tv, tsy, tn⟩, t2]⟩) ?_ rfl ?_
  · simp [results, Tryz.results61, go_sem, q0, q1, q2, q3, q4, q5, Lp.agg]
  · exact rsaid_close (w2 := w9.alloc (.cells #[.string t2.v, .string t2.s, .int .i64 t2.n] 25)) (w3 := (w9.alloc (.cells #[.string t2.v, .string t2.s, .int .i64 t2.n] 25)).alloc (.cells #[.string tv, .string tsy, .int .i64 tn, .string t2.v, .string t2.s, .int .i64 t2.n] 25)) (G := w.heap.size + 1) (L := ⟨4, ⟨⟨#[]⟩, ⟨#[]⟩, 0⟩, ⟨#[]⟩, [⟨tv, tsy, tn⟩, t2]⟩) (set6 (Nat.le_refl _) _ _ _ _ _ _) ((Above.refl _ _).set6 (by omega) _ _ _ _ _ _) (by simp; omega) (by omega) hpb (HO9.out.add ((below1 w9 (.cells #[.string t2.v, .string t2.s, .int .i64 t2.n] 25)).mono HO9.out.size)) (two_rd (t := ⟨tv, tsy, tn⟩) (u := t2) (by simpa using Bk.new (w9.alloc (.cells #[.string t2.v, .string t2.s, .int .i64 t2.n] 25)) 25 #[.string tv, .string tsy, .int .i64 tn, .string t2.v, .string t2.s, .int .i64 t2.n])) (fun b hb => by cases hb; simp) (Only.of (below1 _ _)) (HST.out _ _ (term_on0 ((below1 w9 (.cells #[.string t2.v, .string t2.s, .int .i64 t2.n] 25)).trans ((below1 _ (.cells #[.string tv, .string tsy, .int .i64 tn, .string t2.v, .string t2.s, .int .i64 t2.n] 25)).mono (by simp))) HS9.out))
theorem kind_other {s : ByteArray} {ts : List Tok} {k : Nat} (h1 : kindAt ts k ≠ 1) (h2 : kindAt ts k ≠ 2) (h3 : kindAt ts k ≠ 3) : isT ts k = false := by simp [isT, h1, h2, h3]
theorem rliteral_any (w : World) (rb : Nat) (s : ByteArray) (q : Option Addr) (c : Nat) (ts : List Tok) (k : Nat) (fr : Int) (h : Rr w rb s q c ts k 0 fr) :
    Calls Tryz.prog 61 #[.pointer (some ⟨rb, 0, none⟩)] w (RSaidPost w rb s q c ts fr (litR s ts k)) := by
  have hC : ∀ p : textAt s ts k ≠ wdNot, (kindAt ts k = 3 ∨ textAt s ts (k + 1) = wdLess ∨ textAt s ts (k + 1) = wdUnlike) → litR s ts k = compR s ts k := fun p hp => by unfold litR; rw [if_neg p, if_pos hp]
  have hS : ∀ p : textAt s ts k ≠ wdNot, ¬ (kindAt ts k = 3 ∨ textAt s ts (k + 1) = wdLess ∨ textAt s ts (k + 1) = wdUnlike) → litR s ts k = saidR s ts 1 k := fun p hp => by unfold litR; rw [if_neg p, if_neg hp]
  by_cases hn : textAt s ts k = wdNot
  · rw [show litR s ts k = saidR s ts 2 (k + 1) by unfold litR; rw [if_pos hn]]
    exact rlit_not w rb s q c ts k fr h hn
  by_cases h3 : kindAt ts k = 3
  · rw [hC hn (.inl h3)]
    by_cases hu : textAt s ts (k + 1) = wdUnlike
    · exact rlit_num_unlike w rb s q c ts k fr h hn h3 hu
    · exact rlit_num_less w rb s q c ts k fr h hn h3 hu
  by_cases h2 : kindAt ts k = 2
  · by_cases hu : textAt s ts (k + 1) = wdUnlike
    · rw [hC hn (.inr (.inr hu))]; exact rlit_var_unlike w rb s q c ts k fr h hn h2 hu
    · by_cases hs : textAt s ts (k + 1) = wdSays
      · rw [hS hn (fun hp => by rcases hp with h | h | h; exact h3 h; exact absurd (hs.symm.trans h) (by decide); exact hu h)]
        exact rlit_says w rb s q c ts k fr h hn h2 hs
      · by_cases hl : textAt s ts (k + 1) = wdLess
        · rw [hC hn (.inr (.inl hl))]; exact rlit_var_less w rb s q c ts k fr h hn h2 hs hu
        · rw [hS hn (fun hp => by rcases hp with h | h | h; exact h3 h; exact hl h; exact hu h)]
          have := rlit_var_less w rb s q c ts k fr h hn h2 hs hu
          have hT : isT ts k = true := by simp [isT, h2]
          rwa [show compR s ts k = saidR s ts 1 k by simp [compR, saidR, hT, h2, hl, hu, hs]] at this
  by_cases h1 : kindAt ts k = 1
  · by_cases hu : textAt s ts (k + 1) = wdUnlike
    · rw [hC hn (.inr (.inr hu))]; exact rlit_name_unlike w rb s q c ts k fr h hn h1 hu
    · by_cases hl : textAt s ts (k + 1) = wdLess
      · rw [hC hn (.inr (.inl hl))]; exact rlit_name_less w rb s q c ts k fr h hn h1 hl hu
      · rw [hS hn (fun hp => by rcases hp with h | h | h; exact h3 h; exact hl h; exact hu h)]
        exact rlit_name w rb s q c ts k fr h hn h1 hl hu
  have := rlit_other w rb s q c ts k fr h hn h1 h2 h3
  by_cases hp : textAt s ts (k + 1) = wdLess ∨ textAt s ts (k + 1) = wdUnlike
  · rw [hC hn (.inr hp)]
    have hT : isT ts k = false := by simp [isT, h1, h2, h3]
    rwa [show saidR s ts 1 k = compR s ts k by simp [compR, saidR, hT, h1, h2, atomR]] at this
  · rw [hS hn (fun hq => by rcases hq with h | h; exact h3 h; exact hp h)]
    exact this
end Go.Proofs.YtfmkfabbiifolaaGreatDoor
