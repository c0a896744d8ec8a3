/-
  Joined of: RdrC, RdrD.
-/
import Derived.Test.YtfmkfabbiifolaaGreatDoorJa24
set_option linter.unusedVariables false
set_option linter.unusedSimpArgs false
/-
  Contract: the reference's reader: term.
-/
namespace Go.Proofs.YtfmkfabbiifolaaGreatDoor
open Go.RowKit

theorem load3k {w : World} {b : Nat} {T : TypeId} {a0 a1 a2 : Value} (h : Bk w b T #[a0, a1, a2]) (u0 u1 u2 : Value) : Bk (((w.setCell ⟨b, 0, none⟩ u0).setCell ⟨b, 1, none⟩ u1).setCell ⟨b, 2, none⟩ u2) b T #[u0, u1, u2] := ((h.set 0 u0).set 1 u1).set 2 u2
theorem Bk.three {w : World} {b : Nat} {T : TypeId} {a0 a1 a2 : Value} (h : Bk w b T #[a0, a1, a2]) : w.cell? ⟨b, 0, none⟩ = some a0 ∧ w.cell? ⟨b, 1, none⟩ = some a1 ∧ w.cell? ⟨b, 2, none⟩ = some a2 := ⟨h.cell 0 _ rfl, h.cell 1 _ rfl, h.cell 2 _ rfl⟩

set_option maxHeartbeats 4000000 in
theorem rterm_stuck (w : World) (rb : Nat) (s : ByteArray) (q : Option Addr) (c : Nat) (ts : List Tok) (k : Nat) (er fr : Int) (h : Rr w rb s q c ts k er fr) (he : er ≠ 0) :
    Calls Tryz.prog 93 #[.pointer (some ⟨rb, 0, none⟩)] w fun e w' => e = .returned (.agg #[.string ⟨#[]⟩, .string ⟨#[]⟩, .int .i64 0]) ∧ Rr w' rb s q c ts k er fr ∧ Only rb w w' := by
  have HP := Lib.hid h
  have hpb := h.lt
  have HB := Lib.hid (below1 w)
  have HT := Lib.hid (show ∀ wx, Rr wx rb s q c ts k er fr → _ from fun wx hx => rtext_any wx rb s q c ts k 0 er fr hx (by omega))
  have HK := Lib.hid (show ∀ wx, Rr wx rb s q c ts k er fr → _ from fun wx hx => rkind_any wx rb s q c ts k er fr hx)
  have HF := Lib.hid (show ∀ wx, Rr wx rb s q c ts k er fr → _ from fun wx hx => rfail_stuck wx rb s q c ts k er fr 6 hx he)
  have g3 : (er != 0) = true := by simpa using he
  simp only [Nat.add_zero] at HT
  generalize textAt s ts k = tx at *
  generalize kindAt ts k = kk at *
  clear h
  go_enter Tryz.func93, Tryz.ntmps93
  go_wp2_with (first
    | (go_at_call 62; refine (HF.out _ HP2.out).mono ?_; rintro e w3 ⟨rfl, rfl⟩)
    | (go_at_call 92; refine (HK.out _ HP1.out).mono ?_; rintro e w2 ⟨rfl, hb2⟩; have HP2 := Lib.hid (HP1.out.on hb2); have HB2 := Lib.hid (HB1.out.trans (hb2.mono HB1.out.size)); have HZ2 := Lib.hid (HZ1.out.on hb2); have d3 := HP2.out.box.cell 3 _ rfl; obtain ⟨z0, z1, z2⟩ := HZ2.out.three; have y0 := HZ2.out.soft 0; have y1 := HZ2.out.soft 1; have y2 := HZ2.out.soft 2; clear hb2)
    | (go_at_call 60; refine (HT.out _ (HP.out.on (HB.out _))).mono ?_; rintro e w1 ⟨rfl, hb1⟩; have HP1 := Lib.hid ((HP.out.on (HB.out _)).on hb1); have HZ1 := Lib.hid ((Bk.new w _ _).on hb1); have HB1 := Lib.hid ((HB.out _).trans (hb1.mono (HB.out _).size)); clear hb1))
  obtain ⟨L0, L1, L2⟩ := (load3k HZ2.out (.string ⟨#[]⟩) (.string ⟨#[]⟩) (.int .i64 0)).three
  refine bodyPost_ret (v := .agg #[.string ⟨#[]⟩, .string ⟨#[]⟩, .int .i64 0]) ?_ rfl ?_
  · simp [results, Tryz.results93, go_sem, L0, L1, L2]
  · exact ⟨rfl, HP2.out.on' (set3 (by omega) _ _ _), (Only.of HB2.out).add (set3 (Nat.le_refl _) _ _ _)⟩
set_option maxHeartbeats 4000000 in
theorem rterm_bad (w : World) (rb : Nat) (s : ByteArray) (q : Option Addr) (c : Nat) (ts : List Tok) (k : Nat) (fr : Int) (h : Rr w rb s q c ts k 0 fr) (hk : isT ts k = false) :
    Calls Tryz.prog 93 #[.pointer (some ⟨rb, 0, none⟩)] w fun e w' => e = .returned (.agg #[.string ⟨#[]⟩, .string ⟨#[]⟩, .int .i64 0]) ∧ Rr w' rb s q c ts k 6 (placeAt s ts k) ∧ Only rb w w' := by
  have HP := Lib.hid h
  have hpb := h.lt
  have HB := Lib.hid (below1 w)
  have HT := Lib.hid (show ∀ wx, Rr wx rb s q c ts k 0 fr → _ from fun wx hx => rtext_any wx rb s q c ts k 0 0 fr hx (by omega))
  have HK := Lib.hid (show ∀ wx, Rr wx rb s q c ts k 0 fr → _ from fun wx hx => rkind_any wx rb s q c ts k 0 fr hx)
  have HF := Lib.hid (show ∀ wx, Rr wx rb s q c ts k 0 fr → _ from fun wx hx => rfail_new wx rb s q c ts k fr 6 hx)
  obtain ⟨⟨g1, g2⟩, g3⟩ : (((kindAt ts k != 1) = true) ∧ (kindAt ts k != 2) = true) ∧ (kindAt ts k != 3) = true := by simp [isT] at hk; simp; omega
  simp only [Nat.add_zero] at HT
  generalize placeAt s ts k = pl at *
  generalize textAt s ts k = tx at *
  generalize kindAt ts k = kk at *
  clear h hk
  go_enter Tryz.func93, Tryz.ntmps93
  go_wp2_with (first
    | (go_at_call 62; refine (HF.out _ HP2.out).mono ?_; rintro e w3 ⟨rfl, hp3, ho3⟩; have HP3 := Lib.hid hp3; have HO3 := Lib.hid ((Only.of HB2.out).trans ho3); have HZ3 := Lib.hid (HZ2.out.only ho3 (by omega)); obtain ⟨z0, z1, z2⟩ := HZ3.out.three; have y0 := HZ3.out.soft 0; have y1 := HZ3.out.soft 1; have y2 := HZ3.out.soft 2; clear hp3 ho3)
    | (go_at_call 92; refine (HK.out _ HP1.out).mono ?_; rintro e w2 ⟨rfl, hb2⟩; have HP2 := Lib.hid (HP1.out.on hb2); have HB2 := Lib.hid (HB1.out.trans (hb2.mono HB1.out.size)); have HZ2 := Lib.hid (HZ1.out.on hb2); have d3 := HP2.out.box.cell 3 _ rfl; clear hb2)
    | (go_at_call 60; refine (HT.out _ (HP.out.on (HB.out _))).mono ?_; rintro e w1 ⟨rfl, hb1⟩; have HP1 := Lib.hid ((HP.out.on (HB.out _)).on hb1); have HZ1 := Lib.hid ((Bk.new w _ _).on hb1); have HB1 := Lib.hid ((HB.out _).trans (hb1.mono (HB.out _).size)); clear hb1))
  obtain ⟨L0, L1, L2⟩ := (load3k HZ3.out (.string ⟨#[]⟩) (.string ⟨#[]⟩) (.int .i64 0)).three
  refine bodyPost_ret (v := .agg #[.string ⟨#[]⟩, .string ⟨#[]⟩, .int .i64 0]) ?_ rfl ?_
  · simp [results, Tryz.results93, go_sem, L0, L1, L2]
  · exact ⟨rfl, HP3.out.on' (set3 (by omega) _ _ _), HO3.out.add (set3 (Nat.le_refl _) _ _ _)⟩
set_option maxHeartbeats 4000000 in
theorem rterm_var (w : World) (rb : Nat) (s : ByteArray) (q : Option Addr) (c : Nat) (ts : List Tok) (k : Nat) (fr : Int) (h : Rr w rb s q c ts k 0 fr) (hk : kindAt ts k = 2) :
    Calls Tryz.prog 93 #[.pointer (some ⟨rb, 0, none⟩)] w fun e w' => e = .returned (.agg #[.string (textAt s ts k), .string ⟨#[]⟩, .int .i64 0]) ∧ Rr w' rb s q c ts (k + 1) 0 fr ∧ Only rb w w' := by
  have hlt := kindAt_lt (ts := ts) (k := k) (by rw [hk]; decide)
  have hl := h.src.len
  have HP := Lib.hid h
  have hpb := h.lt
  have HB := Lib.hid (below1 w)
  have HT := Lib.hid (show ∀ wx, Rr wx rb s q c ts k 0 fr → _ from fun wx hx => rtext_any wx rb s q c ts k 0 0 fr hx (by omega))
  have HK := Lib.hid (show ∀ wx, Rr wx rb s q c ts k 0 fr → _ from fun wx hx => hk ▸ rkind_any wx rb s q c ts k 0 fr hx)
  simp only [Nat.add_zero] at HT
  generalize textAt s ts k = tx at *
  clear h hk
  go_enter Tryz.func93, Tryz.ntmps93
  go_wp2_with (first
    | (go_at_call 92; refine (HK.out _ HP1.out).mono ?_; rintro e w2 ⟨rfl, hb2⟩; have HP2 := Lib.hid (HP1.out.on hb2); have HB2 := Lib.hid (HB1.out.trans (hb2.mono HB1.out.size)); have HZ2 := Lib.hid ((HZ1.out.on hb2)); have d3 := HP2.out.box.cell 3 _ rfl; have d2 := HP2.out.box.cell 2 _ rfl; have d2' := HP2.out.box.soft 2; have HP3 := Lib.hid (HP2.out.set 2 (.int .i64 ((k : Int) + 1)) (k + 1) 0 fr (by omega) (by simp)); have HZ3 := Lib.hid (HZ2.out.other (b' := rb) (by omega) 2 (.int .i64 ((k : Int) + 1))); obtain ⟨z0, z1, z2⟩ := HZ3.out.three; have y0 := HZ3.out.soft 0; have y1 := HZ3.out.soft 1; have y2 := HZ3.out.soft 2; clear hb2)
    | (go_at_call 60; refine (HT.out _ (HP.out.on (HB.out _))).mono ?_; rintro e w1 ⟨rfl, hb1⟩; have HP1 := Lib.hid ((HP.out.on (HB.out _)).on hb1); have HZ1 := Lib.hid ((Bk.new w _ _).on hb1); have HB1 := Lib.hid ((HB.out _).trans (hb1.mono (HB.out _).size)); clear hb1))
  obtain ⟨L0, L1, L2⟩ := (load3k HZ3.out (.string tx) (.string ⟨#[]⟩) (.int .i64 0)).three
  refine bodyPost_ret (v := .agg #[.string tx, .string ⟨#[]⟩, .int .i64 0]) ?_ rfl ?_
  · simp [results, Tryz.results93, go_sem, L0, L1, L2]
  · exact ⟨rfl, HP3.out.on' (set3 (by omega) _ _ _), ((Only.of HB2.out).trans (Only.set rb _ 2 _)).add (set3 (Nat.le_refl _) _ _ _)⟩
set_option maxHeartbeats 4000000 in
theorem rterm_val (w : World) (rb : Nat) (s : ByteArray) (q : Option Addr) (c : Nat) (ts : List Tok) (k : Nat) (fr : Int) (h : Rr w rb s q c ts k 0 fr) (hk : kindAt ts k = 1 ∨ kindAt ts k = 3) :
    Calls Tryz.prog 93 #[.pointer (some ⟨rb, 0, none⟩)] w fun e w' => e = .returned (.agg #[.string ⟨#[]⟩, .string (readP (textAt s ts k)).1, .int .i64 (readP (textAt s ts k)).2]) ∧ Rr w' rb s q c ts (k + 1) 0 fr ∧ Only rb w w' := by
  have hlt := kindAt_lt (ts := ts) (k := k) (by omega)
  have hl := h.src.len
  have HP := Lib.hid h
  have hpb := h.lt
  have HB := Lib.hid (below1 w)
  have hxs := textAt_size (s := s) ts k h.src.size
  obtain ⟨bo, hrv⟩ := readP_eq (textAt s ts k)
  have HR := Lib.hid (show ∀ wx, Calls Tryz.prog 57 #[.string (textAt s ts k)] wx fun e w' => e = .returned (.tuple #[.agg #[.string (readP (textAt s ts k)).1, .int .i64 (readP (textAt s ts k)).2], .bool bo]) ∧ Below wx.heap.size wx w' from fun wx => hrv ▸ refread_any _ wx (Nat.le_trans hxs (by decide)))
  have HT := Lib.hid (show ∀ wx, Rr wx rb s q c ts k 0 fr → _ from fun wx hx => rtext_any wx rb s q c ts k 0 0 fr hx (by omega))
  have HK := Lib.hid (show ∀ wx, Rr wx rb s q c ts k 0 fr → Calls Tryz.prog 92 #[.pointer (some ⟨rb, 0, none⟩)] wx fun e w' => e = .returned (.int .u8 (kindAt ts k)) ∧ Below wx.heap.size wx w' from fun wx hx => rkind_any wx rb s q c ts k 0 fr hx)
  simp only [Nat.add_zero] at HT
  clear hrv
  generalize (readP (textAt s ts k)).1 = y at *
  generalize (readP (textAt s ts k)).2 = n at *
  generalize textAt s ts k = tx at *
  generalize kindAt ts k = kk at *
  clear h hxs
  rcases hk with rfl | rfl
  all_goals
    go_enter Tryz.func93, Tryz.ntmps93
    go_wp2_with (first
      | (go_at_call 57; refine (HR.out _).mono ?_; rintro e w4 ⟨rfl, hb4⟩; have HB4 := Lib.hid (hb4.trans ((below1 w4 (.cells #[.string y, .int .i64 n] 23)).mono hb4.size)); have HP4 := Lib.hid (HP3.out.on HB4.out); have HZ4 := Lib.hid (HZ3.out.on HB4.out); obtain ⟨z0, z1, z2⟩ := HZ4.out.three; have y0 := HZ4.out.soft 0; have y1 := HZ4.out.soft 1; have y2 := HZ4.out.soft 2; clear hb4)
      | (go_at_call 92; refine (HK.out _ HP1.out).mono ?_; rintro e w2 ⟨rfl, hb2⟩; have HP2 := Lib.hid (HP1.out.on hb2); have HB2 := Lib.hid (HB1.out.trans (hb2.mono HB1.out.size)); have HZ2 := Lib.hid ((HZ1.out.on hb2)); have d3 := HP2.out.box.cell 3 _ rfl; have d2 := HP2.out.box.cell 2 _ rfl; have d2' := HP2.out.box.soft 2; have HP3 := Lib.hid (HP2.out.set 2 (.int .i64 ((k : Int) + 1)) (k + 1) 0 fr (by omega) (by simp)); have HZ3 := Lib.hid (HZ2.out.other (b' := rb) (by omega) 2 (.int .i64 ((k : Int) + 1))); clear hb2)
      | (go_at_call 60; refine (HT.out _ (HP.out.on (HB.out _))).mono ?_; rintro e w1 ⟨rfl, hb1⟩; have HP1 := Lib.hid ((HP.out.on (HB.out _)).on hb1); have HZ1 := Lib.hid ((Bk.new w _ _).on hb1); have HB1 := Lib.hid ((HB.out _).trans (hb1.mono (HB.out _).size)); clear hb1))
    obtain ⟨L0, L1, L2⟩ := (load3k HZ4.out (.string ⟨#[]⟩) (.string y) (.int .i64 n)).three
    refine bodyPost_ret (v := .agg #[.string ⟨#[]⟩, .string y, .int .i64 n]) ?_ rfl ?_
    · simp [results, Tryz.results93, go_sem, L0, L1, L2]
    · exact ⟨rfl, HP4.out.on' (set3 (by omega) _ _ _), (((Only.of HB2.out).trans (Only.set rb _ 2 _)).trans (Only.of HB4.out)).add (set3 (Nat.le_refl _) _ _ _)⟩
/-- the reference's term, all ways -/
def RTermPost (w : World) (rb : Nat) (s : ByteArray) (q : Option Addr) (c : Nat) (ts : List Tok) (k : Nat) (er fr : Int) (e : Ending) (w' : World) : Prop :=
  ∃ t : Tm, e = .returned (.agg #[.string t.v, .string t.s, .int .i64 t.n]) ∧ Only rb w w' ∧
    ((er = 0 ∧ isT ts k = true ∧ t = termR s ts k ∧ Rr w' rb s q c ts (k + 1) 0 fr) ∨ (er = 0 ∧ isT ts k = false ∧ Rr w' rb s q c ts k 6 (placeAt s ts k)) ∨ (er ≠ 0 ∧ Rr w' rb s q c ts k er fr))
theorem rterm_any (w : World) (rb : Nat) (s : ByteArray) (q : Option Addr) (c : Nat) (ts : List Tok) (k : Nat) (er fr : Int) (h : Rr w rb s q c ts k er fr) :
    Calls Tryz.prog 93 #[.pointer (some ⟨rb, 0, none⟩)] w (RTermPost w rb s q c ts k er fr) := by
  by_cases he : er = 0
  · subst he
    cases hk : isT ts k with
    | false => exact (rterm_bad w rb s q c ts k fr h hk).mono fun e w' ⟨h1, h2, h3⟩ => ⟨tmZ, h1, h3, .inr (.inl ⟨rfl, hk, h2⟩)⟩
    | true =>
      by_cases h2 : kindAt ts k = 2
      · exact (rterm_var w rb s q c ts k fr h h2).mono fun e w' ⟨h1, h4, h3⟩ => ⟨termR s ts k, by unfold termR; rw [if_pos h2]; exact h1, h3, .inl ⟨rfl, hk, rfl, h4⟩⟩
      · exact (rterm_val w rb s q c ts k fr h (by simp [isT] at hk; omega)).mono fun e w' ⟨h1, h4, h3⟩ => ⟨termR s ts k, by unfold termR; rw [if_neg h2]; exact h1, h3, .inl ⟨rfl, hk, rfl, h4⟩⟩
  · exact (rterm_stuck w rb s q c ts k er fr h he).mono fun e w' ⟨h1, h2, h3⟩ => ⟨tmZ, h1, h3, .inr (.inr ⟨he, h2⟩)⟩
end Go.Proofs.YtfmkfabbiifolaaGreatDoor

/-
  Contract: the reference's reader: atom.
-/
namespace Go.Proofs.YtfmkfabbiifolaaGreatDoor
open Go.RowKit

theorem own_only {w w' : World} {base e size n rb : Nat} {v : Value} {xs : List Value} (h : w.ownsRow base e size v n xs) (ho : Only rb w w') (hb : rb < base) : w'.ownsRow base e size v n xs := by
  refine h.kept (row := some rb) ⟨ho.os, ho.tape, ho.output, ho.size, fun i hi hn => ho.block i hi (fun e => hn (by rw [e]))⟩ ?_
  cases hv : v.ownBlock with
  | none => simp
  | some g =>
    have := (h.lt g hv).1
    simp; omega
/-- how the reference's atom ends -/
def RAtomPost (w : World) (rb : Nat) (s : ByteArray) (q : Option Addr) (c : Nat) (ts : List Tok) (k : Nat) (er fr : Int) (e : Ending) (w' : World) : Prop :=
  ∃ nm q' l c', e = .returned (.tuple #[.string nm, .slice q' (l : List Tm).length c']) ∧ Tms w' w'.heap.size q' l ∧ (∀ b, q' = some b → w.heap.size ≤ b.block) ∧ Only rb w w' ∧
    ((∃ k', er = 0 ∧ atomR s ts k = .ok ((nm, l), k') ∧ Rr w' rb s q c ts k' 0 fr) ∨ (∃ k' n p, n ≠ 0 ∧ (er = 0 → atomR s ts k = .error (n, p)) ∧ (er ≠ 0 → n = er ∧ p = fr) ∧ Rr w' rb s q c ts k' n p))
def slLen : Value → Nat
  | .slice _ n _ => n
  | _ => 0

set_option maxHeartbeats 4000000 in
theorem ratom_stuck (w : World) (rb : Nat) (s : ByteArray) (q : Option Addr) (c : Nat) (ts : List Tok) (k : Nat) (er fr : Int) (h : Rr w rb s q c ts k er fr) (he : er ≠ 0) :
    Calls Tryz.prog 59 #[.pointer (some ⟨rb, 0, none⟩)] w fun e w' => e = .returned (.tuple #[.string ⟨#[]⟩, .slice none 0 0]) ∧ w' = w := by
  have d3 := h.box.cell 3 _ rfl
  have HF := Lib.hid (rfail_stuck w rb s q c ts k er fr 6 h he)
  have g3 : (er != 0) = true := by simpa using he
  clear h
  go_enter Tryz.func59, Tryz.ntmps59
  go_wp2_with (go_at_call 62; refine (HF.out).mono ?_; rintro e w' ⟨rfl, rfl⟩)
  go_ret2
  exact ⟨rfl, rfl⟩
set_option maxHeartbeats 4000000 in
theorem ratom_bad (w : World) (rb : Nat) (s : ByteArray) (q : Option Addr) (c : Nat) (ts : List Tok) (k : Nat) (fr : Int) (h : Rr w rb s q c ts k 0 fr) (hk : kindAt ts k ≠ 1) :
    Calls Tryz.prog 59 #[.pointer (some ⟨rb, 0, none⟩)] w fun e w' => e = .returned (.tuple #[.string ⟨#[]⟩, .slice none 0 0]) ∧ Rr w' rb s q c ts k 6 (placeAt s ts k) ∧ Only rb w w' := by
  have HP := Lib.hid h
  have d3 := h.box.cell 3 _ rfl
  have HK := Lib.hid (rkind_any w rb s q c ts k 0 fr h)
  have HF := Lib.hid (show ∀ wx, Rr wx rb s q c ts k 0 fr → _ from fun wx hx => rfail_new wx rb s q c ts k fr 6 hx)
  have g1 : (kindAt ts k != 1) = true := by simpa using hk
  generalize kindAt ts k = kk at *
  clear h hk
  go_enter Tryz.func59, Tryz.ntmps59
  go_wp2_with (first
    | (go_at_call 62; refine (HF.out _ HP1.out).mono ?_; rintro e w2 ⟨rfl, hp2, ho2⟩)
    | (go_at_call 92; refine (HK.out).mono ?_; rintro e w1 ⟨rfl, hb1⟩; have HP1 := Lib.hid (HP.out.on hb1); have HB1 := Lib.hid hb1; clear hb1))
  go_ret2
  exact ⟨rfl, hp2, (Only.of HB1.out).trans ho2⟩
set_option maxHeartbeats 4000000 in
theorem ratom_bare (w : World) (rb : Nat) (s : ByteArray) (q : Option Addr) (c : Nat) (ts : List Tok) (k : Nat) (fr : Int) (h : Rr w rb s q c ts k 0 fr) (hk : kindAt ts k = 1) (ho : textAt s ts (k + 1) ≠ popen) :
    Calls Tryz.prog 59 #[.pointer (some ⟨rb, 0, none⟩)] w fun e w' => e = .returned (.tuple #[.string (textAt s ts k), .slice none 0 0]) ∧ Rr w' rb s q c ts (k + 1) 0 fr ∧ Only rb w w' := by
  have hlt := kindAt_lt (ts := ts) (k := k) (by rw [hk]; decide)
  have hl := h.src.len
  have HP := Lib.hid h
  have d3 := h.box.cell 3 _ rfl
  have HK := Lib.hid (hk ▸ rkind_any w rb s q c ts k 0 fr h)
  have HT := Lib.hid (show ∀ wx, Rr wx rb s q c ts k 0 fr → _ from fun wx hx => rtext_any wx rb s q c ts k 0 0 fr hx (by omega))
  have HT2 := Lib.hid (show ∀ wx, Rr wx rb s q c ts (k + 1) 0 fr → _ from fun wx hx => rtext_any wx rb s q c ts (k + 1) 0 0 fr hx (by omega))
  have hq : ((textAt s ts (k + 1)).toList == [40]) = false := toList_beq (l := [40]) ho
  have hq' : ((textAt s ts (k + 1)).toList != [40]) = true := by simp [bne, hq]
  simp only [Nat.add_zero] at HT HT2
  generalize textAt s ts (k + 1) = t1 at *
  generalize textAt s ts k = t0 at *
  clear h hk ho
  go_enter Tryz.func59, Tryz.ntmps59
  go_wp2_with (first
    | (go_at_call 60; refine (HT2.out _ HP3.out).mono ?_; rintro e w4 ⟨rfl, hb4⟩; have HP4 := Lib.hid (HP3.out.on hb4); have HB4 := Lib.hid hb4; clear hb4)
    | (go_at_call 60; refine (HT.out _ HP1.out).mono ?_; rintro e w2 ⟨rfl, hb2⟩; have HP2 := Lib.hid (HP1.out.on hb2); have HB2 := Lib.hid (HB1.out.trans (hb2.mono HB1.out.size)); have d2 := HP2.out.box.cell 2 _ rfl; have d2' := HP2.out.box.soft 2; have HP3 := Lib.hid (HP2.out.set 2 (.int .i64 ((k : Int) + 1)) (k + 1) 0 fr (by omega) (by simp)); clear hb2)
    | (go_at_call 92; refine (HK.out).mono ?_; rintro e w1 ⟨rfl, hb1⟩; have HP1 := Lib.hid (HP.out.on hb1); have HB1 := Lib.hid hb1; clear hb1))
  go_ret2
  exact ⟨rfl, HP4.out, ((Only.of HB2.out).trans (Only.set rb _ 2 _)).trans (Only.of HB4.out)⟩

theorem rd_of_row {w : World} {base g cap : Nat} {l : List Tm} (h : w.ownsRow base 25 3 (.slice (some ⟨g, 0, none⟩) l.length cap) l.length (flatE encM l)) (hb : base ≤ w.heap.size) : Tms w w.heap.size (some ⟨g, 0, none⟩) l := by
  obtain ⟨q', c', e, hr, _⟩ := grw_form EM (.inr h) hb
  injection e with e1 e2 e3
  rw [e1]; exact hr
/-- the terms read so far, and the reader's state -/
structure RI (w0 : World) (rb : Nat) (s : ByteArray) (q : Option Addr) (c : Nat) (ts : List Tok) (LT : Except (Int × Int) (List Tm × Nat)) (fr : Int) (acc : List Tm) (kx : Nat) (ex fx : Int) (w : World) (v : Value) : Prop where
  row : w.ownsRow w0.heap.size 25 3 v acc.length (flatE encM acc)
  rr : Rr w rb s q c ts kx ex fx
  only : Only rb w0 w
  lo : 1 ≤ acc.length
  hi : acc.length ≤ 5
  st : (ex = 0 ∧ fx = fr ∧ acc.length ≤ 4 ∧ LT = moreT s ts (4 - acc.length) acc kx) ∨ (ex ≠ 0 ∧ LT = .error (ex, fx))
set_option maxHeartbeats 8000000 in
set_option maxRecDepth 100000 in
theorem ratom_list (w : World) (rb : Nat) (s : ByteArray) (q : Option Addr) (c : Nat) (ts : List Tok) (k : Nat) (fr : Int) (h : Rr w rb s q c ts k 0 fr) (hk : kindAt ts k = 1) (ho : textAt s ts (k + 1) = popen) :
    Calls Tryz.prog 59 #[.pointer (some ⟨rb, 0, none⟩)] w (RAtomPost w rb s q c ts k 0 fr) := by
  have hlt := kindAt_lt (ts := ts) (k := k) (by rw [hk]; decide)
  have hlt2 := text_lt ho (by decide)
  have hl := h.src.len
  have hrb := h.lt
  have HP := Lib.hid h
  have d3 := h.box.cell 3 _ rfl
  obtain ⟨i0, hii, hz0, hz1, hzb⟩ := info_parts infoTerm
  have HK := Lib.hid (hk ▸ rkind_any w rb s q c ts k 0 fr h)
  have HT := Lib.hid (show ∀ wx, Rr wx rb s q c ts k 0 fr → _ from fun wx hx => rtext_any wx rb s q c ts k 0 0 fr hx (by omega))
  have HT2 := Lib.hid (show ∀ wx, Rr wx rb s q c ts (k + 1) 0 fr → Calls Tryz.prog 60 #[.pointer (some ⟨rb, 0, none⟩), .int .i64 0] wx fun e w' => e = .returned (.string ⟨#[40]⟩) ∧ Below wx.heap.size wx w' from fun wx hx => (rtext_any wx rb s q c ts (k + 1) 0 0 fr hx (by omega)).mono fun e w' ⟨h1, h2⟩ => ⟨by rw [h1, Nat.add_zero, ho]; rfl, h2⟩)
  have HTM := Lib.hid (show ∀ wx kx, Rr wx rb s q c ts kx 0 fr → Calls Tryz.prog 93 #[.pointer (some ⟨rb, 0, none⟩)] wx (RTermPost wx rb s q c ts kx 0 fr) from fun wx kx hx => rterm_any wx rb s q c ts kx 0 fr hx)
  have HR := Lib.hid (show atomR s ts k = match listT s ts 3 (k + 2) with
      | .error e => .error e
      | .ok (l, k') => if textAt s ts k' = pshut then .ok ((textAt s ts k, l), k' + 1) else .error (6, placeAt s ts k') by unfold atomR; rw [if_pos hk, if_pos ho]; cases listT s ts 3 (k + 2) <;> rfl)
  have HLT := Lib.hid (show listT s ts 3 (k + 2) = if isT ts (k + 2) then moreT s ts 3 [termR s ts (k + 2)] (k + 3) else .error (6, placeAt s ts (k + 2)) from rfl)
  have HL1 := Lib.hid (show ([] : List Tm).length + [tmZ].length ≤ maxLen by decide)
  simp only [Nat.add_zero] at HT
  clear h hk ho
  go_enter Tryz.func59, Tryz.ntmps59
  go_wp2_with (first
    | (at_builtin; refine wpList_appendE EM rfl _ _ 26 rfl w.heap.size 25 i0 _ 40 underTs hii hz0 hz1 hzb rfl _ ([] : List Tm) rfl (World.ownsRow_nil _ _ _ _) (some ⟨w6.heap.size, 0, none⟩) [t] 1 rfl (rd_fresh EM w6 25 #[.string t.v, .string t.s, .int .i64 t.n] t rfl) (by simp; decide) (by simp) (Nat.le_trans HO6.out.size (below1 w6 _).size) ?_; intro v7 w7 ho7 hb7 _ _; have HO7 := Lib.hid (show w7.ownsRow w.heap.size 25 3 v7 [t].length (flatE encM [t]) from ho7); have HBB7 := Lib.hid (((below1 w6 (.cells #[.string t.v, .string t.s, .int .i64 t.n] 25)).mono HO6.out.size).trans hb7); clear ho7 hb7)
    | (go_at_call 93; refine (HTM.out _ _ HP5.out).mono ?_; rintro e w6 ⟨t, rfl, ho6, hc6⟩; have HO6 := Lib.hid (HO5.out.trans ho6); have HC6 := Lib.hid hc6; clear ho6 hc6)
    | (go_at_call 60; refine (HT2.out _ HP3.out).mono ?_; rintro e w4 ⟨rfl, hb4⟩; have HP4 := Lib.hid (HP3.out.on hb4); have e2 := HP4.out.box.cell 2 _ rfl; have e2' := HP4.out.box.soft 2; have HP5 := Lib.hid (HP4.out.set 2 (.int .i64 (((k + 1 : Nat) : Int) + 1)) (k + 2) 0 fr (by omega) (by simp; omega)); have HO5 := Lib.hid ((HO3.out.trans (Only.of hb4)).trans (Only.set rb w4 2 (.int .i64 (((k + 1 : Nat) : Int) + 1)))); clear hb4)
    | (go_at_call 60; refine (HT.out _ HP1.out).mono ?_; rintro e w2 ⟨rfl, hb2⟩; have HP2 := Lib.hid (HP1.out.on hb2); have HB2 := Lib.hid (HB1.out.trans (hb2.mono HB1.out.size)); have d2 := HP2.out.box.cell 2 _ rfl; have d2' := HP2.out.box.soft 2; have HP3 := Lib.hid (HP2.out.set 2 (.int .i64 ((k : Int) + 1)) (k + 1) 0 fr (by omega) (by simp)); have HO3 := Lib.hid ((Only.of HB2.out).trans (Only.set rb w2 2 (.int .i64 ((k : Int) + 1)))); clear hb2)
    | (go_at_call 92; refine (HK.out).mono ?_; rintro e w1 ⟨rfl, hb1⟩; have HP1 := Lib.hid (HP.out.on hb1); have HB1 := Lib.hid hb1; clear hb1))
  have hst : ∃ kx ex fx, RI w rb s q c ts (listT s ts 3 (k + 2)) fr [t] kx ex fx w7 v7 := by
    have ho7 := HO6.out.add HBB7.out
    have hbr : Below (rb + 1) w6 w7 := HBB7.out.mono hrb
    rcases HC6.out with ⟨_, h1, h2, h3⟩ | ⟨_, h1, h3⟩ | ⟨h1, _⟩
    · exact ⟨_, _, _, HO7.out, h3.on' hbr, ho7, Nat.le_refl _, by simp, .inl ⟨rfl, rfl, by simp, by rw [HLT.out, if_pos h1, h2]; rfl⟩⟩
    · exact ⟨_, _, _, HO7.out, h3.on' hbr, ho7, Nat.le_refl _, by simp, .inr ⟨by decide, by rw [HLT.out, if_neg (by rw [h1]; decide)]⟩⟩
    · exact absurd rfl h1
  have HST := Lib.hid hst
  have hle5 : w.heap.size ≤ w7.heap.size := Nat.le_trans HO6.out.size HBB7.out.size
  clear hst
  go_loopw [5] (fun v wr => ∃ (acc : List Tm) (kx : Nat) (ex fx : Int), Hid (RI w rb s q c ts (listT s ts 3 (k + 2)) fr acc kx ex fx wr v)) (fun v _ => 10 - slLen v)
  case atStart =>
    obtain ⟨kx, ex, fx, h1⟩ := HST.out
    exact ⟨[t], kx, ex, fx, Lib.hid h1⟩
  case round =>
    obtain ⟨acc, kx, ex, fx, HI⟩ := hrel
    obtain ⟨g, cap, hv, _, _⟩ := World.ownsRow.form HI.out.row (by have := HI.out.lo; omega)
    subst hv
    have hlo := HI.out.lo
    have hhi := HI.out.hi
    have hles := HI.out.only.size
    have x3 := HI.out.rr.box.cell 3 _ rfl
    rcases HI.out.st with ⟨rfl, rfl, h4, hmt⟩ | ⟨hne, herr⟩
    · have HMT := Lib.hid hmt
      have hkl := HI.out.rr.le
      have HTX := Lib.hid (rtext_any _ rb s q c ts kx 0 0 fx HI.out.rr (by omega))
      simp only [Nat.add_zero] at HTX
      clear hmt
      by_cases hcm : textAt s ts kx = comma
      · have HTC := Lib.hid (show Calls Tryz.prog 60 #[.pointer (some ⟨rb, 0, none⟩), .int .i64 0] _ fun e w' => e = .returned (.string ⟨#[44]⟩) ∧ Below _ _ w' from (HTX.out).mono fun e w' ⟨h1, h2⟩ => ⟨by rw [h1, hcm]; rfl, h2⟩)
        have hkx := comma_lt hcm
        by_cases hl4 : acc.length = 4
        · have hl4' : ((acc.length : Int) == 4) = true := by simp; omega
          have HLE := Lib.hid (show listT s ts 3 (k + 2) = .error (2, placeAt s ts kx) by
            rw [HMT.out, hl4]
            show (if textAt s ts kx = comma then _ else _) = _
            rw [if_pos hcm])
          have HF := Lib.hid (show ∀ wx, Rr wx rb s q c ts kx 0 fx → _ from fun wx hx => rfail_new wx rb s q c ts kx fx 2 hx)
          go_wp2_with (first
            | (go_at_call 62; refine (HF.out _ HP8.out).mono ?_; rintro e w9 ⟨rfl, hp9, ho9⟩)
            | (go_at_call 60; refine (HTC.out).mono ?_; rintro e w8 ⟨rfl, hb8⟩; have HP8 := Lib.hid (HI.out.rr.on hb8); have HO8 := Lib.hid (HI.out.only.trans (Only.of hb8)); clear hb8))
          go_ret2
          exact ⟨⟨#[]⟩, none, [], 0, rfl, .nil, fun b hb => by (cases hb), HO8.out.trans ho9, .inr ⟨kx, 2, placeAt s ts kx, by decide, fun _ => by rw [HR.out, HLE.out], fun hx => absurd rfl hx, hp9⟩⟩
        · have hl4' : ((acc.length : Int) == 4) = false := by simp; omega
          have HLE := Lib.hid (show listT s ts 3 (k + 2) = if isT ts (kx + 1) then moreT s ts (4 - (acc.length + 1)) (acc ++ [termR s ts (kx + 1)]) (kx + 2) else .error (6, placeAt s ts (kx + 1)) by
            rw [HMT.out, show 4 - acc.length = (4 - (acc.length + 1)) + 1 by omega]
            show (if textAt s ts kx = comma then _ else _) = _
            rw [if_pos hcm])
          have HLA := Lib.hid (fun t : Tm => show acc.length + [t].length ≤ maxLen by unfold maxLen; simp; omega)
          have HLB := Lib.hid (fun t : Tm => show (acc.length + [t].length) * 40 ≤ 140737488355328 by simp; omega)
          go_wp2_with (first
            | (at_builtin; refine wpList_appendE EM rfl _ _ 26 rfl w.heap.size 25 i0 _ 40 underTs hii hz0 hz1 hzb rfl _ acc rfl (own_below HR9.out (below1 _ _)) (some ⟨w9.heap.size, 0, none⟩) [t2] 1 rfl (rd_fresh EM w9 25 #[.string t2.v, .string t2.s, .int .i64 t2.n] t2 rfl) (HLA.out t2) (HLB.out t2) (Nat.le_trans HO9.out.size (below1 w9 _).size) ?_; intro v10 w10 ho10 hb10 _ _; obtain ⟨g10, cap10, rfl, _, _⟩ := World.ownsRow.form ho10 (by simp); have HO10 := Lib.hid ho10; have HB10 := Lib.hid (((below1 w9 (.cells #[.string t2.v, .string t2.s, .int .i64 t2.n] 25)).mono HO9.out.size).trans hb10); clear ho10 hb10)
            | (go_at_call 93; refine (HTM.out _ _ HQ8.out).mono ?_; rintro e w9 ⟨t2, rfl, ho9, hc9⟩; have HO9 := Lib.hid (HO8.out.trans ho9); have HR9 := Lib.hid (own_only HR8.out ho9 hrb); have HC9 := Lib.hid hc9; clear ho9 hc9)
            | (go_at_call 60; refine (HTC.out).mono ?_; rintro e w8 ⟨rfl, hb8⟩; have HP8 := Lib.hid (HI.out.rr.on hb8); have u2 := HP8.out.box.cell 2 _ rfl; have u2' := HP8.out.box.soft 2; have HQ8 := Lib.hid (HP8.out.set 2 (.int .i64 ((kx : Int) + 1)) (kx + 1) 0 fx (by omega) (by simp)); have HO8 := Lib.hid ((HI.out.only.trans (Only.of hb8)).trans (Only.set rb w8 2 (.int .i64 ((kx : Int) + 1)))); have HR8 := Lib.hid (own_only (own_below HI.out.row hb8) (Only.set rb w8 2 (.int .i64 ((kx : Int) + 1))) hrb); clear hb8))
          have hnew : ∃ ky ey fy, RI w rb s q c ts (listT s ts 3 (k + 2)) fx (acc ++ [t2]) ky ey fy w10 (.slice (some ⟨g10, 0, none⟩) (acc ++ [t2]).length cap10) := by
            have ho7 := HO9.out.add HB10.out
            have hbr : Below (rb + 1) w9 w10 := HB10.out.mono hrb
            rcases HC9.out with ⟨_, h1, h2, h3⟩ | ⟨_, h1, h3⟩ | ⟨h1, _⟩
            · exact ⟨_, _, _, HO10.out, h3.on' hbr, ho7, by simp, by simp; omega, .inl ⟨rfl, rfl, by simp; omega, by rw [HLE.out, if_pos h1, h2]; simp⟩⟩
            · exact ⟨_, _, _, HO10.out, h3.on' hbr, ho7, by simp, by simp; omega, .inr ⟨by decide, by rw [HLE.out, if_neg (by rw [h1]; decide)]⟩⟩
            · exact absurd rfl h1
          obtain ⟨ky, ey, fy, hri⟩ := hnew
          have HNW := Lib.hid hri
          clear hri
          go_roundw
          case rel => exact ⟨acc ++ [t2], ky, ey, fy, Lib.hid (by simpa using HNW.out)⟩
          case measure => simp [slLen]; omega
      · have HLE := Lib.hid (show listT s ts 3 (k + 2) = .ok (acc, kx) by
          rw [HMT.out]
          rcases hz : 4 - acc.length with _ | m
          · unfold moreT; rw [if_neg hcm]
          · unfold moreT; rw [if_neg hcm])
        have hq : ((textAt s ts kx).toList == [44]) = false := toList_beq (l := [44]) hcm
        have hrd := rd_of_row HI.out.row hles
        have HFR := Lib.hid (own_fresh HI.out.row)
        have HRD := Lib.hid hrd
        clear hrd
        by_cases hsh : textAt s ts kx = pshut
        · have HN := Lib.hid (show ∀ wx, Rr wx rb s q c ts kx 0 fx → _ from fun wx hx => rneed_yes wx rb s q c ts kx fx ⟨#[41]⟩ hx hsh (text_lt hsh (by decide)))
          have HRR := Lib.hid (show atomR s ts k = .ok ((textAt s ts k, acc), kx + 1) by rw [HR.out, HLE.out]; simp only; rw [if_pos hsh])
          clear hsh
          go_wp2_with (first
            | (go_at_call 63; refine (HN.out _ HP8.out).mono ?_; rintro e w9 ⟨rfl, hp9, ho9⟩)
            | (go_at_call 60; refine (HTX.out).mono ?_; rintro e w8 ⟨rfl, hb8⟩; have HP8 := Lib.hid (HI.out.rr.on hb8); have HO8 := Lib.hid (HI.out.only.trans (Only.of hb8)); have HD8 := Lib.hid (HRD.out.grow hb8); have HR8 := Lib.hid (own_below HI.out.row hb8); clear hb8))
          go_ret2
          exact ⟨_, _, acc, _, rfl, rd_of_row (own_only HR8.out ho9 hrb) (Nat.le_trans HO8.out.size ho9.size), HFR.out, HO8.out.trans ho9, .inl ⟨kx + 1, rfl, HRR.out, hp9⟩⟩
        · have HN := Lib.hid (show ∀ wx, Rr wx rb s q c ts kx 0 fx → _ from fun wx hx => rneed_no wx rb s q c ts kx fx ⟨#[41]⟩ hx hsh)
          have HRR := Lib.hid (show atomR s ts k = .error (6, placeAt s ts kx) by rw [HR.out, HLE.out]; simp only; rw [if_neg hsh])
          go_wp2_with (first
            | (go_at_call 63; refine (HN.out _ HP8.out).mono ?_; rintro e w9 ⟨rfl, hp9, ho9⟩)
            | (go_at_call 60; refine (HTX.out).mono ?_; rintro e w8 ⟨rfl, hb8⟩; have HP8 := Lib.hid (HI.out.rr.on hb8); have HO8 := Lib.hid (HI.out.only.trans (Only.of hb8)); have HR8 := Lib.hid (own_below HI.out.row hb8); clear hb8))
          go_ret2
          exact ⟨_, _, acc, _, rfl, rd_of_row (own_only HR8.out ho9 hrb) (Nat.le_trans HO8.out.size ho9.size), HFR.out, HO8.out.trans ho9, .inr ⟨kx, 6, _, by decide, fun _ => HRR.out, fun hx => absurd rfl hx, hp9⟩⟩
    · have g3 : (ex == 0) = false := by simpa using hne
      have HN := Lib.hid (rneed_stuck _ rb s q c ts kx ex fx ⟨#[41]⟩ HI.out.rr hne)
      have HRR := Lib.hid (show atomR s ts k = .error (ex, fx) by rw [HR.out, herr])
      have HNE := Lib.hid hne
      have HFR := Lib.hid (own_fresh HI.out.row)
      clear hne herr
      go_wp2_with (go_at_call 63; refine (HN.out).mono ?_; rintro e w9 ⟨rfl, rfl⟩)
      go_ret2
      exact ⟨_, _, acc, _, rfl, rd_of_row HI.out.row hles, HFR.out, HI.out.only, .inr ⟨kx, ex, fx, HNE.out, fun _ => HRR.out, fun hx => absurd rfl hx, HI.out.rr⟩⟩
theorem ratom_any (w : World) (rb : Nat) (s : ByteArray) (q : Option Addr) (c : Nat) (ts : List Tok) (k : Nat) (er fr : Int) (h : Rr w rb s q c ts k er fr) :
    Calls Tryz.prog 59 #[.pointer (some ⟨rb, 0, none⟩)] w (RAtomPost w rb s q c ts k er fr) := by
  by_cases he : er = 0
  · subst he
    by_cases hk : kindAt ts k = 1
    · by_cases ho : textAt s ts (k + 1) = popen
      · exact ratom_list w rb s q c ts k fr h hk ho
      · exact (ratom_bare w rb s q c ts k fr h hk ho).mono fun e w' ⟨h1, h2, h3⟩ => ⟨_, none, [], 0, h1, .nil, fun b hb => by (cases hb), h3, .inl ⟨k + 1, rfl, by unfold atomR; rw [if_pos hk, if_neg ho], h2⟩⟩
    · exact (ratom_bad w rb s q c ts k fr h hk).mono fun e w' ⟨h1, h2, h3⟩ => ⟨_, none, [], 0, h1, .nil, fun b hb => by (cases hb), h3, .inr ⟨k, 6, _, by decide, fun _ => by unfold atomR; rw [if_neg hk], fun hx => absurd rfl hx, h2⟩⟩
  · exact (ratom_stuck w rb s q c ts k er fr h he).mono fun e w' ⟨h1, h2⟩ => ⟨_, none, [], 0, h1, .nil, fun b hb => by (cases hb), h2 ▸ Only.refl _ _, .inr ⟨k, er, fr, he, fun hx => absurd hx he, fun _ => ⟨rfl, rfl⟩, h2 ▸ h⟩⟩
end Go.Proofs.YtfmkfabbiifolaaGreatDoor
