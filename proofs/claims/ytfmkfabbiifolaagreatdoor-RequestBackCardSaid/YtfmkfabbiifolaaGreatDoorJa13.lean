/-
  Joined of: PrsK, PrsL.
-/
import Derived.Test.YtfmkfabbiifolaaGreatDoorJa12
import Derived.Deep.AppendLies
set_option linter.unusedVariables false
set_option linter.unusedSimpArgs false
/-
  Contract: parser.literal.
-/
namespace Go.Proofs.YtfmkfabbiifolaaGreatDoor
open Go.RowKit

theorem toList_beq {x : ByteArray} {l : List UInt8} (h : ¬ x = ⟨l.toArray⟩) : (x.toList == l) = false := by
  rw [beq_eq_false_iff_ne]; intro he
  rw [ByteArray.toList_eq] at he
  exact h (by rcases x with ⟨⟨a⟩⟩; subst he; rfl)
theorem toList_beq_yes {x : ByteArray} {l : List UInt8} (h : x = ⟨l.toArray⟩) : (x.toList == l) = true := by
  subst h; rw [ByteArray.toList_eq]; simp

set_option maxHeartbeats 8000000 in
set_option maxRecDepth 100000 in
theorem lit_not (w : World) (pb : Nat) (s : ByteArray) (q : Option Addr) (c : Nat) (ts : List Tok) (k : Nat) (h : Ps w pb s q c ts k) (hn : textAt s ts k = wdNot) :
    Calls Tryz.prog 114 #[.pointer (some ⟨pb, 0, none⟩)] w (LitPost w pb s q c ts (litR s ts k)) := by
  have HR := Lib.hid (show litR s ts k = saidR s ts 2 (k + 1) by unfold litR; rw [if_pos hn])
  generalize litR s ts k = R at *
  have HP := Lib.hid h
  have hpb := h.lt
  have HB := Lib.hid (below1 w)
  have HN := Lib.hid (show ∀ wx, Ps wx pb s q c ts k → Calls Tryz.prog 111 #[.pointer (some ⟨pb, 0, none⟩), .string ⟨#[110, 111, 116]⟩] wx fun e w' => e = .returned (.bool true) ∧ Ps w' pb s q c ts (k + 1) ∧ Only pb wx w' from fun wx hx => took_yes wx pb s q c ts k _ hx hn (text_lt hn (by decide)))
  have HS := Lib.hid (show ∀ wx, Ps wx pb s q c ts (k + 1) → Calls Tryz.prog 89 #[.pointer (some ⟨pb, 0, none⟩), .int .u8 2] wx (LitPost wx pb s q c ts (saidR s ts 2 (k + 1))) from fun wx hx => psaid_any wx pb s q c ts (k + 1) 2 hx)
  clear h hn
  go_enter Tryz.func114, Tryz.ntmps114
  go_wp2_with (first
    | (go_at_call 111; refine (HN.out _ (HP.out.on (HB.out _))).mono ?_; rintro e w1 ⟨rfl, hp1, ho1⟩; have HP1 := Lib.hid hp1; have HO1 := Lib.hid ((Only.of (HB.out _)).trans ho1); have HZ1 := Lib.hid ((Bk.new w _ _).only ho1 (by omega)); clear hp1 ho1)
    | (go_at_call 89; refine (HS.out _ HP1.out).mono ?_; intro e w9 h9; rcases h9.sum with ⟨n, p, hR9, rfl, ho9⟩ | ⟨L, k', q', c', hR9, rfl, ht9, hf9, hp9, ho9⟩; (exact ⟨rfl, by rw [HR.out, hR9]; exact ⟨rfl, HO1.out.trans ho9⟩⟩); have HR9 := Lib.hid (HR.out.trans hR9); have HT9 := Lib.hid ht9; have HF9 := Lib.hid hf9; have HP9 := Lib.hid hp9; have HO9 := Lib.hid ho9; have HZ9 := Lib.hid (HZ1.out.only ho9 (by omega)); obtain ⟨r0, r1, r2, r3, r4, r5⟩ := HZ9.out.six; obtain ⟨z0, z1, z2, z3, z4, z5, z6⟩ := HZ9.out.softs; have r1' := (HZ9.out.set 0 (.int .u8 L.kind)).cell 1 _ rfl; unfold Lp.agg; clear h9 ht9 hf9 hp9 ho9 hR9))
  obtain ⟨q0, q1, q2, q3, q4, q5⟩ := (load6 HZ9.out (.int .u8 L.kind) (.string L.who.v) (.string L.who.s) (.int .i64 L.who.n) (.string L.pred) (.slice q' L.args.length c')).six
  have hlt := HZ1.out.lt
  refine bodyPost_ret (v := Lp.agg ⟨L.kind, L.who, L.pred, q', c', L.args⟩) ?_ rfl ?_
  · simp [results, Tryz.results114, go_sem, q0, q1, q2, q3, q4, q5, Lp.agg]
  · rw [HR9.out]
    exact lit_close (w2 := w1) (w3 := w9) (G := w.heap.size + 1) (L := L) (set6 (Nat.le_refl _) _ _ _ _ _ _) ((Above.refl _ _).set6 (by omega) _ _ _ _ _ _) (by omega) (by omega) hpb HO1.out HT9.out HF9.out HP9.out HO9.out
set_option maxHeartbeats 8000000 in
set_option maxRecDepth 100000 in
theorem lit_num (w : World) (pb : Nat) (s : ByteArray) (q : Option Addr) (c : Nat) (ts : List Tok) (k : Nat) (h : Ps w pb s q c ts k) (hn : textAt s ts k ≠ wdNot) (h3 : kindAt ts k = 3) :
    Calls Tryz.prog 114 #[.pointer (some ⟨pb, 0, none⟩)] w (LitPost w pb s q c ts (litR s ts k)) := by
  have HR := Lib.hid (show litR s ts k = compR s ts k by unfold litR; rw [if_neg hn, if_pos (.inl h3)])
  generalize litR s ts k = R at *
  have HP := Lib.hid h
  have hpb := h.lt
  have HB := Lib.hid (below1 w)
  have HN := Lib.hid (show ∀ wx, Ps wx pb s q c ts k → Calls Tryz.prog 111 #[.pointer (some ⟨pb, 0, none⟩), .string ⟨#[110, 111, 116]⟩] wx fun e w' => e = .returned (.bool false) ∧ Below wx.heap.size wx w' from fun wx hx => took_no wx pb s q c ts k _ hx hn)
  have HSP := Lib.hid (show ∀ wx, Ps wx pb s q c ts k → Calls Tryz.prog 119 #[.pointer (some ⟨pb, 0, none⟩), .int .i64 1] wx fun e w' => e = .returned (.string (textAt s ts (k + 1))) ∧ Below wx.heap.size wx w' from fun wx hx => spelt_any wx pb s q c ts k 1 hx (by omega))
  have HK := Lib.hid (show ∀ wx, Ps wx pb s q c ts k → Calls Tryz.prog 118 #[.pointer (some ⟨pb, 0, none⟩)] wx fun e w' => e = .returned (.int .u8 (kindAt ts k)) ∧ Below wx.heap.size wx w' from fun wx hx => pkind_any wx pb s q c ts k hx)
  have HS := Lib.hid (show ∀ wx, Ps wx pb s q c ts k → Calls Tryz.prog 133 #[.pointer (some ⟨pb, 0, none⟩)] wx (LitPost wx pb s q c ts (compR s ts k)) from fun wx hx => comp_any wx pb s q c ts k hx)
  have g3 : (kindAt ts k == 3) = true := by simp [h3]
  clear h3
  generalize kindAt ts k = kk at *
  generalize textAt s ts (k + 1) = x1 at *
  clear h hn
  go_enter Tryz.func114, Tryz.ntmps114
  go_wp2_with (first
    | (go_at_call 111; refine (HN.out _ (HP.out.on (HB.out _))).mono ?_; rintro e w1 ⟨rfl, hb1⟩; have HP1 := Lib.hid ((HP.out.on (HB.out _)).on hb1); have HO1 := Lib.hid ((Only.of (pb := pb) (HB.out _)).trans (Only.of hb1)); have HZ1 := Lib.hid ((Bk.new w _ _).on hb1); clear hb1)
    | (go_at_call 119; refine (HSP.out _ HP1.out).mono ?_; rintro e w2 ⟨rfl, hb2⟩; have HP2 := Lib.hid (HP1.out.on hb2); have HO2 := Lib.hid (HO1.out.trans (Only.of hb2)); have HZ2 := Lib.hid (HZ1.out.on hb2); clear hb2)
    | (go_at_call 118; refine (HK.out _ HP2.out).mono ?_; rintro e w3 ⟨rfl, hb3⟩; have HP3 := Lib.hid (HP2.out.on hb3); have HO3 := Lib.hid (HO2.out.trans (Only.of hb3)); have HZ3 := Lib.hid (HZ2.out.on hb3); clear hb3)
    | (go_at_call 133; refine (HS.out _ HP3.out).mono ?_; intro e w9 h9; rcases h9.sum with ⟨n, p, hR9, rfl, ho9⟩ | ⟨L, k', q', c', hR9, rfl, ht9, hf9, hp9, ho9⟩; (exact ⟨rfl, by rw [HR.out, hR9]; exact ⟨rfl, HO3.out.trans ho9⟩⟩); have HR9 := Lib.hid (HR.out.trans hR9); have HT9 := Lib.hid ht9; have HF9 := Lib.hid hf9; have HP9 := Lib.hid hp9; have HO9 := Lib.hid ho9; have HZ9 := Lib.hid (HZ3.out.only ho9 (by omega)); obtain ⟨r0, r1, r2, r3, r4, r5⟩ := HZ9.out.six; obtain ⟨z0, z1, z2, z3, z4, z5, z6⟩ := HZ9.out.softs; have r1' := (HZ9.out.set 0 (.int .u8 L.kind)).cell 1 _ rfl; unfold Lp.agg; clear h9 ht9 hf9 hp9 ho9 hR9))
  obtain ⟨q0, q1, q2, q3, q4, q5⟩ := (load6 HZ9.out (.int .u8 L.kind) (.string L.who.v) (.string L.who.s) (.int .i64 L.who.n) (.string L.pred) (.slice q' L.args.length c')).six
  have hlt := HZ3.out.lt
  refine bodyPost_ret (v := Lp.agg ⟨L.kind, L.who, L.pred, q', c', L.args⟩) ?_ rfl ?_
  · simp [results, Tryz.results114, go_sem, q0, q1, q2, q3, q4, q5, Lp.agg]
  · rw [HR9.out]
    exact lit_close (w2 := w3) (w3 := w9) (G := w.heap.size + 1) (L := L) (set6 (Nat.le_refl _) _ _ _ _ _ _) ((Above.refl _ _).set6 (by omega) _ _ _ _ _ _) (by omega) (by omega) hpb HO3.out HT9.out HF9.out HP9.out HO9.out
set_option maxHeartbeats 8000000 in
set_option maxRecDepth 100000 in
theorem lit_less (w : World) (pb : Nat) (s : ByteArray) (q : Option Addr) (c : Nat) (ts : List Tok) (k : Nat) (h : Ps w pb s q c ts k) (hn : textAt s ts k ≠ wdNot) (h3 : kindAt ts k ≠ 3) (hl : textAt s ts (k + 1) = wdLess) :
    Calls Tryz.prog 114 #[.pointer (some ⟨pb, 0, none⟩)] w (LitPost w pb s q c ts (litR s ts k)) := by
  have HR := Lib.hid (show litR s ts k = compR s ts k by unfold litR; rw [if_neg hn, if_pos (.inr (.inl hl))])
  generalize litR s ts k = R at *
  have HP := Lib.hid h
  have hpb := h.lt
  have HB := Lib.hid (below1 w)
  have HN := Lib.hid (show ∀ wx, Ps wx pb s q c ts k → Calls Tryz.prog 111 #[.pointer (some ⟨pb, 0, none⟩), .string ⟨#[110, 111, 116]⟩] wx fun e w' => e = .returned (.bool false) ∧ Below wx.heap.size wx w' from fun wx hx => took_no wx pb s q c ts k _ hx hn)
  have HSP := Lib.hid (show ∀ wx, Ps wx pb s q c ts k → Calls Tryz.prog 119 #[.pointer (some ⟨pb, 0, none⟩), .int .i64 1] wx fun e w' => e = .returned (.string (textAt s ts (k + 1))) ∧ Below wx.heap.size wx w' from fun wx hx => spelt_any wx pb s q c ts k 1 hx (by omega))
  have HK := Lib.hid (show ∀ wx, Ps wx pb s q c ts k → Calls Tryz.prog 118 #[.pointer (some ⟨pb, 0, none⟩)] wx fun e w' => e = .returned (.int .u8 (kindAt ts k)) ∧ Below wx.heap.size wx w' from fun wx hx => pkind_any wx pb s q c ts k hx)
  have HS := Lib.hid (show ∀ wx, Ps wx pb s q c ts k → Calls Tryz.prog 133 #[.pointer (some ⟨pb, 0, none⟩)] wx (LitPost wx pb s q c ts (compR s ts k)) from fun wx hx => comp_any wx pb s q c ts k hx)
  have g3 : (kindAt ts k == 3) = false := by simp [h3]
  have g4 := toList_beq_yes (l := [60]) hl
  clear h3 hl
  generalize kindAt ts k = kk at *
  generalize textAt s ts (k + 1) = x1 at *
  clear h hn
  go_enter Tryz.func114, Tryz.ntmps114
  go_wp2_with (first
    | (go_at_call 111; refine (HN.out _ (HP.out.on (HB.out _))).mono ?_; rintro e w1 ⟨rfl, hb1⟩; have HP1 := Lib.hid ((HP.out.on (HB.out _)).on hb1); have HO1 := Lib.hid ((Only.of (pb := pb) (HB.out _)).trans (Only.of hb1)); have HZ1 := Lib.hid ((Bk.new w _ _).on hb1); clear hb1)
    | (go_at_call 119; refine (HSP.out _ HP1.out).mono ?_; rintro e w2 ⟨rfl, hb2⟩; have HP2 := Lib.hid (HP1.out.on hb2); have HO2 := Lib.hid (HO1.out.trans (Only.of hb2)); have HZ2 := Lib.hid (HZ1.out.on hb2); clear hb2)
    | (go_at_call 118; refine (HK.out _ HP2.out).mono ?_; rintro e w3 ⟨rfl, hb3⟩; have HP3 := Lib.hid (HP2.out.on hb3); have HO3 := Lib.hid (HO2.out.trans (Only.of hb3)); have HZ3 := Lib.hid (HZ2.out.on hb3); clear hb3)
    | (go_at_call 133; refine (HS.out _ HP3.out).mono ?_; intro e w9 h9; rcases h9.sum with ⟨n, p, hR9, rfl, ho9⟩ | ⟨L, k', q', c', hR9, rfl, ht9, hf9, hp9, ho9⟩; (exact ⟨rfl, by rw [HR.out, hR9]; exact ⟨rfl, HO3.out.trans ho9⟩⟩); have HR9 := Lib.hid (HR.out.trans hR9); have HT9 := Lib.hid ht9; have HF9 := Lib.hid hf9; have HP9 := Lib.hid hp9; have HO9 := Lib.hid ho9; have HZ9 := Lib.hid (HZ3.out.only ho9 (by omega)); obtain ⟨r0, r1, r2, r3, r4, r5⟩ := HZ9.out.six; obtain ⟨z0, z1, z2, z3, z4, z5, z6⟩ := HZ9.out.softs; have r1' := (HZ9.out.set 0 (.int .u8 L.kind)).cell 1 _ rfl; unfold Lp.agg; clear h9 ht9 hf9 hp9 ho9 hR9))
  obtain ⟨q0, q1, q2, q3, q4, q5⟩ := (load6 HZ9.out (.int .u8 L.kind) (.string L.who.v) (.string L.who.s) (.int .i64 L.who.n) (.string L.pred) (.slice q' L.args.length c')).six
  have hlt := HZ3.out.lt
  refine bodyPost_ret (v := Lp.agg ⟨L.kind, L.who, L.pred, q', c', L.args⟩) ?_ rfl ?_
  · simp [results, Tryz.results114, go_sem, q0, q1, q2, q3, q4, q5, Lp.agg]
  · rw [HR9.out]
    exact lit_close (w2 := w3) (w3 := w9) (G := w.heap.size + 1) (L := L) (set6 (Nat.le_refl _) _ _ _ _ _ _) ((Above.refl _ _).set6 (by omega) _ _ _ _ _ _) (by omega) (by omega) hpb HO3.out HT9.out HF9.out HP9.out HO9.out
set_option maxHeartbeats 8000000 in
set_option maxRecDepth 100000 in
theorem lit_unlike (w : World) (pb : Nat) (s : ByteArray) (q : Option Addr) (c : Nat) (ts : List Tok) (k : Nat) (h : Ps w pb s q c ts k) (hn : textAt s ts k ≠ wdNot) (h3 : kindAt ts k ≠ 3) (hl : textAt s ts (k + 1) ≠ wdLess) (hu : textAt s ts (k + 1) = wdUnlike) :
    Calls Tryz.prog 114 #[.pointer (some ⟨pb, 0, none⟩)] w (LitPost w pb s q c ts (litR s ts k)) := by
  have HR := Lib.hid (show litR s ts k = compR s ts k by unfold litR; rw [if_neg hn, if_pos (.inr (.inr hu))])
  generalize litR s ts k = R at *
  have HP := Lib.hid h
  have hpb := h.lt
  have HB := Lib.hid (below1 w)
  have HN := Lib.hid (show ∀ wx, Ps wx pb s q c ts k → Calls Tryz.prog 111 #[.pointer (some ⟨pb, 0, none⟩), .string ⟨#[110, 111, 116]⟩] wx fun e w' => e = .returned (.bool false) ∧ Below wx.heap.size wx w' from fun wx hx => took_no wx pb s q c ts k _ hx hn)
  have HSP := Lib.hid (show ∀ wx, Ps wx pb s q c ts k → Calls Tryz.prog 119 #[.pointer (some ⟨pb, 0, none⟩), .int .i64 1] wx fun e w' => e = .returned (.string (textAt s ts (k + 1))) ∧ Below wx.heap.size wx w' from fun wx hx => spelt_any wx pb s q c ts k 1 hx (by omega))
  have HK := Lib.hid (show ∀ wx, Ps wx pb s q c ts k → Calls Tryz.prog 118 #[.pointer (some ⟨pb, 0, none⟩)] wx fun e w' => e = .returned (.int .u8 (kindAt ts k)) ∧ Below wx.heap.size wx w' from fun wx hx => pkind_any wx pb s q c ts k hx)
  have HS := Lib.hid (show ∀ wx, Ps wx pb s q c ts k → Calls Tryz.prog 133 #[.pointer (some ⟨pb, 0, none⟩)] wx (LitPost wx pb s q c ts (compR s ts k)) from fun wx hx => comp_any wx pb s q c ts k hx)
  have g3 : (kindAt ts k == 3) = false := by simp [h3]
  have g4 := toList_beq (l := [60]) hl
  have g5 := toList_beq_yes (l := [33, 61]) hu
  clear h3 hl hu
  generalize kindAt ts k = kk at *
  generalize textAt s ts (k + 1) = x1 at *
  clear h hn
  go_enter Tryz.func114, Tryz.ntmps114
  go_wp2_with (first
    | (go_at_call 111; refine (HN.out _ (HP.out.on (HB.out _))).mono ?_; rintro e w1 ⟨rfl, hb1⟩; have HP1 := Lib.hid ((HP.out.on (HB.out _)).on hb1); have HO1 := Lib.hid ((Only.of (pb := pb) (HB.out _)).trans (Only.of hb1)); have HZ1 := Lib.hid ((Bk.new w _ _).on hb1); clear hb1)
    | (go_at_call 119; refine (HSP.out _ HP1.out).mono ?_; rintro e w2 ⟨rfl, hb2⟩; have HP2 := Lib.hid (HP1.out.on hb2); have HO2 := Lib.hid (HO1.out.trans (Only.of hb2)); have HZ2 := Lib.hid (HZ1.out.on hb2); clear hb2)
    | (go_at_call 118; refine (HK.out _ HP2.out).mono ?_; rintro e w3 ⟨rfl, hb3⟩; have HP3 := Lib.hid (HP2.out.on hb3); have HO3 := Lib.hid (HO2.out.trans (Only.of hb3)); have HZ3 := Lib.hid (HZ2.out.on hb3); clear hb3)
    | (go_at_call 133; refine (HS.out _ HP3.out).mono ?_; intro e w9 h9; rcases h9.sum with ⟨n, p, hR9, rfl, ho9⟩ | ⟨L, k', q', c', hR9, rfl, ht9, hf9, hp9, ho9⟩; (exact ⟨rfl, by rw [HR.out, hR9]; exact ⟨rfl, HO3.out.trans ho9⟩⟩); have HR9 := Lib.hid (HR.out.trans hR9); have HT9 := Lib.hid ht9; have HF9 := Lib.hid hf9; have HP9 := Lib.hid hp9; have HO9 := Lib.hid ho9; have HZ9 := Lib.hid (HZ3.out.only ho9 (by omega)); obtain ⟨r0, r1, r2, r3, r4, r5⟩ := HZ9.out.six; obtain ⟨z0, z1, z2, z3, z4, z5, z6⟩ := HZ9.out.softs; have r1' := (HZ9.out.set 0 (.int .u8 L.kind)).cell 1 _ rfl; unfold Lp.agg; clear h9 ht9 hf9 hp9 ho9 hR9))
  obtain ⟨q0, q1, q2, q3, q4, q5⟩ := (load6 HZ9.out (.int .u8 L.kind) (.string L.who.v) (.string L.who.s) (.int .i64 L.who.n) (.string L.pred) (.slice q' L.args.length c')).six
  have hlt := HZ3.out.lt
  refine bodyPost_ret (v := Lp.agg ⟨L.kind, L.who, L.pred, q', c', L.args⟩) ?_ rfl ?_
  · simp [results, Tryz.results114, go_sem, q0, q1, q2, q3, q4, q5, Lp.agg]
  · rw [HR9.out]
    exact lit_close (w2 := w3) (w3 := w9) (G := w.heap.size + 1) (L := L) (set6 (Nat.le_refl _) _ _ _ _ _ _) ((Above.refl _ _).set6 (by omega) _ _ _ _ _ _) (by omega) (by omega) hpb HO3.out HT9.out HF9.out HP9.out HO9.out
set_option maxHeartbeats 8000000 in
set_option maxRecDepth 100000 in
theorem lit_said (w : World) (pb : Nat) (s : ByteArray) (q : Option Addr) (c : Nat) (ts : List Tok) (k : Nat) (h : Ps w pb s q c ts k) (hn : textAt s ts k ≠ wdNot) (h3 : kindAt ts k ≠ 3) (hl : textAt s ts (k + 1) ≠ wdLess) (hu : textAt s ts (k + 1) ≠ wdUnlike) :
    Calls Tryz.prog 114 #[.pointer (some ⟨pb, 0, none⟩)] w (LitPost w pb s q c ts (litR s ts k)) := by
  have HR := Lib.hid (show litR s ts k = saidR s ts 1 k by unfold litR; rw [if_neg hn, if_neg (by simp [h3, hl, hu])])
  generalize litR s ts k = R at *
  have HP := Lib.hid h
  have hpb := h.lt
  have HB := Lib.hid (below1 w)
  have HN := Lib.hid (show ∀ wx, Ps wx pb s q c ts k → Calls Tryz.prog 111 #[.pointer (some ⟨pb, 0, none⟩), .string ⟨#[110, 111, 116]⟩] wx fun e w' => e = .returned (.bool false) ∧ Below wx.heap.size wx w' from fun wx hx => took_no wx pb s q c ts k _ hx hn)
  have HSP := Lib.hid (show ∀ wx, Ps wx pb s q c ts k → Calls Tryz.prog 119 #[.pointer (some ⟨pb, 0, none⟩), .int .i64 1] wx fun e w' => e = .returned (.string (textAt s ts (k + 1))) ∧ Below wx.heap.size wx w' from fun wx hx => spelt_any wx pb s q c ts k 1 hx (by omega))
  have HK := Lib.hid (show ∀ wx, Ps wx pb s q c ts k → Calls Tryz.prog 118 #[.pointer (some ⟨pb, 0, none⟩)] wx fun e w' => e = .returned (.int .u8 (kindAt ts k)) ∧ Below wx.heap.size wx w' from fun wx hx => pkind_any wx pb s q c ts k hx)
  have HS := Lib.hid (show ∀ wx, Ps wx pb s q c ts k → Calls Tryz.prog 89 #[.pointer (some ⟨pb, 0, none⟩), .int .u8 1] wx (LitPost wx pb s q c ts (saidR s ts 1 k)) from fun wx hx => psaid_any wx pb s q c ts k 1 hx)
  have g3 : (kindAt ts k == 3) = false := by simp [h3]
  have g4 := toList_beq (l := [60]) hl
  have g5 := toList_beq (l := [33, 61]) hu
  clear h3 hl hu
  generalize kindAt ts k = kk at *
  generalize textAt s ts (k + 1) = x1 at *
  clear h hn
  go_enter Tryz.func114, Tryz.ntmps114
  go_wp2_with (first
    | (go_at_call 111; refine (HN.out _ (HP.out.on (HB.out _))).mono ?_; rintro e w1 ⟨rfl, hb1⟩; have HP1 := Lib.hid ((HP.out.on (HB.out _)).on hb1); have HO1 := Lib.hid ((Only.of (pb := pb) (HB.out _)).trans (Only.of hb1)); have HZ1 := Lib.hid ((Bk.new w _ _).on hb1); clear hb1)
    | (go_at_call 119; refine (HSP.out _ HP1.out).mono ?_; rintro e w2 ⟨rfl, hb2⟩; have HP2 := Lib.hid (HP1.out.on hb2); have HO2 := Lib.hid (HO1.out.trans (Only.of hb2)); have HZ2 := Lib.hid (HZ1.out.on hb2); clear hb2)
    | (go_at_call 118; refine (HK.out _ HP2.out).mono ?_; rintro e w3 ⟨rfl, hb3⟩; have HP3 := Lib.hid (HP2.out.on hb3); have HO3 := Lib.hid (HO2.out.trans (Only.of hb3)); have HZ3 := Lib.hid (HZ2.out.on hb3); clear hb3)
    | (go_at_call 89; refine (HS.out _ HP3.out).mono ?_; intro e w9 h9; rcases h9.sum with ⟨n, p, hR9, rfl, ho9⟩ | ⟨L, k', q', c', hR9, rfl, ht9, hf9, hp9, ho9⟩; (exact ⟨rfl, by rw [HR.out, hR9]; exact ⟨rfl, HO3.out.trans ho9⟩⟩); have HR9 := Lib.hid (HR.out.trans hR9); have HT9 := Lib.hid ht9; have HF9 := Lib.hid hf9; have HP9 := Lib.hid hp9; have HO9 := Lib.hid ho9; have HZ9 := Lib.hid (HZ3.out.only ho9 (by omega)); obtain ⟨r0, r1, r2, r3, r4, r5⟩ := HZ9.out.six; obtain ⟨z0, z1, z2, z3, z4, z5, z6⟩ := HZ9.out.softs; have r1' := (HZ9.out.set 0 (.int .u8 L.kind)).cell 1 _ rfl; unfold Lp.agg; clear h9 ht9 hf9 hp9 ho9 hR9))
  obtain ⟨q0, q1, q2, q3, q4, q5⟩ := (load6 HZ9.out (.int .u8 L.kind) (.string L.who.v) (.string L.who.s) (.int .i64 L.who.n) (.string L.pred) (.slice q' L.args.length c')).six
  have hlt := HZ3.out.lt
  refine bodyPost_ret (v := Lp.agg ⟨L.kind, L.who, L.pred, q', c', L.args⟩) ?_ rfl ?_
  · simp [results, Tryz.results114, go_sem, q0, q1, q2, q3, q4, q5, Lp.agg]
  · rw [HR9.out]
    exact lit_close (w2 := w3) (w3 := w9) (G := w.heap.size + 1) (L := L) (set6 (Nat.le_refl _) _ _ _ _ _ _) ((Above.refl _ _).set6 (by omega) _ _ _ _ _ _) (by omega) (by omega) hpb HO3.out HT9.out HF9.out HP9.out HO9.out
theorem lit_any (w : World) (pb : Nat) (s : ByteArray) (q : Option Addr) (c : Nat) (ts : List Tok) (k : Nat) (h : Ps w pb s q c ts k) :
    Calls Tryz.prog 114 #[.pointer (some ⟨pb, 0, none⟩)] w (LitPost w pb s q c ts (litR s ts k)) := by
  by_cases hn : textAt s ts k = wdNot
  · exact lit_not w pb s q c ts k h hn
  · by_cases h3 : kindAt ts k = 3
    · exact lit_num w pb s q c ts k h hn h3
    · by_cases hl : textAt s ts (k + 1) = wdLess
      · exact lit_less w pb s q c ts k h hn h3 hl
      · by_cases hu : textAt s ts (k + 1) = wdUnlike
        · exact lit_unlike w pb s q c ts k h hn h3 hl hu
        · exact lit_said w pb s q c ts k h hn h3 hl hu
end Go.Proofs.YtfmkfabbiifolaaGreatDoor

/-
  Contract: what parser.clause hands to parser.list: one literal more is appended to the clause's body.
-/
namespace Go.Proofs.YtfmkfabbiifolaaGreatDoor
open Go.RowKit

def Lp.q (l : Lp) : Lq := ⟨l.kind, l.who, l.pred, l.args⟩
def Lq.at (l : Lq) (q : Option Addr) (c : Nat) : Lp := ⟨l.kind, l.who, l.pred, q, c, l.args⟩
theorem underLs : Tryz.prog.underlying 29 = some (.slice 28) := Tryz.underlying29
/-- A literal's terms lie at B or behind, in no block that is g. -/
def Far (w : World) (B : Nat) (g : Option Nat) (l : Lp) : Prop :=
  l.args = [] ∨ ∃ b off, l.ptr = some ⟨b, off, none⟩ ∧ B ≤ b ∧ b < w.heap.size ∧ g ≠ some b ∧ ∀ i (h : i < l.args.length) r u, (encM l.args[i])[r]? = some u → w.cell? ⟨b, off + i * 3 + r, none⟩ = some u
theorem Far.rd {w : World} {B : Nat} {g : Option Nat} {l : Lp} (h : Far w B g l) : Tms w w.heap.size l.ptr l.args := by
  rcases h with h | ⟨b, off, h1, _, h3, _, h5⟩
  · exact .inl h
  · exact .inr ⟨b, off, h1, h3, h5⟩
theorem Far.keep {w w' : World} {B : Nat} {g g' : Option Nat} {l : Lp} (h : Far w B g l) (hs : w.heap.size ≤ w'.heap.size) (hk : ∀ b, B ≤ b → b < w.heap.size → g ≠ some b → w'.heap[b]? = w.heap[b]? ∧ g' ≠ some b) : Far w' B g' l := by
  rcases h with h | ⟨b, off, h1, h2, h3, h4, h5⟩
  · exact .inl h
  · obtain ⟨k1, k2⟩ := hk b h2 h3 h4
    refine .inr ⟨b, off, h1, h2, Nat.lt_of_lt_of_le h3 hs, k2, fun i hi r u hu => ?_⟩
    exact (show w'.cell? ⟨b, off + i * 3 + r, none⟩ = w.cell? ⟨b, off + i * 3 + r, none⟩ from World.cell?_of_block (w := w) k1).trans (h5 i hi r u hu)
theorem Far.of {w : World} {B : Nat} {g : Option Nat} {l : Lp} (h : Tms w w.heap.size l.ptr l.args) (hf : ∀ b, l.ptr = some b → B ≤ b.block ∧ g ≠ some b.block) : Far w B g l := by
  rcases h with h | ⟨b, off, h1, h2, h3⟩
  · exact .inl h
  · obtain ⟨k1, k2⟩ := hf _ h1
    exact .inr ⟨b, off, h1, k1, h2, k2, h3⟩

/-- The literals that were read lie in a row of the call's own, which the clause's block holds; a box holds where the parser is. -/
structure LI (w0 w1 : World) (B pb cb pp : Nat) (a0 a1 a2 a3 a4 a5 : Value) (s : ByteArray) (q : Option Addr) (c : Nat) (ts : List Tok) (k : Nat) (acc : List Lp) (w : World) : Prop where
  only : Only pb w0 w
  old : ∀ g, g < B → g ≠ pb → g ≠ cb → w.heap[g]? = w1.heap[g]?
  ps : Ps w pb s q c ts k
  own : ∃ v, Bk w cb 31 #[a0, a1, a2, a3, a4, a5, v] ∧ w.ownsRow B 28 6 v acc.length (flatE encL acc) ∧ ∀ l ∈ acc, Far w B v.ownBlock l
  ptr : Boxed w pp 128 (.pointer (some ⟨pb, 0, none⟩))
  hpb : pb < B
  hcb : cb < B
  hpp : pp < B
  n1 : cb ≠ pp
  n2 : cb ≠ pb
  n3 : pp ≠ pb
  hp0 : pb < w0.heap.size
  lo : w0.heap.size ≤ cb
  hi : B ≤ w.heap.size
section
variable {w0 w1 : World} {B pb cb pp : Nat} {a0 a1 a2 a3 a4 a5 : Value} {s : ByteArray} {q : Option Addr} {c : Nat} {ts : List Tok} {k : Nat} {acc : List Lp} {w : World}
theorem LI.on {w' : World} (h : LI w0 w1 B pb cb pp a0 a1 a2 a3 a4 a5 s q c ts k acc w) (hb : Below w.heap.size w w') : LI w0 w1 B pb cb pp a0 a1 a2 a3 a4 a5 s q c ts k acc w' := by
  obtain ⟨v, h1, h2, h3⟩ := h.own
  have hi := h.hi
  exact ⟨h.only.trans (Only.of hb), fun g hg x y => (hb.block g (by omega)).trans (h.old g hg x y), h.ps.on hb, ⟨v, h1.on hb, own_below h2 hb, fun l hl => (h3 l hl).keep hb.size fun b _ hlt hne => ⟨hb.block b hlt, hne⟩⟩, Boxed.below h.ptr hb h.ptr.lt, h.hpb, h.hcb, h.hpp, h.n1, h.n2, h.n3, h.hp0, h.lo, Nat.le_trans h.hi hb.size⟩
theorem LI.step {w' : World} {k' : Nat} (h : LI w0 w1 B pb cb pp a0 a1 a2 a3 a4 a5 s q c ts k acc w) (ho : Only pb w w') (hp : Ps w' pb s q c ts k') : LI w0 w1 B pb cb pp a0 a1 a2 a3 a4 a5 s q c ts k' acc w' := by
  obtain ⟨v, h1, h2, h3⟩ := h.own
  have hi := h.hi
  have hpb := h.hpb
  refine ⟨h.only.trans ho, fun g hg x y => (ho.block g (by omega) x).trans (h.old g hg x y), hp, ⟨v, h1.only ho h.n2, ?_, fun l hl => (h3 l hl).keep ho.size fun b hB hlt hne => ⟨ho.block b hlt (by omega), hne⟩⟩, Boxed.only h.ptr ho h.n3, h.hpb, h.hcb, h.hpp, h.n1, h.n2, h.n3, h.hp0, h.lo, Nat.le_trans h.hi ho.size⟩
  refine h2.kept (row := some pb) ⟨ho.os, ho.tape, ho.output, ho.size, fun i hi hn => ho.block i hi (fun e => hn (by rw [e]))⟩ ?_
  cases hv : v.ownBlock with
  | none => simp
  | some g =>
    have := (h2.lt g hv).1
    simp; omega
end
theorem LI.push {w0 w1 : World} {B pb cb pp : Nat} {a0 a1 a2 a3 a4 a5 : Value} {s : ByteArray} {q : Option Addr} {c : Nat} {ts : List Tok} {k : Nat} {acc : List Lp} {wn w6 w7 : World} {l : Lp} {g cap : Nat} {v : Value}
    (h : LI w0 w1 B pb cb pp a0 a1 a2 a3 a4 a5 s q c ts k acc w6) (hv : Bk w6 cb 31 #[a0, a1, a2, a3, a4, a5, v]) (hf : ∀ x ∈ acc, Far w6 B v.ownBlock x) (hr : w6.ownsRow B 28 6 v acc.length (flatE encL acc)) (hl : Far w6 B v.ownBlock l)
    (ho : w7.ownsRow B 28 6 (.slice (some ⟨g, 0, none⟩) (acc.length + 1) cap) (acc.length + 1) (flatE encL acc ++ encL l)) (hg : w6.grownBy w7 v.ownBlock) (hat : v.ownBlock = some g ∨ g = w6.heap.size) :
    LI w0 w1 B pb cb pp a0 a1 a2 a3 a4 a5 s q c ts k (acc ++ [l]) (w7.setCell ⟨cb, 6, none⟩ (.slice (some ⟨g, 0, none⟩) (acc.length + 1) cap)) ∧ w7.cell? ⟨cb, 6, none⟩ = some v ∧ w7.frozen? ⟨cb, 6, none⟩ = false := by
  have h1 := h.hcb
  have h2 := h.lo
  have h3 := h.hp0
  have h4 := h.hpb
  have h5 := h.hpp
  have h6 := h.hi
  have hb : Below B w6 w7 := (Below.refl B w6).grown hg h6 (fun k hk => (hr.lt k hk).1)
  have hb7 : Bk w7 cb 31 #[a0, a1, a2, a3, a4, a5, v] := hv.below hb h1
  have hs : Below (pb + 1) w7 (w7.setCell ⟨cb, 6, none⟩ (.slice (some ⟨g, 0, none⟩) (acc.length + 1) cap)) := setB (by omega) 6 _
  have hs0 : Below w0.heap.size w7 (w7.setCell ⟨cb, 6, none⟩ (.slice (some ⟨g, 0, none⟩) (acc.length + 1) cap)) := setB h2 6 _
  have hkeep : ∀ b, B ≤ b → b < w6.heap.size → v.ownBlock ≠ some b → (w7.setCell ⟨cb, 6, none⟩ (.slice (some ⟨g, 0, none⟩) (acc.length + 1) cap)).heap[b]? = w6.heap[b]? ∧ (Value.slice (some ⟨g, 0, none⟩) (acc.length + 1) cap).ownBlock ≠ some b := by
    intro b hB hlt hne
    refine ⟨(Below.heap_setCell w7 ⟨cb, 6, none⟩ _ b (by show b ≠ cb; omega)).trans (hg.block b hlt (fun e => hne e.symm)), ?_⟩
    show some g ≠ some b
    rcases hat with e | e
    · rw [← e]; exact hne
    · intro e'; injection e' with e'; omega
  refine ⟨⟨(h.only.add (hb.mono (by omega))).add hs0, fun i hi x y => (Below.heap_setCell w7 ⟨cb, 6, none⟩ _ i (by show i ≠ cb; exact y)).trans ((hb.block i hi).trans (h.old i hi x y)), (h.ps.on' (hb.mono (by omega))).on' hs, ⟨_, hb7.set 6 _, ?_, ?_⟩, ?_, h.hpb, h.hcb, h.hpp, h.n1, h.n2, h.n3, h.hp0, h.lo, Nat.le_trans h.hi (Nat.le_trans hb.size hs.size)⟩, hb7.cell 6 _ rfl, hb7.soft 6⟩
  · rw [List.length_append, flatE_snoc]
    exact ownsRow_setCell_below ho (a := ⟨cb, 6, none⟩) h1 _
  · intro x hx
    have hsz : w6.heap.size ≤ (w7.setCell ⟨cb, 6, none⟩ (.slice (some ⟨g, 0, none⟩) (acc.length + 1) cap)).heap.size := Nat.le_trans hb.size hs.size
    rcases List.mem_append.1 hx with hx | hx
    · exact (hf x hx).keep hsz hkeep
    · rw [List.mem_singleton.1 hx]; exact hl.keep hsz hkeep
  · exact (Below.heap_setCell w7 ⟨cb, 6, none⟩ _ pp (Ne.symm h.n1)).trans (Boxed.below h.ptr hb h.hpp)

set_option maxHeartbeats 8000000 in
set_option maxRecDepth 100000 in
theorem oneLit_any (w0 w1 w : World) (B pb cb pp : Nat) (a0 a1 a2 a3 a4 a5 : Value) (s : ByteArray) (q : Option Addr) (c : Nat) (ts : List Tok) (k : Nat) (acc : List Lp) (h : LI w0 w1 B pb cb pp a0 a1 a2 a3 a4 a5 s q c ts k acc w) (hl : acc.length ≤ 4096) :
    Calls Tryz.prog 113 #[.pointer (some ⟨cb, 0, none⟩), .pointer (some ⟨pp, 0, none⟩)] w fun e w' =>
      (∃ n p, litR s ts k = .error (n, p) ∧ e = .panicked (faultV n p) ∧ Only pb w0 w') ∨ (∃ l k' q' c', litR s ts k = .ok (l, k') ∧ e = .returned (.tuple #[]) ∧ LI w0 w1 B pb cb pp a0 a1 a2 a3 a4 a5 s q c ts k' (acc ++ [l.at q' c']) w') := by
  have HI := Lib.hid h
  obtain ⟨v, hv, hown, hfar⟩ := h.own
  have x0 := hv.cell 6 _ rfl
  have x1 := Boxed.cell h.ptr
  have HT := Lib.hid (show ∀ X, Below w.heap.size w X → Calls Tryz.prog 114 #[.pointer (some ⟨pb, 0, none⟩)] X fun e w' =>
      (∃ n p, litR s ts k = .error (n, p) ∧ e = .panicked (faultV n p) ∧ Only pb w0 w') ∨
      (∃ l k' q' c', Hid (litR s ts k = .ok (l, k')) ∧ e = .returned (.agg #[.int .u8 l.kind, .string l.who.v, .string l.who.s, .int .i64 l.who.n, .string l.pred, .slice q' l.args.length c']) ∧ Hid (Far w' B v.ownBlock (l.at q' c')) ∧ Hid (Bk w' cb 31 #[a0, a1, a2, a3, a4, a5, v]) ∧ Hid (w'.ownsRow B 28 6 v acc.length (flatE encL acc)) ∧ Hid (∀ x ∈ acc, Far w' B v.ownBlock x) ∧ Hid (LI w0 w1 B pb cb pp a0 a1 a2 a3 a4 a5 s q c ts k' acc w')) from
    fun X hX => by
      refine (lit_any X pb s q c ts k (HI.out.ps.on hX)).mono fun e w' he => ?_
      rcases he.sum with ⟨n, p, hr, he, ho⟩ | ⟨l, k', q', c', hr, he, ht, hf, hp, ho⟩
      · exact .inl ⟨n, p, hr, he, (HI.out.on hX).only.trans ho⟩
      · have hi' := (HI.out.on hX).step ho hp
        have hb2 := (hv.on hX).only ho HI.out.n2
        obtain ⟨v2, hv2, hown2, hfar2⟩ := hi'.own
        have e2 : v2 = v := by
          have e := hv2.cell 6 _ rfl
          rw [hb2.cell 6 _ rfl] at e
          injection e with e; exact e.symm
        subst e2
        refine .inr ⟨l, k', q', c', Lib.hid hr, he, Lib.hid (Far.of ht fun b hb => ⟨?_, ?_⟩), Lib.hid hb2, Lib.hid hown2, Lib.hid hfar2, Lib.hid hi'⟩
        · have := hf b hb
          have := hX.size
          have := HI.out.hi
          show B ≤ b.block
          omega
        · intro e
          have h8 := (hown.lt b.block e).2
          have := hf b hb
          have := hX.size
          omega)
  have HB0 := Lib.hid (Below.refl w.heap.size w)
  have HB1 := Lib.hid (Below.drew (Below.refl w.heap.size w))
  obtain ⟨i0, hi, hz0, hz1, hzb⟩ := info_parts infoLit
  have HL1 := Lib.hid (show acc.length + 1 ≤ maxLen by unfold maxLen; omega)
  have HL2 := Lib.hid (show (acc.length + 1) * 88 ≤ 140737488355328 by omega)
  clear h hv hown hfar
  go_enter Tryz.func113, Tryz.ntmps113
  go_region_law (first
    | (refine step_append_lies _ rfl (.tmp 3) (.tmp 6) 29 rfl B 28 i0 _ 6 88 underLs hi hz0 hz1 hzb rfl (by omega) v acc.length (flatE encL acc) (by rfl) (own_below hox.out (below1 _ _)) ⟨wn.heap.size, 0, none⟩ 1 1 (encL (l.at q' c')) (by rfl) (by rfl) (news_alloc _ _ _) (EL.one _) (by omega) HL1.out HL2.out (Nat.le_trans hai.out.hi (below1 _ _).size) _ rfl ?_; intro g cap w7 ho hgr hat hlt7; have HLP := Lib.hid (LI.push (wn := wn) (hai.out.on (below1 _ _)) (hbx.out.on (below1 _ _)) (fun x hx => (hfx.out x hx).keep (below1 wn _).size fun b _ hlt hne => ⟨(below1 wn _).block b hlt, hne⟩) (own_below hox.out (below1 _ _)) (hll.out.keep (below1 wn _).size fun b _ hlt hne => ⟨(below1 wn _).block b hlt, hne⟩) ho hgr hat); have c7 := HLP.out.2.1; have f7 := HLP.out.2.2)
    | (go_simp; go_at_call 114; refine (HT.out _ (by first | exact HB1.out | exact HB0.out)).mono ?_; rintro e wn (⟨n, p, hr, rfl, ho⟩ | ⟨l, k', q', c', hr, rfl, hll, hbx, hox, hfx, hai⟩); (exact ⟨rfl, .inl ⟨n, p, hr, rfl, ho⟩⟩); have y0 := hbx.out.cell 6 _ rfl; have y1 : ∀ o, (wn.alloc o).cell? ⟨cb, 6, none⟩ = some v := fun o => (hbx.out.on (below1 wn o)).cell 6 _ rfl))
  all_goals
    go_end0
    exact .inr ⟨l, k', q', c', hr.out, rfl, HLP.out.1⟩
end Go.Proofs.YtfmkfabbiifolaaGreatDoor
