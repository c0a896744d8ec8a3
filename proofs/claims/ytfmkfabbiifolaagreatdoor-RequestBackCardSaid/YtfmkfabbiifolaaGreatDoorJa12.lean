/-
  Joined of: PrsJ.
-/
import Derived.Test.YtfmkfabbiifolaaGreatDoorJa11
set_option linter.unusedVariables false
set_option linter.unusedSimpArgs false
/-
  Contract: parser.comparison.
-/
namespace Go.Proofs.YtfmkfabbiifolaaGreatDoor
open Go.RowKit

theorem LitPost.ok {w w' : World} {pb : Nat} {s : ByteArray} {q : Option Addr} {c : Nat} {ts : List Tok} {l : Lq} {k : Nat} {e : Ending} (h : LitPost w pb s q c ts (.ok (l, k)) e w') :
    ∃ q' c', e = .returned (Lp.agg ⟨l.kind, l.who, l.pred, q', c', l.args⟩) ∧ Tms w' w'.heap.size q' l.args ∧ (∀ b, q' = some b → w.heap.size ≤ b.block) ∧ Ps w' pb s q c ts k ∧ Only pb w w' := h
theorem LitPost.sum {w w' : World} {pb : Nat} {s : ByteArray} {q : Option Addr} {c : Nat} {ts : List Tok} {R : Except (Int × Int) (Lq × Nat)} {e : Ending} (h : LitPost w pb s q c ts R e w') :
    (∃ n p, R = .error (n, p) ∧ e = .panicked (faultV n p) ∧ Only pb w w') ∨
    (∃ l k q' c', R = .ok (l, k) ∧ e = .returned (Lp.agg ⟨l.kind, l.who, l.pred, q', c', l.args⟩) ∧ Tms w' w'.heap.size q' l.args ∧ (∀ b, q' = some b → w.heap.size ≤ b.block) ∧ Ps w' pb s q c ts k ∧ Only pb w w') := by
  match R, h with
  | .error (n, p), h => exact .inl ⟨n, p, rfl, h⟩
  | .ok (l, k), ⟨q', c', h⟩ => exact .inr ⟨l, k, q', c', rfl, h⟩
theorem term_sum (w : World) (pb : Nat) (s : ByteArray) (q : Option Addr) (c : Nat) (ts : List Tok) (k : Nat) (h : Ps w pb s q c ts k) :
    Calls Tryz.prog 120 #[.pointer (some ⟨pb, 0, none⟩)] w fun e w' =>
      (e = .panicked (faultV 6 (placeAt s ts k)) ∧ isT ts k = false ∧ Only pb w w') ∨
      (e = .returned (.agg #[.string (termR s ts k).v, .string (termR s ts k).s, .int .i64 (termR s ts k).n]) ∧ isT ts k = true ∧ Ps w' pb s q c ts (k + 1) ∧ Only pb w w') := by
  cases hk : isT ts k with
  | false => exact (term_not w pb s q c ts k h hk).mono fun e w' ⟨he, ho⟩ => .inl ⟨he, rfl, ho⟩
  | true => exact (term_yes w pb s q c ts k h hk).mono fun e w' ⟨he, hp, ho⟩ => .inr ⟨he, rfl, hp, ho⟩
theorem took_any (w : World) (pb : Nat) (s : ByteArray) (q : Option Addr) (c : Nat) (ts : List Tok) (k : Nat) (x : ByteArray) (h : Ps w pb s q c ts k) (hx : x ≠ ⟨#[]⟩) :
    Calls Tryz.prog 111 #[.pointer (some ⟨pb, 0, none⟩), .string x] w fun e w' =>
      (e = .returned (.bool false) ∧ textAt s ts k ≠ x ∧ Ps w' pb s q c ts k ∧ Only pb w w') ∨ (e = .returned (.bool true) ∧ textAt s ts k = x ∧ Ps w' pb s q c ts (k + 1) ∧ Only pb w w') := by
  by_cases ht : textAt s ts k = x
  · exact (took_yes w pb s q c ts k x h ht (text_lt ht hx)).mono fun e w' ⟨he, hp, ho⟩ => .inr ⟨he, ht, hp, ho⟩
  · exact (took_no w pb s q c ts k x h ht).mono fun e w' ⟨he, hb⟩ => .inl ⟨he, ht, h.on hb, Only.of hb⟩
/-- two terms in a block of their own -/
theorem two_rd {w : World} {b : Nat} {T : TypeId} {t u : Tm} (h : Bk w b T #[.string t.v, .string t.s, .int .i64 t.n, .string u.v, .string u.s, .int .i64 u.n]) : Tms w w.heap.size (some ⟨b, 0, none⟩) [t, u] := by
  obtain ⟨x0, x1, x2, x3, x4, x5⟩ := h.six
  refine .inr ⟨b, 0, rfl, h.lt, fun i hi r v hv => ?_⟩
  have hr : r < 3 := by
    rw [← EM.len ([t, u][i])]; exact (List.getElem?_eq_some_iff.1 hv).1
  match i, hi, hv with
  | 0, _, hv =>
    match r, hr, hv with
    | 0, _, hv => cases hv; exact x0
    | 1, _, hv => cases hv; exact x1
    | 2, _, hv => cases hv; exact x2
  | 1, _, hv =>
    match r, hr, hv with
    | 0, _, hv => cases hv; exact x3
    | 1, _, hv => cases hv; exact x4
    | 2, _, hv => cases hv; exact x5

/-- a literal's two blocks, and a block for its first term -/
structure Cmp3 (w0 w : World) (pb zb lb fb : Nat) (kd : Int) (t : Tm) : Prop where
  only : Only pb w0 w
  z : Bk w zb 28 #[.int .u8 0, .string ⟨#[]⟩, .string ⟨#[]⟩, .int .i64 0, .string ⟨#[]⟩, .slice none 0 0]
  l : Bk w lb 28 #[.int .u8 kd, .string ⟨#[]⟩, .string ⟨#[]⟩, .int .i64 0, .string ⟨#[]⟩, .slice none 0 0]
  f : Bk w fb 25 #[.string t.v, .string t.s, .int .i64 t.n]
theorem Cmp3.step {w0 w w' : World} {pb zb lb fb : Nat} {kd : Int} {t : Tm} (h : Cmp3 w0 w pb zb lb fb kd t) (ho : Only pb w w') (h1 : zb ≠ pb) (h2 : lb ≠ pb) (h3 : fb ≠ pb) : Cmp3 w0 w' pb zb lb fb kd t :=
  ⟨h.only.trans ho, h.z.only ho h1, h.l.only ho h2, h.f.only ho h3⟩
theorem Cmp3.on {w0 w w' : World} {pb zb lb fb : Nat} {kd : Int} {t : Tm} (h : Cmp3 w0 w pb zb lb fb kd t) (hb : Below w.heap.size w w') : Cmp3 w0 w' pb zb lb fb kd t :=
  ⟨h.only.trans (Only.of hb), h.z.on hb, h.l.on hb, h.f.on hb⟩
theorem Cmp3.mark {w0 w : World} {pb zb lb fb : Nat} {kd : Int} {t : Tm} (h : Cmp3 w0 w pb zb lb fb kd t) (kd' : Int) (h0 : w0.heap.size ≤ lb) (h1 : zb ≠ lb) (h2 : fb ≠ lb) : Cmp3 w0 (w.setCell ⟨lb, 0, none⟩ (.int .u8 kd')) pb zb lb fb kd' t :=
  ⟨h.only.add (setB h0 0 _), h.z.other h1 0 _, h.l.set 0 _, h.f.other h2 0 _⟩

set_option maxHeartbeats 8000000 in
set_option maxRecDepth 100000 in
theorem comp_less (w : World) (pb : Nat) (s : ByteArray) (q : Option Addr) (c : Nat) (ts : List Tok) (k : Nat) (h : Ps w pb s q c ts k) (hl : textAt s ts (k + 1) = wdLess) :
    Calls Tryz.prog 133 #[.pointer (some ⟨pb, 0, none⟩)] w (LitPost w pb s q c ts (compR s ts k)) := by
  have HR := Lib.hid (show compR s ts k = if isT ts k then (if isT ts (k + 2) then .ok (⟨3, tmZ, ⟨#[]⟩, [termR s ts k, termR s ts (k + 2)]⟩, k + 3) else .error (6, placeAt s ts (k + 2))) else .error (6, placeAt s ts k) by unfold compR; rw [if_pos hl])
  generalize compR s ts k = R at *
  have HP := Lib.hid h
  have hpb := h.lt
  have HB := Lib.hid (below2 w)
  have HT := Lib.hid (show ∀ wx, Ps wx pb s q c ts k → Calls Tryz.prog 120 #[.pointer (some ⟨pb, 0, none⟩)] wx fun e w' =>
      (e = .panicked (faultV 6 (placeAt s ts k)) ∧ isT ts k = false ∧ Only pb wx w') ∨
      (e = .returned (.agg #[.string (termR s ts k).v, .string (termR s ts k).s, .int .i64 (termR s ts k).n]) ∧ isT ts k = true ∧ Ps w' pb s q c ts (k + 1) ∧ Only pb wx w') from fun wx hx => term_sum wx pb s q c ts k hx)
  have HN := Lib.hid (show ∀ wx, Ps wx pb s q c ts (k + 1) → Calls Tryz.prog 111 #[.pointer (some ⟨pb, 0, none⟩), .string ⟨#[60]⟩] wx fun e w' => e = .returned (.bool true) ∧ Ps w' pb s q c ts (k + 2) ∧ Only pb wx w' from fun wx hx => took_yes wx pb s q c ts (k + 1) _ hx hl (text_lt hl (by decide)))
  have HT2 := Lib.hid (show ∀ wx, Ps wx pb s q c ts (k + 2) → Calls Tryz.prog 120 #[.pointer (some ⟨pb, 0, none⟩)] wx fun e w' =>
      (e = .panicked (faultV 6 (placeAt s ts (k + 2))) ∧ isT ts (k + 2) = false ∧ Only pb wx w') ∨
      (e = .returned (.agg #[.string (termR s ts (k + 2)).v, .string (termR s ts (k + 2)).s, .int .i64 (termR s ts (k + 2)).n]) ∧ isT ts (k + 2) = true ∧ Ps w' pb s q c ts (k + 3) ∧ Only pb wx w') from fun wx hx => term_sum wx pb s q c ts (k + 2) hx)
  generalize termR s ts k = t at *
  generalize termR s ts (k + 2) = u at *
  obtain ⟨tv, tsy, tn⟩ := t
  obtain ⟨uv, us, un⟩ := u
  clear h hl
  go_enter Tryz.func133, Tryz.ntmps133
  go_wp2_with (first
    | (go_at_call 120; refine (HT.out _ (HP.out.on (HB.out _ _))).mono ?_; rintro e w1 (⟨rfl, hn, ho1⟩ | ⟨rfl, hy, hp1, ho1⟩); (exact ⟨rfl, by rw [HR.out, if_neg (by rw [hn]; decide)]; exact ⟨rfl, (Only.of (HB.out _ _)).trans ho1⟩⟩); have HR1 := Lib.hid (HR.out.trans (if_pos hy)); have HP1 := Lib.hid hp1; have HL1 := Lib.hid ((Bk.new2 w _ _ _).only ho1 (by omega)); have HZ1 := Lib.hid ((Bk.new1 w _ _ _).only ho1 (by omega)); have HO1 := Lib.hid ((Only.of (HB.out _ _)).trans ho1); clear hp1 ho1 hy)
    | (go_at_call 111; refine (HN.out _ (HP1.out.on (below1 _ _))).mono ?_; rintro e w2 ⟨rfl, hp2, ho2⟩; have HP2 := Lib.hid hp2; have HC2 := Lib.hid (Cmp3.step (w0 := w) (t := ⟨tv, tsy, tn⟩) ⟨HO1.out.trans (Only.of (below1 w1 _)), HZ1.out.on (below1 w1 _), HL1.out.on (below1 w1 _), Bk.new w1 _ _⟩ ho2 (by omega) (by omega) (by have := HZ1.out.lt; omega)); clear hp2 ho2))
  have HS2 := Lib.hid (show ∀ X, Below w2.heap.size w2 X → Calls Tryz.prog 120 #[.pointer (some ⟨pb, 0, none⟩)] X fun e w' =>
      (e = .panicked (faultV 6 (placeAt s ts (k + 2))) ∧ Hid (isT ts (k + 2) = false) ∧ Only pb w w') ∨
      (e = .returned (.agg #[.string uv, .string us, .int .i64 un]) ∧ Hid (isT ts (k + 2) = true) ∧ Ps w' pb s q c ts (k + 3) ∧ Cmp3 w w' pb w.heap.size (w.heap.size + 1) w1.heap.size 3 ⟨tv, tsy, tn⟩) from fun X hX =>
    (HT2.out X (HP2.out.on hX)).mono fun e w' he => he.imp (fun ⟨a, b, d⟩ => ⟨a, Lib.hid b, (HC2.out.on hX).only.trans d⟩) (fun ⟨a, b, d, f⟩ => ⟨a, Lib.hid b, d, (HC2.out.on hX).step f (by omega) (by omega) (by have := HZ1.out.lt; omega)⟩))
  have HB20 := Lib.hid (Below.refl w2.heap.size w2)
  have HB21 := Lib.hid (Below.drew (Below.refl w2.heap.size w2))
  have x0 := HC2.out.f.cell 0 _ rfl
  have x1 := HC2.out.f.cell 1 _ rfl
  have x2 := HC2.out.f.cell 2 _ rfl
  go_region_law (first
    | (go_simp; go_at_call 120; refine (HS2.out _ (by first | exact HB21.out | exact HB20.out)).mono ?_; rintro e wn (⟨rfl, hf, ho⟩ | ⟨rfl, hy, hp3, hc3⟩); (exact ⟨rfl, by rw [HR1.out, if_neg (by rw [hf.out]; decide)]; exact ⟨rfl, ho⟩⟩); have HP3 := Lib.hid hp3; have HC3 := Lib.hid hc3; have y0 := HC3.out.f.cell 0 _ rfl; have y1 := HC3.out.f.cell 1 _ rfl; have y2 := HC3.out.f.cell 2 _ rfl; have g5 : ∀ o, (wn.alloc o).cell? ⟨w.heap.size + 1, 5, none⟩ = some (.slice none 0 0) := fun o => (HC3.out.l.on (below1 wn o)).cell 5 _ rfl; have g5' : ∀ o, (wn.alloc o).frozen? ⟨w.heap.size + 1, 5, none⟩ = false := fun o => (HC3.out.l.on (below1 wn o)).soft 5; clear hp3 hc3))
  all_goals
    obtain ⟨d0, d1, d2, d3, d4, d5⟩ := ((HC3.out.l.on (below1 wn (.cells #[.string tv, .string tsy, .int .i64 tn, .string uv, .string us, .int .i64 un] 25))).set 5 (.slice (some ⟨wn.heap.size, 0, none⟩) 2 2)).six
    have hz := (HC3.out.z.on (below1 wn (.cells #[.string tv, .string tsy, .int .i64 tn, .string uv, .string us, .int .i64 un] 25))).other (b' := w.heap.size + 1) (by omega) 5 (.slice (some ⟨wn.heap.size, 0, none⟩) 2 2)
    obtain ⟨r0, r1, r2, r3, r4, r5⟩ := hz.six
    obtain ⟨z0, z1, z2, z3, z4, z5, z6⟩ := hz.softs
    go_wp2_with fail
    obtain ⟨q0, q1, q2, q3, q4, q5⟩ := (load6 hz (.int .u8 3) (.string ⟨#[]⟩) (.string ⟨#[]⟩) (.int .i64 0) (.string ⟨#[]⟩) (.slice (some ⟨wn.heap.size, 0, none⟩) 2 2)).six
    have hlt := HC3.out.l.lt
    refine bodyPost_ret (v := Lp.agg ⟨3, tmZ, ⟨#[]⟩, some ⟨wn.heap.size, 0, none⟩, 2, [⟨tv, tsy, tn⟩, ⟨uv, us, un⟩]⟩) ?_ rfl ?_
    · simp [results, Tryz.results133, go_sem, q0, q1, q2, q3, q4, q5, Lp.agg, tmZ]
    · rw [HR1.out, if_pos hy.out]
      exact lit_close (w2 := wn) (w3 := wn.alloc (.cells #[.string tv, .string tsy, .int .i64 tn, .string uv, .string us, .int .i64 un] 25)) (G := w.heap.size + 2) (L := ⟨3, tmZ, ⟨#[]⟩, [⟨tv, tsy, tn⟩, ⟨uv, us, un⟩]⟩) ((setB (by omega) 5 _).trans (set6 (Nat.le_refl _) _ _ _ _ _ _)) (((Above.refl _ _).set (by omega) 5 _).set6 (by omega) _ _ _ _ _ _) (by omega) (by omega) hpb HC3.out.only (two_rd (t := ⟨tv, tsy, tn⟩) (u := ⟨uv, us, un⟩) (Bk.new wn _ _)) (fun b hb => by cases hb; exact Nat.le_refl _) (HP3.out.on (below1 wn _)) (Only.of (below1 wn _))
set_option maxHeartbeats 8000000 in
set_option maxRecDepth 100000 in
theorem comp_unlike (w : World) (pb : Nat) (s : ByteArray) (q : Option Addr) (c : Nat) (ts : List Tok) (k : Nat) (h : Ps w pb s q c ts k) (hl : textAt s ts (k + 1) ≠ wdLess) :
    Calls Tryz.prog 133 #[.pointer (some ⟨pb, 0, none⟩)] w (LitPost w pb s q c ts (compR s ts k)) := by
  have HR := Lib.hid (show compR s ts k = if isT ts k then (if textAt s ts (k + 1) = wdUnlike then (if isT ts (k + 2) then .ok (⟨4, tmZ, ⟨#[]⟩, [termR s ts k, termR s ts (k + 2)]⟩, k + 3) else .error (6, placeAt s ts (k + 2))) else .error (6, placeAt s ts (k + 1))) else .error (6, placeAt s ts k) by unfold compR; rw [if_neg hl])
  generalize compR s ts k = R at *
  have HP := Lib.hid h
  have hpb := h.lt
  have HB := Lib.hid (below2 w)
  have HT := Lib.hid (show ∀ wx, Ps wx pb s q c ts k → Calls Tryz.prog 120 #[.pointer (some ⟨pb, 0, none⟩)] wx fun e w' =>
      (e = .panicked (faultV 6 (placeAt s ts k)) ∧ isT ts k = false ∧ Only pb wx w') ∨
      (e = .returned (.agg #[.string (termR s ts k).v, .string (termR s ts k).s, .int .i64 (termR s ts k).n]) ∧ isT ts k = true ∧ Ps w' pb s q c ts (k + 1) ∧ Only pb wx w') from fun wx hx => term_sum wx pb s q c ts k hx)
  have HN := Lib.hid (show ∀ wx, Ps wx pb s q c ts (k + 1) → Calls Tryz.prog 111 #[.pointer (some ⟨pb, 0, none⟩), .string ⟨#[60]⟩] wx fun e w' => e = .returned (.bool false) ∧ Below wx.heap.size wx w' from fun wx hx => took_no wx pb s q c ts (k + 1) _ hx hl)
  have HW := Lib.hid (show ∀ wx, Ps wx pb s q c ts (k + 1) → Calls Tryz.prog 115 #[.pointer (some ⟨pb, 0, none⟩), .string ⟨#[33, 61]⟩] wx fun e w' =>
      (e = .panicked (faultV 6 (placeAt s ts (k + 1))) ∧ textAt s ts (k + 1) ≠ wdUnlike ∧ Only pb wx w') ∨ (e = .returned (.tuple #[]) ∧ textAt s ts (k + 1) = wdUnlike ∧ Ps w' pb s q c ts (k + 2) ∧ Only pb wx w') from fun wx hx => want_any wx pb s q c ts (k + 1) _ hx (by decide))
  have HT2 := Lib.hid (show ∀ wx, Ps wx pb s q c ts (k + 2) → Calls Tryz.prog 120 #[.pointer (some ⟨pb, 0, none⟩)] wx fun e w' =>
      (e = .panicked (faultV 6 (placeAt s ts (k + 2))) ∧ isT ts (k + 2) = false ∧ Only pb wx w') ∨
      (e = .returned (.agg #[.string (termR s ts (k + 2)).v, .string (termR s ts (k + 2)).s, .int .i64 (termR s ts (k + 2)).n]) ∧ isT ts (k + 2) = true ∧ Ps w' pb s q c ts (k + 3) ∧ Only pb wx w') from fun wx hx => term_sum wx pb s q c ts (k + 2) hx)
  generalize termR s ts k = t at *
  generalize termR s ts (k + 2) = u at *
  obtain ⟨tv, tsy, tn⟩ := t
  obtain ⟨uv, us, un⟩ := u
  clear h hl
  go_enter Tryz.func133, Tryz.ntmps133
  go_wp2_with (first
    | (go_at_call 120; refine (HT.out _ (HP.out.on (HB.out _ _))).mono ?_; rintro e w1 (⟨rfl, hn, ho1⟩ | ⟨rfl, hy, hp1, ho1⟩); (exact ⟨rfl, by rw [HR.out, if_neg (by rw [hn]; decide)]; exact ⟨rfl, (Only.of (HB.out _ _)).trans ho1⟩⟩); have HR0 := Lib.hid (HR.out.trans (if_pos hy)); have HP1 := Lib.hid hp1; have HL1 := Lib.hid ((Bk.new2 w _ _ _).only ho1 (by omega)); have HZ1 := Lib.hid ((Bk.new1 w _ _ _).only ho1 (by omega)); have HO1 := Lib.hid ((Only.of (HB.out _ _)).trans ho1); clear hp1 ho1 hy)
    | (go_at_call 111; refine (HN.out _ (HP1.out.on (below1 _ _))).mono ?_; rintro e w2 ⟨rfl, hb2⟩; have HP2 := Lib.hid ((HP1.out.on (below1 w1 _)).on hb2); have HC2 := Lib.hid (Cmp3.on (w0 := w) (pb := pb) (t := ⟨tv, tsy, tn⟩) ⟨HO1.out.trans (Only.of (below1 w1 _)), HZ1.out.on (below1 w1 _), HL1.out.on (below1 w1 _), Bk.new w1 _ _⟩ hb2); clear hb2)
    | (go_at_call 115; refine (HW.out _ HP2.out).mono ?_; rintro e w3 (⟨rfl, hn, ho3⟩ | ⟨rfl, hy, hp3, ho3⟩); (exact ⟨rfl, by rw [HR0.out, if_neg hn]; exact ⟨rfl, HC2.out.only.trans ho3⟩⟩); have HR1 := Lib.hid (HR0.out.trans (if_pos hy)); have HP3 := Lib.hid hp3; have HC3 := Lib.hid (HC2.out.step ho3 (by omega) (by omega) (by have := HZ1.out.lt; omega)); have m0 := HC3.out.l.cell 0 _ rfl; have n0 := HC3.out.l.soft 0; clear hp3 ho3 hy))
  have HCM := Lib.hid (HC3.out.mark 4 (by omega) (by omega) (by have := HL1.out.lt; omega))
  have HPM := Lib.hid (HP3.out.on' (w' := w3.setCell ⟨w.heap.size + 1, 0, none⟩ (.int .u8 4)) (setB (by omega) 0 _))
  generalize w3.setCell ⟨w.heap.size + 1, 0, none⟩ (.int .u8 4) = w4 at *
  have HS2 := Lib.hid (show ∀ X, Below w4.heap.size w4 X → Calls Tryz.prog 120 #[.pointer (some ⟨pb, 0, none⟩)] X fun e w' =>
      (e = .panicked (faultV 6 (placeAt s ts (k + 2))) ∧ Hid (isT ts (k + 2) = false) ∧ Only pb w w') ∨
      (e = .returned (.agg #[.string uv, .string us, .int .i64 un]) ∧ Hid (isT ts (k + 2) = true) ∧ Ps w' pb s q c ts (k + 3) ∧ Cmp3 w w' pb w.heap.size (w.heap.size + 1) w1.heap.size 4 ⟨tv, tsy, tn⟩) from fun X hX =>
    (HT2.out X (HPM.out.on hX)).mono fun e w' he => he.imp (fun ⟨a, b, d⟩ => ⟨a, Lib.hid b, (HCM.out.on hX).only.trans d⟩) (fun ⟨a, b, d, f⟩ => ⟨a, Lib.hid b, d, (HCM.out.on hX).step f (by omega) (by omega) (by have := HZ1.out.lt; omega)⟩))
  have HB20 := Lib.hid (Below.refl w4.heap.size w4)
  have HB21 := Lib.hid (Below.drew (Below.refl w4.heap.size w4))
  have x0 := HCM.out.f.cell 0 _ rfl
  have x1 := HCM.out.f.cell 1 _ rfl
  have x2 := HCM.out.f.cell 2 _ rfl
  go_region_law (first
    | (go_simp; go_at_call 120; refine (HS2.out _ (by first | exact HB21.out | exact HB20.out)).mono ?_; rintro e wn (⟨rfl, hf, ho⟩ | ⟨rfl, hy, hp5, hc5⟩); (exact ⟨rfl, by rw [HR1.out, if_neg (by rw [hf.out]; decide)]; exact ⟨rfl, ho⟩⟩); have HP5 := Lib.hid hp5; have HC5 := Lib.hid hc5; have y0 := HC5.out.f.cell 0 _ rfl; have y1 := HC5.out.f.cell 1 _ rfl; have y2 := HC5.out.f.cell 2 _ rfl; have g5 : ∀ o, (wn.alloc o).cell? ⟨w.heap.size + 1, 5, none⟩ = some (.slice none 0 0) := fun o => (HC5.out.l.on (below1 wn o)).cell 5 _ rfl; have g5' : ∀ o, (wn.alloc o).frozen? ⟨w.heap.size + 1, 5, none⟩ = false := fun o => (HC5.out.l.on (below1 wn o)).soft 5; clear hp5 hc5))
  all_goals
    obtain ⟨d0, d1, d2, d3, d4, d5⟩ := ((HC5.out.l.on (below1 wn (.cells #[.string tv, .string tsy, .int .i64 tn, .string uv, .string us, .int .i64 un] 25))).set 5 (.slice (some ⟨wn.heap.size, 0, none⟩) 2 2)).six
    have hz := (HC5.out.z.on (below1 wn (.cells #[.string tv, .string tsy, .int .i64 tn, .string uv, .string us, .int .i64 un] 25))).other (b' := w.heap.size + 1) (by omega) 5 (.slice (some ⟨wn.heap.size, 0, none⟩) 2 2)
    obtain ⟨r0, r1, r2, r3, r4, r5⟩ := hz.six
    obtain ⟨z0, z1, z2, z3, z4, z5, z6⟩ := hz.softs
    go_wp2_with fail
    obtain ⟨q0, q1, q2, q3, q4, q5⟩ := (load6 hz (.int .u8 4) (.string ⟨#[]⟩) (.string ⟨#[]⟩) (.int .i64 0) (.string ⟨#[]⟩) (.slice (some ⟨wn.heap.size, 0, none⟩) 2 2)).six
    have hlt := HC5.out.l.lt
    refine bodyPost_ret (v := Lp.agg ⟨4, tmZ, ⟨#[]⟩, some ⟨wn.heap.size, 0, none⟩, 2, [⟨tv, tsy, tn⟩, ⟨uv, us, un⟩]⟩) ?_ rfl ?_
    · simp [results, Tryz.results133, go_sem, q0, q1, q2, q3, q4, q5, Lp.agg, tmZ]
    · rw [HR1.out, if_pos hy.out]
      exact lit_close (w2 := wn) (w3 := wn.alloc (.cells #[.string tv, .string tsy, .int .i64 tn, .string uv, .string us, .int .i64 un] 25)) (G := w.heap.size + 2) (L := ⟨4, tmZ, ⟨#[]⟩, [⟨tv, tsy, tn⟩, ⟨uv, us, un⟩]⟩) ((setB (by omega) 5 _).trans (set6 (Nat.le_refl _) _ _ _ _ _ _)) (((Above.refl _ _).set (by omega) 5 _).set6 (by omega) _ _ _ _ _ _) (by omega) (by omega) hpb HC5.out.only (two_rd (t := ⟨tv, tsy, tn⟩) (u := ⟨uv, us, un⟩) (Bk.new wn _ _)) (fun b hb => by cases hb; exact Nat.le_refl _) (HP5.out.on (below1 wn _)) (Only.of (below1 wn _))
theorem comp_any (w : World) (pb : Nat) (s : ByteArray) (q : Option Addr) (c : Nat) (ts : List Tok) (k : Nat) (h : Ps w pb s q c ts k) :
    Calls Tryz.prog 133 #[.pointer (some ⟨pb, 0, none⟩)] w (LitPost w pb s q c ts (compR s ts k)) := by
  by_cases hl : textAt s ts (k + 1) = wdLess
  · exact comp_less w pb s q c ts k h hl
  · exact comp_unlike w pb s q c ts k h hl
end Go.Proofs.YtfmkfabbiifolaaGreatDoor
