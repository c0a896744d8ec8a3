/-
  Joined of: Rqi, RdrE.
-/
import Derived.Test.YtfmkfabbiifolaaGreatDoorJa18
import Derived.Test.YtfmkfabbiifolaaGreatDoorJb03
import Derived.Deep.RegionHeld3
import Derived.Test.YtfmkfabbiifolaaGreatDoorJa25
set_option linter.unusedVariables false
set_option linter.unusedSimpArgs false
/-
  Contracts: the reference's word, place, number.
-/
set_option linter.unusedVariables false
set_option linter.unusedSimpArgs false
namespace Go.Proofs.YtfmkfabbiifolaaGreatDoor
open Go.RowKit

/-- a token's text, if it is of a kind -/
def wordR (s : ByteArray) (ts : List Tok) (k : Nat) (kd : Int) : ByteArray := if kindAt ts k = kd then textAt s ts k else ⟨#[]⟩
set_option maxHeartbeats 2000000 in
theorem refplace_any (w : World) (s : ByteArray) (q : Option Addr) (c : Nat) (ts : List Tok) (k : Nat) (hr : Rd encT 3 w w.heap.size q ts) (hl : ts.length ≤ 4096) :
    Calls Tryz.prog 22 #[.string s, .slice q ts.length c, .int .i64 k] w fun e w' => e = .returned (.int .i64 (placeAt s ts k)) ∧ w' = w := by
  by_cases hk : k < ts.length
  · have HK := Lib.hid (show placeAt s ts k = ts[k].fr by unfold placeAt; rw [List.getElem?_eq_getElem hk])
    obtain ⟨b, o, rfl, hb, x0, x1, x2⟩ := rdT_at hr k hk
    have h0 : ¬ (ts.length : Int) ≤ (k : Int) := by omega
    have h1 : (0 : Int) ≤ (k : Int) := by omega
    have h2 : (k : Int) < (ts.length : Int) := by omega
    clear hr x0 x2
    go_enter Tryz.func22, Tryz.ntmps22
    go_wp2_with fail
    go_ret
    exact ⟨by rw [HK.out]; rfl, by first | rfl | trivial⟩
  · have HK := Lib.hid (show placeAt s ts k = s.size by unfold placeAt; rw [List.getElem?_eq_none (by omega)])
    have h0 : (ts.length : Int) ≤ (k : Int) := by omega
    clear hr
    go_enter Tryz.func22, Tryz.ntmps22
    go_wp2_with fail
    go_ret
    exact ⟨by rw [HK.out]; rfl, by first | rfl | trivial⟩
set_option maxHeartbeats 4000000 in
theorem refword_any (w : World) (s : ByteArray) (q : Option Addr) (c : Nat) (ts : List Tok) (k : Nat) (kd : Int) (hr : Rd encT 3 w w.heap.size q ts) (hs : Srcs s ts) (hkd : kd ≠ 0) :
    Calls Tryz.prog 21 #[.string s, .slice q ts.length c, .int .i64 k, .int .u8 kd] w fun e w' => e = .returned (.string (wordR s ts k kd)) ∧ Below w.heap.size w w' := by
  have hl := hs.len
  have HB := Lib.hid (Below.refl w.heap.size w)
  by_cases hk : k < ts.length
  · have hke := kindAt_eq hk
    have HT := Lib.hid (textAt_some (s := s) hk)
    have hp := hs.pos _ (List.getElem_mem hk)
    have hsz := hs.size
    obtain ⟨b, o, rfl, hb, x0, x1, x2⟩ := rdT_at hr k hk
    have h0 : ¬ (ts.length : Int) ≤ (k : Int) := by omega
    have h1 : (0 : Int) ≤ (k : Int) := by omega
    have h2 : (k : Int) < (ts.length : Int) := by omega
    clear hr hs
    generalize ts[k] = t at *
    obtain ⟨tk, fr, te⟩ := t
    simp only at hp x0 x1 x2 HT hke
    obtain ⟨f, rfl⟩ := Int.eq_ofNat_of_zero_le hp.1
    obtain ⟨g, rfl⟩ := Int.eq_ofNat_of_zero_le (Int.le_trans hp.1 hp.2.1)
    have hfg : (f : Int) ≤ (g : Int) := hp.2.1
    have hgs : (g : Int) ≤ (s.size : Int) := hp.2.2
    have hf0 : (0 : Int) ≤ (f : Int) := by omega
    by_cases hkk : tk = kd
    · subst hkk
      have HW := Lib.hid (show wordR s ts k tk = s.extract f g by unfold wordR; rw [if_pos hke, HT.out]; rfl)
      clear hke hp
      go_enter Tryz.func21, Tryz.ntmps21
      go_wp2_with fail
      go_quiet (fail)
      go_wp2_with fail
      go_ret
      exact ⟨by rw [HW.out]; simp, below_drewN' HB.out _⟩
    · have HW := Lib.hid (show wordR s ts k kd = ⟨#[]⟩ by unfold wordR; rw [if_neg (by rw [hke]; exact hkk)])
      have hkn : (tk != kd) = true := by rw [bne_iff_ne]; exact hkk
      clear hke hp
      go_enter Tryz.func21, Tryz.ntmps21
      go_wp2_with fail
      go_ret
      exact ⟨by rw [HW.out]; rfl, HB.out⟩
  · have HW := Lib.hid (show wordR s ts k kd = ⟨#[]⟩ by
      unfold wordR
      rw [if_neg]
      unfold kindAt
      rw [List.getElem?_eq_none (by omega)]
      exact fun e => hkd e.symm)
    have h0 : (ts.length : Int) ≤ (k : Int) := by omega
    clear hr hs
    go_enter Tryz.func21, Tryz.ntmps21
    go_wp2_with fail
    go_ret
    exact ⟨by rw [HW.out]; rfl, HB.out⟩
theorem readV_sym (t : ByteArray) : ∃ b, readV t = .tuple #[.agg #[.string (readP t).1, .int .i64 (readP t).2], .bool b] ∧ (b = false → (readP t).2 = 0) ∧ (0 < (readP t).1.size → (readP t).2 = 0) := by
  unfold readV readP
  cases nameB t with
  | true => exact ⟨true, rfl, ⟨fun h => (by cases h), fun _ => rfl⟩⟩
  | false =>
    rw [if_neg (by decide), if_neg (by decide)]
    cases readN t with
    | some v => exact ⟨true, rfl, ⟨fun h => (by cases h), fun h => absurd h (show ¬ (0 : Nat) < 0 by decide)⟩⟩
    | none => exact ⟨false, rfl, fun _ => rfl, fun _ => rfl⟩
set_option maxHeartbeats 4000000 in
set_option maxRecDepth 100000 in
theorem refnumber_any (t : ByteArray) (w : World) (hm : t.size ≤ maxLen) :
    Calls Tryz.prog 23 #[.string t] w fun e w' => e = .returned (.int .i64 (numR t)) ∧ Below w.heap.size w w' := by
  have HR := Lib.hid (fun X => refread_any t X hm)
  obtain ⟨bk, hrv, hb0, hs0⟩ := readV_sym t
  rw [hrv] at HR
  have HN := Lib.hid (show numR t = if 1 ≤ (readP t).2 ∧ (readP t).2 ≤ 1099511627776 then (readP t).2 else 0 from rfl)
  have HB2 := Lib.hid (fun X (hX : Below w.heap.size w X) (o : Obj) => hX.trans ((below1 X o).mono hX.size))
  clear hrv hm
  generalize (readP t).1 = v1 at *
  generalize (readP t).2 = v2 at *
  generalize numR t = V at *
  cases bk with
  | false =>
    have hv := hb0 rfl
    subst hv
    have HV := Lib.hid (show V = 0 by rw [HN.out]; decide)
    go_enter Tryz.func23, Tryz.ntmps23
    go_wp2_with (go_at_call 57; refine (HR.out _).mono ?_; rintro e w2 ⟨rfl, hb2⟩; have HB3 := Lib.hid (HB2.out _ hb2 (.cells #[.string v1, .int .i64 0] 23)); clear hb2)
    go_ret
    exact ⟨by rw [HV.out]; rfl, HB3.out⟩
  | true =>
    by_cases hz : 0 < v1.size
    · have hv := hs0 hz
      subst hv
      have hz1 : (0 : Int) < (v1.size : Int) := by omega
      have HV := Lib.hid (show V = 0 by rw [HN.out]; decide)
      go_enter Tryz.func23, Tryz.ntmps23
      go_wp2_with (go_at_call 57; refine (HR.out _).mono ?_; rintro e w2 ⟨rfl, hb2⟩; have HB3 := Lib.hid (HB2.out _ hb2 (.cells #[.string v1, .int .i64 0] 23)); clear hb2)
      go_ret
      exact ⟨by rw [HV.out]; rfl, HB3.out⟩
    · have hz1 : ¬ (0 : Int) < (v1.size : Int) := by omega
      by_cases h1 : v2 < 1
      · have HV := Lib.hid (show V = 0 by rw [HN.out, if_neg (by omega)])
        go_enter Tryz.func23, Tryz.ntmps23
        go_wp2_with (go_at_call 57; refine (HR.out _).mono ?_; rintro e w2 ⟨rfl, hb2⟩; have HB3 := Lib.hid (HB2.out _ hb2 (.cells #[.string v1, .int .i64 v2] 23)); clear hb2)
        go_ret
        exact ⟨by rw [HV.out]; rfl, HB3.out⟩
      · by_cases h2 : 1099511627776 < v2
        · have HV := Lib.hid (show V = 0 by rw [HN.out, if_neg (by omega)])
          go_enter Tryz.func23, Tryz.ntmps23
          go_wp2_with (go_at_call 57; refine (HR.out _).mono ?_; rintro e w2 ⟨rfl, hb2⟩; have HB3 := Lib.hid (HB2.out _ hb2 (.cells #[.string v1, .int .i64 v2] 23)); clear hb2)
          go_ret
          exact ⟨by rw [HV.out]; rfl, HB3.out⟩
        · have HV := Lib.hid (show V = v2 by rw [HN.out, if_pos (by omega)])
          go_enter Tryz.func23, Tryz.ntmps23
          go_wp2_with (go_at_call 57; refine (HR.out _).mono ?_; rintro e w2 ⟨rfl, hb2⟩; have HB3 := Lib.hid (HB2.out _ hb2 (.cells #[.string v1, .int .i64 v2] 23)); clear hb2)
          go_ret
          exact ⟨by rw [HV.out]; rfl, HB3.out⟩
end Go.Proofs.YtfmkfabbiifolaaGreatDoor

/-
  Contract: the reference's reader: said.
-/
namespace Go.Proofs.YtfmkfabbiifolaaGreatDoor
open Go.RowKit

/-- how the reference's reading of a literal ends -/
def RSaidPost (w : World) (rb : Nat) (s : ByteArray) (q : Option Addr) (c : Nat) (ts : List Tok) (fr : Int) (R : Except (Int × Int) (Lq × Nat)) (e : Ending) (w' : World) : Prop :=
  ∃ (L : Lq) (q' : Option Addr) (c' : Nat), e = .returned (Lp.agg ⟨L.kind, L.who, L.pred, q', c', L.args⟩) ∧ Tms w' w'.heap.size q' L.args ∧ (∀ b, q' = some b → w.heap.size ≤ b.block) ∧ Only rb w w' ∧
    ((∃ k', R = .ok (L, k') ∧ Rr w' rb s q c ts k' 0 fr) ∨ (∃ k' n p, n ≠ 0 ∧ R = .error (n, p) ∧ Rr w' rb s q c ts k' n p))
theorem rneed_sum (w : World) (rb : Nat) (s : ByteArray) (q : Option Addr) (c : Nat) (ts : List Tok) (k : Nat) (fr : Int) (x : ByteArray) (h : Rr w rb s q c ts k 0 fr) (hx : x ≠ ⟨#[]⟩) :
    Calls Tryz.prog 63 #[.pointer (some ⟨rb, 0, none⟩), .string x] w fun e w' => e = .returned (.tuple #[]) ∧ Only rb w w' ∧ ∃ k2 e2 f2, Rr w' rb s q c ts k2 e2 f2 ∧ ((textAt s ts k = x ∧ e2 = 0 ∧ f2 = fr ∧ k2 = k + 1) ∨ (textAt s ts k ≠ x ∧ e2 = 6 ∧ f2 = placeAt s ts k)) := by
  by_cases ht : textAt s ts k = x
  · exact (rneed_yes w rb s q c ts k fr x h ht (text_lt ht hx)).mono fun e w' ⟨h1, h2, h3⟩ => ⟨h1, h3, _, _, _, h2, .inl ⟨ht, rfl, rfl, rfl⟩⟩
  · exact (rneed_no w rb s q c ts k fr x h ht).mono fun e w' ⟨h1, h2, h3⟩ => ⟨h1, h3, _, _, _, h2, .inr ⟨ht, rfl, rfl⟩⟩
theorem rsaid_close {w w2 w3 W : World} {rb : Nat} {s : ByteArray} {q : Option Addr} {c : Nat} {ts : List Tok} {fr : Int} {R : Except (Int × Int) (Lq × Nat)} {L : Lq} {q' : Option Addr} {c' : Nat} {G : Nat} (hb : Below w.heap.size w3 W) (ha : Above G w3 W) (hG : G ≤ w2.heap.size) (hG2 : w.heap.size ≤ G) (hpb : rb < w.heap.size) (ho2 : Only rb w w2) (ht3 : Tms w3 w3.heap.size q' L.args) (hf3 : ∀ b, q' = some b → w2.heap.size ≤ b.block) (ho3 : Only rb w2 w3)
    (hst : (∃ k', R = .ok (L, k') ∧ Rr w3 rb s q c ts k' 0 fr) ∨ (∃ k' n p, n ≠ 0 ∧ R = .error (n, p) ∧ Rr w3 rb s q c ts k' n p)) :
    RSaidPost w rb s q c ts fr R (.returned (Lp.agg ⟨L.kind, L.who, L.pred, q', c', L.args⟩)) W :=
  ⟨L, q', c', rfl, ha.rd ht3 (fun b hb => Nat.le_trans hG (hf3 b hb)) hb.size, fun b hb => Nat.le_trans hG2 (Nat.le_trans hG (hf3 b hb)), (ho2.trans ho3).add hb, by
    rcases hst with ⟨k', h1, h2⟩ | ⟨k', n, p, h0, h1, h2⟩
    · exact .inl ⟨k', h1, h2.on' (hb.mono (by omega))⟩
    · exact .inr ⟨k', n, p, h0, h1, h2.on' (hb.mono (by omega))⟩⟩

set_option maxHeartbeats 8000000 in
set_option maxRecDepth 100000 in
theorem rsaid_bare (w : World) (rb : Nat) (s : ByteArray) (q : Option Addr) (c : Nat) (ts : List Tok) (k : Nat) (kd fr : Int) (h : Rr w rb s q c ts k 0 fr) (hs : ¬ (kindAt ts k = 2 ∨ (kindAt ts k = 1 ∧ textAt s ts (k + 1) = wdSays))) :
    Calls Tryz.prog 65 #[.pointer (some ⟨rb, 0, none⟩), .int .u8 kd] w (RSaidPost w rb s q c ts fr (saidR s ts kd k)) := by
  have HR := Lib.hid (show saidR s ts kd k = match atomR s ts k with
      | .error e => .error e
      | .ok (a, k') => .ok (⟨kd, tmZ, a.1, a.2⟩, k') by unfold saidR; rw [if_neg hs]; cases atomR s ts k <;> rfl)
  generalize saidR s ts kd k = R at *
  have HP := Lib.hid h
  have hpb := h.lt
  have HB := Lib.hid (below2 w)
  have HK := Lib.hid (show ∀ wx, Rr wx rb s q c ts k 0 fr → Calls Tryz.prog 92 #[.pointer (some ⟨rb, 0, none⟩)] wx fun e w' => e = .returned (.int .u8 (kindAt ts k)) ∧ Below wx.heap.size wx w' from fun wx hx => rkind_any wx rb s q c ts k 0 fr hx)
  have HS := Lib.hid (show ∀ wx, Rr wx rb s q c ts k 0 fr → Calls Tryz.prog 60 #[.pointer (some ⟨rb, 0, none⟩), .int .i64 1] wx fun e w' => e = .returned (.string (textAt s ts (k + 1))) ∧ Below wx.heap.size wx w' from fun wx hx => rtext_any wx rb s q c ts k 1 0 fr hx (by omega))
  have HA := Lib.hid (show ∀ wx, Rr wx rb s q c ts k 0 fr → Calls Tryz.prog 59 #[.pointer (some ⟨rb, 0, none⟩)] wx (RAtomPost wx rb s q c ts k 0 fr) from fun wx hx => ratom_any wx rb s q c ts k 0 fr hx)
  have HST := Lib.hid (show ∀ nm l wx, ((∃ k', (0 : Int) = 0 ∧ atomR s ts k = .ok ((nm, l), k') ∧ Rr wx rb s q c ts k' 0 fr) ∨ (∃ k' n p, n ≠ 0 ∧ ((0 : Int) = 0 → atomR s ts k = .error (n, p)) ∧ ((0 : Int) ≠ 0 → n = 0 ∧ p = fr) ∧ Rr wx rb s q c ts k' n p)) → ((∃ k', R = .ok (⟨kd, ⟨⟨#[]⟩, ⟨#[]⟩, 0⟩, nm, l⟩, k') ∧ Rr wx rb s q c ts k' 0 fr) ∨ (∃ k' n p, n ≠ 0 ∧ R = .error (n, p) ∧ Rr wx rb s q c ts k' n p)) from fun nm l wx hx => by
    rcases hx with ⟨k', _, h1, h2⟩ | ⟨k', n, p, h0, h1, _, h2⟩
    · exact .inl ⟨k', by rw [HR.out, h1]; rfl, h2⟩
    · exact .inr ⟨k', n, p, h0, by rw [HR.out, h1 rfl], h2⟩)
  have g2 : (kindAt ts k == 2) = false := by simp; exact fun e => hs (.inl e)
  have hq1 : kindAt ts k = 1 → ((textAt s ts (k + 1)).toList == [115, 97, 121, 115]) = false := fun e => toList_beq (l := [115, 97, 121, 115]) (fun he => hs (.inr ⟨e, he⟩))
  generalize kindAt ts k = kk at *
  generalize textAt s ts (k + 1) = x1 at *
  clear h hs
  cases g1 : (kk == 1) with
  | false =>
    clear hq1 HS
    go_enter Tryz.func65, Tryz.ntmps65
    go_wp2_with (first
      | (go_at_call 59; refine (HA.out _ HP2.out).mono ?_; rintro e w3 ⟨nm, q', l, c', rfl, ht3, hf3, ho3, hs3⟩; have HT3 := Lib.hid ht3; have HF3 := Lib.hid hf3; have HS3 := Lib.hid hs3; have HO3 := Lib.hid ho3; have HL3 := Lib.hid (HL2.out.only ho3 (by omega)); have HZ3 := Lib.hid (HZ2.out.only ho3 (by omega)); obtain ⟨d0, d1, d2, d3, d4, d5⟩ := ((HL3.out.set 4 (.string nm)).set 5 (.slice q' l.length c')).six; obtain ⟨i0, i1, i2, i3, i4, i5⟩ := HL3.out.six; have i5' := ((HL3.out.set 4 (.string nm))).cell 5 _ rfl; obtain ⟨r0, r1, r2, r3, r4, r5⟩ := ((HZ3.out.other (b' := w.heap.size + 1) (by omega) 4 (.string nm)).other (b' := w.heap.size + 1) (by omega) 5 (.slice q' l.length c')).six; obtain ⟨z0, z1, z2, z3, z4, z5, z6⟩ := HZ3.out.softs; obtain ⟨j0, j1, j2, j3, j4, j5, j6⟩ := HL3.out.softs; clear ht3 hf3 hs3 ho3)
      | (go_at_call 92; refine (HK.out _ HP1.out).mono ?_; rintro e w2 ⟨rfl, hb2⟩; have HP2 := Lib.hid (HP1.out.on hb2); have HO2 := Lib.hid (HO1.out.trans (Only.of hb2)); have HL2 := Lib.hid (HL1.out.on hb2); have HZ2 := Lib.hid (HZ1.out.on hb2); clear hb2)
      | (go_at_call 92; refine (HK.out _ (HP.out.on (HB.out _ _))).mono ?_; rintro e w1 ⟨rfl, hb1⟩; have HP1 := Lib.hid ((HP.out.on (HB.out _ _)).on hb1); have HO1 := Lib.hid ((Only.of (pb := rb) (HB.out _ _)).trans (Only.of hb1)); have HL1 := Lib.hid ((Bk.new2 w _ _ _).on hb1); have HZ1 := Lib.hid ((Bk.new1 w _ _ _).on hb1); clear hb1))
    obtain ⟨y0, y1, y2, y3, y4, y5⟩ := (load6 ((HZ3.out.other (b' := w.heap.size + 1) (by omega) 4 (.string nm)).other (b' := w.heap.size + 1) (by omega) 5 (.slice q' l.length c')) (.int .u8 kd) (.string ⟨#[]⟩) (.string ⟨#[]⟩) (.int .i64 0) (.string nm) (.slice q' l.length c')).six
    have hlt := HL2.out.lt
    refine bodyPost_ret (v := Lp.agg ⟨kd, ⟨⟨#[]⟩, ⟨#[]⟩, 0⟩, nm, q', c', l⟩) ?_ rfl ?_
    · simp [results, Tryz.results65, go_sem, y0, y1, y2, y3, y4, y5, Lp.agg]
    · exact rsaid_close (w2 := w2) (w3 := w3) (G := w.heap.size + 2) (L := ⟨kd, ⟨⟨#[]⟩, ⟨#[]⟩, 0⟩, nm, l⟩) (((setB (by omega) 4 _).trans (setB (by omega) 5 _)).trans (set6 (Nat.le_refl _) _ _ _ _ _ _)) ((((Above.refl _ _).set (by omega) 4 _).set (by omega) 5 _).set6 (by omega) _ _ _ _ _ _) (by omega) (by omega) hpb HO2.out HT3.out HF3.out HO3.out (HST.out _ _ _ HS3.out)
  | true =>
    have hq := hq1 (by simpa using g1)
    clear hq1
    go_enter Tryz.func65, Tryz.ntmps65
    go_wp2_with (first
      | (go_at_call 59; refine (HA.out _ HP3.out).mono ?_; rintro e w4 ⟨nm, q', l, c', rfl, ht4, hf4, ho4, hs4⟩; have HT4 := Lib.hid ht4; have HF4 := Lib.hid hf4; have HS4 := Lib.hid hs4; have HO4 := Lib.hid ho4; have HL4 := Lib.hid (HL3.out.only ho4 (by omega)); have HZ4 := Lib.hid (HZ3.out.only ho4 (by omega)); obtain ⟨d0, d1, d2, d3, d4, d5⟩ := ((HL4.out.set 4 (.string nm)).set 5 (.slice q' l.length c')).six; obtain ⟨i0, i1, i2, i3, i4, i5⟩ := HL4.out.six; have i5' := ((HL4.out.set 4 (.string nm))).cell 5 _ rfl; obtain ⟨r0, r1, r2, r3, r4, r5⟩ := ((HZ4.out.other (b' := w.heap.size + 1) (by omega) 4 (.string nm)).other (b' := w.heap.size + 1) (by omega) 5 (.slice q' l.length c')).six; obtain ⟨z0, z1, z2, z3, z4, z5, z6⟩ := HZ4.out.softs; obtain ⟨j0, j1, j2, j3, j4, j5, j6⟩ := HL4.out.softs; clear ht4 hf4 hs4 ho4)
      | (go_at_call 60; refine (HS.out _ HP2.out).mono ?_; rintro e w3 ⟨rfl, hb3⟩; have HP3 := Lib.hid (HP2.out.on hb3); have HO3 := Lib.hid (HO2.out.trans (Only.of hb3)); have HL3 := Lib.hid (HL2.out.on hb3); have HZ3 := Lib.hid (HZ2.out.on hb3); clear hb3)
      | (go_at_call 92; refine (HK.out _ HP1.out).mono ?_; rintro e w2 ⟨rfl, hb2⟩; have HP2 := Lib.hid (HP1.out.on hb2); have HO2 := Lib.hid (HO1.out.trans (Only.of hb2)); have HL2 := Lib.hid (HL1.out.on hb2); have HZ2 := Lib.hid (HZ1.out.on hb2); clear hb2)
      | (go_at_call 92; refine (HK.out _ (HP.out.on (HB.out _ _))).mono ?_; rintro e w1 ⟨rfl, hb1⟩; have HP1 := Lib.hid ((HP.out.on (HB.out _ _)).on hb1); have HO1 := Lib.hid ((Only.of (pb := rb) (HB.out _ _)).trans (Only.of hb1)); have HL1 := Lib.hid ((Bk.new2 w _ _ _).on hb1); have HZ1 := Lib.hid ((Bk.new1 w _ _ _).on hb1); clear hb1))
    obtain ⟨y0, y1, y2, y3, y4, y5⟩ := (load6 ((HZ4.out.other (b' := w.heap.size + 1) (by omega) 4 (.string nm)).other (b' := w.heap.size + 1) (by omega) 5 (.slice q' l.length c')) (.int .u8 kd) (.string ⟨#[]⟩) (.string ⟨#[]⟩) (.int .i64 0) (.string nm) (.slice q' l.length c')).six
    have hlt := HL3.out.lt
    refine bodyPost_ret (v := Lp.agg ⟨kd, ⟨⟨#[]⟩, ⟨#[]⟩, 0⟩, nm, q', c', l⟩) ?_ rfl ?_
    · simp [results, Tryz.results65, go_sem, y0, y1, y2, y3, y4, y5, Lp.agg]
    · exact rsaid_close (w2 := w3) (w3 := w4) (G := w.heap.size + 2) (L := ⟨kd, ⟨⟨#[]⟩, ⟨#[]⟩, 0⟩, nm, l⟩) (((setB (by omega) 4 _).trans (setB (by omega) 5 _)).trans (set6 (Nat.le_refl _) _ _ _ _ _ _)) ((((Above.refl _ _).set (by omega) 4 _).set (by omega) 5 _).set6 (by omega) _ _ _ _ _ _) (by omega) (by omega) hpb HO3.out HT4.out HF4.out HO4.out (HST.out _ _ _ HS4.out)

set_option maxHeartbeats 8000000 in
set_option maxRecDepth 100000 in
theorem rsaid_who (w : World) (rb : Nat) (s : ByteArray) (q : Option Addr) (c : Nat) (ts : List Tok) (k : Nat) (kd fr : Int) (h : Rr w rb s q c ts k 0 fr) (hs : kindAt ts k = 2 ∨ (kindAt ts k = 1 ∧ textAt s ts (k + 1) = wdSays)) :
    Calls Tryz.prog 65 #[.pointer (some ⟨rb, 0, none⟩), .int .u8 kd] w (RSaidPost w rb s q c ts fr (saidR s ts kd k)) := by
  have hT : isT ts k = true := by simp [isT]; rcases hs with h | h <;> omega
  have HR := Lib.hid (show saidR s ts kd k = if textAt s ts (k + 1) = wdSays then
      match atomR s ts (k + 2) with
      | .error e => .error e
      | .ok (a, k') => .ok (⟨kd, termR s ts k, a.1, a.2⟩, k')
    else .error (6, placeAt s ts (k + 1)) by unfold saidR; rw [if_pos hs]; cases atomR s ts (k + 2) <;> rfl)
  generalize saidR s ts kd k = R at *
  have HP := Lib.hid h
  have hpb := h.lt
  have HB := Lib.hid (below2 w)
  have HK := Lib.hid (show ∀ wx, Rr wx rb s q c ts k 0 fr → Calls Tryz.prog 92 #[.pointer (some ⟨rb, 0, none⟩)] wx fun e w' => e = .returned (.int .u8 (kindAt ts k)) ∧ Below wx.heap.size wx w' from fun wx hx => rkind_any wx rb s q c ts k 0 fr hx)
  have HS := Lib.hid (show ∀ wx, Rr wx rb s q c ts k 0 fr → Calls Tryz.prog 60 #[.pointer (some ⟨rb, 0, none⟩), .int .i64 1] wx fun e w' => e = .returned (.string (textAt s ts (k + 1))) ∧ Below wx.heap.size wx w' from fun wx hx => rtext_any wx rb s q c ts k 1 0 fr hx (by omega))
  have HTM := Lib.hid (show ∀ wx, Rr wx rb s q c ts k 0 fr → Calls Tryz.prog 93 #[.pointer (some ⟨rb, 0, none⟩)] wx fun e w' => e = .returned (.agg #[.string (termR s ts k).v, .string (termR s ts k).s, .int .i64 (termR s ts k).n]) ∧ Rr w' rb s q c ts (k + 1) 0 fr ∧ Only rb wx w' from fun wx hx => (rterm_any wx rb s q c ts k 0 fr hx).mono fun e w' ⟨t, h1, h2, h3⟩ => by
    rcases h3 with ⟨_, _, h4, h5⟩ | ⟨_, h4, _⟩ | ⟨h4, _⟩
    · subst h4; exact ⟨h1, h5, h2⟩
    · rw [hT] at h4; cases h4
    · exact absurd rfl h4)
  have HN := Lib.hid (show ∀ wx, Rr wx rb s q c ts (k + 1) 0 fr → Calls Tryz.prog 63 #[.pointer (some ⟨rb, 0, none⟩), .string ⟨#[115, 97, 121, 115]⟩] wx fun e w' => e = .returned (.tuple #[]) ∧ Only rb wx w' ∧ ∃ k2 e2 f2, Rr w' rb s q c ts k2 e2 f2 ∧ ((textAt s ts (k + 1) = wdSays ∧ e2 = 0 ∧ f2 = fr ∧ k2 = k + 2) ∨ (textAt s ts (k + 1) ≠ wdSays ∧ e2 = 6 ∧ f2 = placeAt s ts (k + 1))) from fun wx hx => rneed_sum wx rb s q c ts (k + 1) fr _ hx (by decide))
  have HA := Lib.hid (show ∀ wx k2 e2 f2, Rr wx rb s q c ts k2 e2 f2 → Calls Tryz.prog 59 #[.pointer (some ⟨rb, 0, none⟩)] wx (RAtomPost wx rb s q c ts k2 e2 f2) from fun wx k2 e2 f2 hx => ratom_any wx rb s q c ts k2 e2 f2 hx)
  have HST := Lib.hid (show ∀ nm l wx k2 e2 f2, ((textAt s ts (k + 1) = wdSays ∧ e2 = 0 ∧ f2 = fr ∧ k2 = k + 2) ∨ (textAt s ts (k + 1) ≠ wdSays ∧ e2 = 6 ∧ f2 = placeAt s ts (k + 1))) → ((∃ k', e2 = 0 ∧ atomR s ts k2 = .ok ((nm, l), k') ∧ Rr wx rb s q c ts k' 0 f2) ∨ (∃ k' n p, n ≠ 0 ∧ (e2 = 0 → atomR s ts k2 = .error (n, p)) ∧ (e2 ≠ 0 → n = e2 ∧ p = f2) ∧ Rr wx rb s q c ts k' n p)) → ((∃ k', R = .ok (⟨kd, ⟨(termR s ts k).v, (termR s ts k).s, (termR s ts k).n⟩, nm, l⟩, k') ∧ Rr wx rb s q c ts k' 0 fr) ∨ (∃ k' n p, n ≠ 0 ∧ R = .error (n, p) ∧ Rr wx rb s q c ts k' n p)) from fun nm l wx k2 e2 f2 hd hx => by
    rcases hd with ⟨hy, rfl, rfl, rfl⟩ | ⟨hn, rfl, rfl⟩
    · rcases hx with ⟨k', _, h1, h2⟩ | ⟨k', n, p, h0, h1, _, h2⟩
      · exact .inl ⟨k', by rw [HR.out, if_pos hy, h1], h2⟩
      · exact .inr ⟨k', n, p, h0, by rw [HR.out, if_pos hy, h1 rfl], h2⟩
    · rcases hx with ⟨k', h1, _⟩ | ⟨k', n, p, h0, _, h1, h2⟩
      · exact absurd h1 (by decide)
      · obtain ⟨rfl, rfl⟩ := h1 (by decide)
        exact .inr ⟨k', _, _, h0, by rw [HR.out, if_neg hn], h2⟩)
  generalize termR s ts k = t at *
  obtain ⟨tv, tsy, tn⟩ := t
  simp only at HST
  have hq1 : kindAt ts k ≠ 2 → kindAt ts k = 1 ∧ ((textAt s ts (k + 1)).toList == [115, 97, 121, 115]) = true := fun e => (hs.resolve_left e).imp id fun h => toList_beq_yes (l := [115, 97, 121, 115]) h
  generalize kindAt ts k = kk at *
  generalize textAt s ts (k + 1) = x1 at *
  clear h hs hT
  by_cases h2 : kk = 2
  · subst h2
    clear hq1 HS
    go_enter Tryz.func65, Tryz.ntmps65
    go_wp2_with (first
      | (go_at_call 59; refine (HA.out _ _ _ _ HP4.out).mono ?_; rintro e w5 ⟨nm, q', l, c', rfl, ht5, hf5, ho5, hs5⟩; have HT5 := Lib.hid ht5; have HF5 := Lib.hid hf5; have HS5 := Lib.hid hs5; have HO5 := Lib.hid ho5; have HL5 := Lib.hid (HL4.out.only ho5 (by omega)); have HZ5 := Lib.hid (HZ4.out.only ho5 (by omega)); obtain ⟨d0, d1, d2, d3, d4, d5⟩ := ((HL5.out.set 4 (.string nm)).set 5 (.slice q' l.length c')).six; obtain ⟨i0, i1, i2, i3, i4, i5⟩ := HL5.out.six; have i5' := ((HL5.out.set 4 (.string nm))).cell 5 _ rfl; obtain ⟨r0, r1, r2, r3, r4, r5⟩ := ((HZ5.out.other (b' := w.heap.size + 1) (by omega) 4 (.string nm)).other (b' := w.heap.size + 1) (by omega) 5 (.slice q' l.length c')).six; obtain ⟨z0, z1, z2, z3, z4, z5, z6⟩ := HZ5.out.softs; obtain ⟨j0, j1, j2, j3, j4, j5, j6⟩ := HL5.out.softs; clear ht5 hf5 hs5 ho5)
      | (go_at_call 63; refine (HN.out _ (HP3.out.on' (set3o (by omega) _ _ _))).mono ?_; rintro e w4 ⟨rfl, ho4, k2, e2_, f2_, hr4, hd4⟩; have HP4 := Lib.hid hr4; have HD4 := Lib.hid hd4; have HO4 := Lib.hid ((HO3.out.add (set3o (by omega) _ _ _)).trans ho4); have HL4 := Lib.hid ((((HL3.out.set 1 (.string tv)).set 2 (.string tsy)).set 3 (.int .i64 tn)).only ho4 (by omega)); have HZ4 := Lib.hid ((((HZ3.out.other (b' := w.heap.size + 1) (by omega) 1 (.string tv)).other (b' := w.heap.size + 1) (by omega) 2 (.string tsy)).other (b' := w.heap.size + 1) (by omega) 3 (.int .i64 tn)).only ho4 (by omega)); clear hr4 hd4 ho4)
      | (go_at_call 93; refine (HTM.out _ HP2.out).mono ?_; rintro e w3 ⟨rfl, hp3, ho3⟩; have HP3 := Lib.hid hp3; have HO3 := Lib.hid (HO2.out.trans ho3); have HL3 := Lib.hid (HL2.out.only ho3 (by omega)); have HZ3 := Lib.hid (HZ2.out.only ho3 (by omega)); obtain ⟨e0, e1, e2, e3, e4, e5⟩ := HL3.out.six; obtain ⟨f0, f1, f2, f3, f4, f5, f6⟩ := HL3.out.softs; have g2 := (HL3.out.set 1 (.string tv)).cell 2 _ rfl; have g3 := ((HL3.out.set 1 (.string tv)).set 2 (.string tsy)).cell 3 _ rfl; clear hp3 ho3)
      | (go_at_call 92; refine (HK.out _ (HP.out.on (HB.out _ _))).mono ?_; rintro e w2 ⟨rfl, hb2⟩; have HP2 := Lib.hid ((HP.out.on (HB.out _ _)).on hb2); have HO2 := Lib.hid ((Only.of (pb := rb) (HB.out _ _)).trans (Only.of hb2)); have HL2 := Lib.hid ((Bk.new2 w _ _ _).on hb2); have HZ2 := Lib.hid ((Bk.new1 w _ _ _).on hb2); clear hb2))
    obtain ⟨y0, y1, y2, y3, y4, y5⟩ := (load6 ((HZ5.out.other (b' := w.heap.size + 1) (by omega) 4 (.string nm)).other (b' := w.heap.size + 1) (by omega) 5 (.slice q' l.length c')) (.int .u8 kd) (.string tv) (.string tsy) (.int .i64 tn) (.string nm) (.slice q' l.length c')).six
    have hlt := HL4.out.lt
    refine bodyPost_ret (v := Lp.agg ⟨kd, ⟨tv, tsy, tn⟩, nm, q', c', l⟩) ?_ rfl ?_
    · simp [results, Tryz.results65, go_sem, y0, y1, y2, y3, y4, y5, Lp.agg]
    · exact rsaid_close (w2 := w4) (w3 := w5) (G := w.heap.size + 2) (L := ⟨kd, ⟨tv, tsy, tn⟩, nm, l⟩) (((setB (by omega) 4 _).trans (setB (by omega) 5 _)).trans (set6 (Nat.le_refl _) _ _ _ _ _ _)) ((((Above.refl _ _).set (by omega) 4 _).set (by omega) 5 _).set6 (by omega) _ _ _ _ _ _) (by omega) (by omega) hpb HO4.out HT5.out HF5.out HO5.out (HST.out _ _ _ _ _ _ HD4.out HS5.out)
  · obtain ⟨h1, hsy⟩ := hq1 h2
    subst h1
    clear hq1 h2
    go_enter Tryz.func65, Tryz.ntmps65
    go_wp2_with (first
      | (go_at_call 59; refine (HA.out _ _ _ _ HP6.out).mono ?_; rintro e w7 ⟨nm, q', l, c', rfl, ht7, hf7, ho7, hs7⟩; have HT7 := Lib.hid ht7; have HF7 := Lib.hid hf7; have HS7 := Lib.hid hs7; have HO7 := Lib.hid ho7; have HL7 := Lib.hid (HL6.out.only ho7 (by omega)); have HZ7 := Lib.hid (HZ6.out.only ho7 (by omega)); obtain ⟨d0, d1, d2, d3, d4, d5⟩ := ((HL7.out.set 4 (.string nm)).set 5 (.slice q' l.length c')).six; obtain ⟨i0, i1, i2, i3, i4, i5⟩ := HL7.out.six; have i5' := ((HL7.out.set 4 (.string nm))).cell 5 _ rfl; obtain ⟨r0, r1, r2, r3, r4, r5⟩ := ((HZ7.out.other (b' := w.heap.size + 1) (by omega) 4 (.string nm)).other (b' := w.heap.size + 1) (by omega) 5 (.slice q' l.length c')).six; obtain ⟨z0, z1, z2, z3, z4, z5, z6⟩ := HZ7.out.softs; obtain ⟨j0, j1, j2, j3, j4, j5, j6⟩ := HL7.out.softs; clear ht7 hf7 hs7 ho7)
      | (go_at_call 63; refine (HN.out _ (HP5.out.on' (set3o (by omega) _ _ _))).mono ?_; rintro e w6 ⟨rfl, ho6, k2, e2_, f2_, hr6, hd6⟩; have HP6 := Lib.hid hr6; have HD6 := Lib.hid hd6; have HO6 := Lib.hid ((HO5.out.add (set3o (by omega) _ _ _)).trans ho6); have HL6 := Lib.hid ((((HL5.out.set 1 (.string tv)).set 2 (.string tsy)).set 3 (.int .i64 tn)).only ho6 (by omega)); have HZ6 := Lib.hid ((((HZ5.out.other (b' := w.heap.size + 1) (by omega) 1 (.string tv)).other (b' := w.heap.size + 1) (by omega) 2 (.string tsy)).other (b' := w.heap.size + 1) (by omega) 3 (.int .i64 tn)).only ho6 (by omega)); clear hr6 hd6 ho6)
      | (go_at_call 93; refine (HTM.out _ HP4.out).mono ?_; rintro e w5 ⟨rfl, hp5, ho5⟩; have HP5 := Lib.hid hp5; have HO5 := Lib.hid (HO4.out.trans ho5); have HL5 := Lib.hid (HL4.out.only ho5 (by omega)); have HZ5 := Lib.hid (HZ4.out.only ho5 (by omega)); obtain ⟨e0, e1, e2, e3, e4, e5⟩ := HL5.out.six; obtain ⟨f0, f1, f2, f3, f4, f5, f6⟩ := HL5.out.softs; have g2 := (HL5.out.set 1 (.string tv)).cell 2 _ rfl; have g3 := ((HL5.out.set 1 (.string tv)).set 2 (.string tsy)).cell 3 _ rfl; clear hp5 ho5)
      | (go_at_call 60; refine (HS.out _ HP3.out).mono ?_; rintro e w4 ⟨rfl, hb4⟩; have HP4 := Lib.hid (HP3.out.on hb4); have HO4 := Lib.hid (HO3.out.trans (Only.of hb4)); have HL4 := Lib.hid (HL3.out.on hb4); have HZ4 := Lib.hid (HZ3.out.on hb4); clear hb4)
      | (go_at_call 92; refine (HK.out _ HP2.out).mono ?_; rintro e w3 ⟨rfl, hb3⟩; have HP3 := Lib.hid (HP2.out.on hb3); have HO3 := Lib.hid (HO2.out.trans (Only.of hb3)); have HL3 := Lib.hid (HL2.out.on hb3); have HZ3 := Lib.hid (HZ2.out.on hb3); clear hb3)
      | (go_at_call 92; refine (HK.out _ (HP.out.on (HB.out _ _))).mono ?_; rintro e w2 ⟨rfl, hb2⟩; have HP2 := Lib.hid ((HP.out.on (HB.out _ _)).on hb2); have HO2 := Lib.hid ((Only.of (pb := rb) (HB.out _ _)).trans (Only.of hb2)); have HL2 := Lib.hid ((Bk.new2 w _ _ _).on hb2); have HZ2 := Lib.hid ((Bk.new1 w _ _ _).on hb2); clear hb2))
    obtain ⟨y0, y1, y2, y3, y4, y5⟩ := (load6 ((HZ7.out.other (b' := w.heap.size + 1) (by omega) 4 (.string nm)).other (b' := w.heap.size + 1) (by omega) 5 (.slice q' l.length c')) (.int .u8 kd) (.string tv) (.string tsy) (.int .i64 tn) (.string nm) (.slice q' l.length c')).six
    have hlt := HL6.out.lt
    refine bodyPost_ret (v := Lp.agg ⟨kd, ⟨tv, tsy, tn⟩, nm, q', c', l⟩) ?_ rfl ?_
    · simp [results, Tryz.results65, go_sem, y0, y1, y2, y3, y4, y5, Lp.agg]
    · exact rsaid_close (w2 := w6) (w3 := w7) (G := w.heap.size + 2) (L := ⟨kd, ⟨tv, tsy, tn⟩, nm, l⟩) (((setB (by omega) 4 _).trans (setB (by omega) 5 _)).trans (set6 (Nat.le_refl _) _ _ _ _ _ _)) ((((Above.refl _ _).set (by omega) 4 _).set (by omega) 5 _).set6 (by omega) _ _ _ _ _ _) (by omega) (by omega) hpb HO6.out HT7.out HF7.out HO7.out (HST.out _ _ _ _ _ _ HD6.out HS7.out)

theorem rsaid_any (w : World) (rb : Nat) (s : ByteArray) (q : Option Addr) (c : Nat) (ts : List Tok) (k : Nat) (kd fr : Int) (h : Rr w rb s q c ts k 0 fr) :
    Calls Tryz.prog 65 #[.pointer (some ⟨rb, 0, none⟩), .int .u8 kd] w (RSaidPost w rb s q c ts fr (saidR s ts kd k)) := by
  by_cases hs : kindAt ts k = 2 ∨ (kindAt ts k = 1 ∧ textAt s ts (k + 1) = wdSays)
  · exact rsaid_who w rb s q c ts k kd fr h hs
  · exact rsaid_bare w rb s q c ts k kd fr h hs
end Go.Proofs.YtfmkfabbiifolaaGreatDoor
