/-
  Joined of: PrsM, ClkB, ClkC, ClkD.
-/
import Derived.Test.YtfmkfabbiifolaaGreatDoorJa13
import Derived.Test.YtfmkfabbiifolaaGreatDoorJa08
set_option linter.unusedVariables false
set_option linter.unusedSimpArgs false
/-
  Contract: parser.list, of literals.
-/
namespace Go.Proofs.YtfmkfabbiifolaaGreatDoor
open Go.RowKit

/-- how a list of literals ends -/
def ListPostL (w0 w1 : World) (B pb cb pp : Nat) (a0 a1 a2 a3 a4 a5 : Value) (s : ByteArray) (q : Option Addr) (c : Nat) (ts : List Tok) (R : Except (Int × Int) (List Lq × Nat)) (e : Ending) (w' : World) : Prop := match R with
  | .ok (l, k) => e = .returned (.tuple #[]) ∧ ∃ acP, acP.map Lp.q = l ∧ LI w0 w1 B pb cb pp a0 a1 a2 a3 a4 a5 s q c ts k acP w'
  | .error (n, p) => e = .panicked (faultV n p) ∧ Only pb w0 w'
theorem map_push {acP : List Lp} {ac : List Lq} {l : Lq} {q : Option Addr} {c : Nat} (h : acP.map Lp.q = ac) : (acP ++ [l.at q c]).map Lp.q = ac ++ [l] := by
  rw [List.map_append, h]; rfl

set_option maxHeartbeats 4000000 in
set_option maxRecDepth 100000 in
theorem listL_any (w0 w1 w : World) (B pb cb pp : Nat) (a0 a1 a2 a3 a4 a5 : Value) (s : ByteArray) (q : Option Addr) (c : Nat) (ts : List Tok) (k : Nat) (h : LI w0 w1 B pb cb pp a0 a1 a2 a3 a4 a5 s q c ts k [] w) :
    Calls Tryz.prog 112 #[.pointer (some ⟨pb, 0, none⟩), .int .i64 6, .func (.func 113) #[] #[.pointer (some ⟨cb, 0, none⟩), .pointer (some ⟨pp, 0, none⟩)]] w (ListPostL w0 w1 B pb cb pp a0 a1 a2 a3 a4 a5 s q c ts (listL s ts 5 k)) := by
  have HI := Lib.hid h
  have HO := Lib.hid (show ∀ wx kx ac, LI w0 w1 B pb cb pp a0 a1 a2 a3 a4 a5 s q c ts kx ac wx → ac.length ≤ 4096 → Calls Tryz.prog 113 #[.pointer (some ⟨cb, 0, none⟩), .pointer (some ⟨pp, 0, none⟩)] wx fun e w' =>
      (∃ n p, litR s ts kx = .error (n, p) ∧ e = .panicked (faultV n p) ∧ Only pb w0 w') ∨ (∃ l k' q' c', litR s ts kx = .ok (l, k') ∧ e = .returned (.tuple #[]) ∧ LI w0 w1 B pb cb pp a0 a1 a2 a3 a4 a5 s q c ts k' (ac ++ [l.at q' c']) w') from
    fun wx kx ac hx hl => oneLit_any w0 w1 wx B pb cb pp a0 a1 a2 a3 a4 a5 s q c ts kx ac hx hl)
  have HR := Lib.hid (show listL s ts 5 k = match litR s ts k with
      | .error e => .error e
      | .ok (x, k') => moreL s ts 5 [x] k' from rfl)
  generalize listL s ts 5 k = R at *
  clear h
  go_enter Tryz.func112, Tryz.ntmps112
  go_wp2_with (go_at_call 113; refine (HO.out _ _ _ HI.out (by decide)).mono ?_; rintro e w2 (⟨n, p, hr, rfl, ho⟩ | ⟨l, k', q', c', hr, rfl, hi1⟩); (exact ⟨rfl, by rw [HR.out, hr]; exact ⟨rfl, ho⟩⟩); have HR1 := Lib.hid (show R = moreL s ts 5 [l] k' by rw [HR.out, hr]); have HI1 := Lib.hid hi1; clear hi1 hr)
  have HTY := Lib.hid (show ∀ wx kx, Ps wx pb s q c ts kx → textAt s ts kx = comma → Calls Tryz.prog 111 #[.pointer (some ⟨pb, 0, none⟩), .string ⟨#[44]⟩] wx fun e w' => e = .returned (.bool true) ∧ Ps w' pb s q c ts (kx + 1) ∧ Only pb wx w' from fun wx kx hx ht => took_yes wx pb s q c ts kx _ hx ht (comma_lt ht))
  have HTN := Lib.hid (show ∀ wx kx, Ps wx pb s q c ts kx → ¬ textAt s ts kx = comma → Calls Tryz.prog 111 #[.pointer (some ⟨pb, 0, none⟩), .string ⟨#[44]⟩] wx fun e w' => e = .returned (.bool false) ∧ Below wx.heap.size wx w' from fun wx kx hx ht => took_no wx pb s q c ts kx _ hx ht)
  go_loopw [10] (fun i wr => ∃ (j kx : Nat) (ac : List Lq) (acP : List Lp), j ≤ 5 ∧ i = .int .i64 j ∧ acP.length ≤ j + 1 ∧ acP.map Lp.q = ac ∧ R = moreL s ts (5 - j) ac kx ∧ LI w0 w1 B pb cb pp a0 a1 a2 a3 a4 a5 s q c ts kx acP wr) (fun i _ => 5 - (intOf i).toNat)
  case atStart => exact ⟨0, k', [l], [l.at q' c'], by omega, rfl, Nat.le_refl _, rfl, HR1.out, HI1.out⟩
  case round =>
    obtain ⟨j, kx, ac, acP, hj, rfl, hal, hmap, hr, hai⟩ := hrel
    have HRX := Lib.hid hr
    have HAI := Lib.hid hai
    have HMP := Lib.hid hmap
    clear hr hai hmap
    by_cases hlt : j < 5
    · have HST := Lib.hid (show moreL s ts (5 - j) ac kx = if textAt s ts kx = comma then (match litR s ts (kx + 1) with
        | .error e => .error e
        | .ok (x, k') => moreL s ts (5 - (j + 1)) (ac ++ [x]) k') else .ok (ac, kx) by rw [show 5 - j = (5 - (j + 1)) + 1 by omega]; rfl)
      by_cases ht : textAt s ts kx = comma
      · have HTC := Lib.hid ht
        have HST2 := Lib.hid (HRX.out.trans (HST.out.trans (if_pos ht)))
        clear ht
        go_wp2_with (first
          | (go_at_call 111; refine (HTY.out _ _ HAI.out.ps HTC.out).mono ?_; rintro e w3 ⟨rfl, hp3, ho3⟩; have HI3 := Lib.hid (HAI.out.step ho3 hp3); clear hp3 ho3)
          | (go_at_call 113; refine (HO.out _ _ _ HI3.out (by omega)).mono ?_; rintro e w4 (⟨n, p, hr, rfl, ho⟩ | ⟨l4, k4, q4, c4, hr, rfl, hi4⟩); (exact ⟨rfl, by rw [HST2.out, hr]; exact ⟨rfl, ho⟩⟩); have HR4 := Lib.hid (show R = moreL s ts (5 - (j + 1)) (ac ++ [l4]) k4 by rw [HST2.out, hr]); have HI4 := Lib.hid hi4; clear hi4 hr))
        go_roundw
        case rel => exact ⟨j + 1, k4, _, _, by omega, by go_num, by rw [List.length_append]; simp; omega, map_push HMP.out, HR4.out, HI4.out⟩
        case measure => simp [intOf]; omega
      · have HTC := Lib.hid ht
        have HST2 := Lib.hid (HRX.out.trans (HST.out.trans (if_neg ht)))
        clear ht
        go_wp2_with (go_at_call 111; refine (HTN.out _ _ HAI.out.ps HTC.out).mono ?_; rintro e w3 ⟨rfl, hb3⟩)
        refine bodyPost_ret (results_none rfl _ _ _) rfl ?_
        rw [HST2.out]
        exact ⟨rfl, acP, HMP.out, HAI.out.on hb3⟩
    · have HST := Lib.hid (show moreL s ts (5 - j) ac kx = if textAt s ts kx = comma then .error (2, placeAt s ts kx) else .ok (ac, kx) by rw [show 5 - j = 0 by omega]; rfl)
      have HSP := Lib.hid (show ∀ wx, Ps wx pb s q c ts kx → Calls Tryz.prog 119 #[.pointer (some ⟨pb, 0, none⟩), .int .i64 0] wx fun e w' => e = .returned (.string (textAt s ts kx)) ∧ Below wx.heap.size wx w' from fun wx hx => spelt_any wx pb s q c ts kx 0 hx (by omega))
      by_cases ht : textAt s ts kx = comma
      · have HST2 := Lib.hid (HRX.out.trans (HST.out.trans (if_pos ht)))
        have HSP2 := Lib.hid (show ∀ wx, Ps wx pb s q c ts kx → Calls Tryz.prog 119 #[.pointer (some ⟨pb, 0, none⟩), .int .i64 0] wx fun e w' => e = .returned (.string ⟨#[44]⟩) ∧ Below wx.heap.size wx w' from fun wx hx => (HSP.out wx hx).mono fun e w' ⟨he, hb⟩ => ⟨by rw [he, ht]; rfl, hb⟩)
        clear ht
        go_wp2_with (first
          | (go_at_call 119; refine (HSP2.out _ HAI.out.ps).mono ?_; rintro e w3 ⟨rfl, hb3⟩; have HI3 := Lib.hid (HAI.out.on hb3); clear hb3)
          | (go_at_call 130; refine (giveUp_any _ _ _ _ _ _ _ _ HI3.out.ps).mono ?_; rintro e w4 ⟨rfl, hb4⟩))
        refine ⟨rfl, ?_⟩
        rw [HST2.out]
        exact ⟨rfl, (HI3.out.on hb4).only⟩
      · have HST2 := Lib.hid (HRX.out.trans (HST.out.trans (if_neg ht)))
        have hq := toList_beq (l := [44]) ht
        clear ht
        go_wp2_with (go_at_call 119; refine (HSP.out _ HAI.out.ps).mono ?_; rintro e w3 ⟨rfl, hb3⟩)
        go_end0
        rw [HST2.out]
        exact ⟨rfl, acP, HMP.out, HAI.out.on hb3⟩
end Go.Proofs.YtfmkfabbiifolaaGreatDoor

/-
  Contracts: clause.terms, clause.speaker.
-/
namespace Go.Proofs.YtfmkfabbiifolaaGreatDoor
open Go.RowKit

def Tm.ok (t : Tm) : Bool := termB t.v t.s t.n
theorem all_step {α : Type} (f : α → Bool) (l : List α) (k : Nat) (h : k < l.length) : (l.drop k).all f = (f l[k] && (l.drop (k + 1)).all f) := by
  rw [List.drop_eq_getElem_cons h]; rfl
theorem all_end {α : Type} (f : α → Bool) (l : List α) (k : Nat) (h : l.length ≤ k) : (l.drop k).all f = true := by
  rw [List.drop_eq_nil_of_le h]; rfl

set_option maxHeartbeats 2000000 in
set_option maxRecDepth 100000 in
theorem terms_any (q : Option Addr) (l : List Tm) (c : Nat) (w : World) (hl : Tms w w.heap.size q l) (hm : l.length ≤ maxLen) (hz : ∀ t ∈ l, t.Sz) (he : Env w) :
    Calls Tryz.prog 106 #[.slice q l.length c] w fun e w' => e = .returned (.bool (l.all Tm.ok)) ∧ Below w.heap.size w w' := by
  unfold maxLen at hm
  have HL := Lib.hid hl
  have HZ := Lib.hid hz
  have HE := Lib.hid he
  clear hl hz he
  go_enter Tryz.func106, Tryz.ntmps106
  go_wp2_with fail
  go_loopw [7] (fun i wr => ∃ k : Nat, k ≤ l.length ∧ i = .int .i64 k ∧ l.all Tm.ok = (l.drop k).all Tm.ok ∧ Below w.heap.size w wr) (fun i _ => l.length - (intOf i).toNat)
  case atStart => exact ⟨0, Nat.zero_le _, rfl, rfl, Below.refl _ _⟩
  case round =>
    obtain ⟨k, hk, rfl, ha, hbw⟩ := hrel
    have HA := Lib.hid ha
    have HBW := Lib.hid hbw
    clear ha hbw
    by_cases hlt : k < l.length
    · obtain ⟨b, o, rfl, hb, x0, x1, x2⟩ := rdM_at (HL.out.below HBW.out (Nat.le_refl _)) k hlt
      have hb' : b < wr.heap.size := Nat.lt_of_lt_of_le hb HBW.out.size
      have HS := Lib.hid (all_step Tm.ok l k hlt)
      have HN := Lib.hid (show ∀ o, Below w.heap.size w (wr.alloc o) from fun o => HBW.out.alloc HBW.out.size o)
      have HT := Lib.hid (show ∀ o, Calls Tryz.prog 129 #[.agg #[.string l[k].v, .string l[k].s, .int .i64 l[k].n]] (wr.alloc o) fun e w' => e = .returned (.bool l[k].ok) ∧ Below (wr.alloc o).heap.size (wr.alloc o) w' from fun o => term_any _ _ _ _ (HZ.out _ (List.getElem_mem hlt)).v (Nat.le_trans (HZ.out _ (List.getElem_mem hlt)).s (by decide)) (HE.out.on (HN.out _)))
      cases hq : l[k].ok with
      | true =>
        rw [hq] at HT HS
        go_wp2_with (go_at_call 129; refine (HT.out _).mono ?_; rintro e w1 ⟨rfl, hb1⟩)
        have HB1 := Lib.hid ((HN.out _).trans (hb1.mono (HN.out _).size))
        go_roundw
        case rel => exact ⟨k + 1, by omega, by go_num, by rw [HA.out, HS.out]; rfl, HB1.out⟩
        case measure => simp [intOf]; omega
      | false =>
        rw [hq] at HT HS
        go_wp2_with (go_at_call 129; refine (HT.out _).mono ?_; rintro e w1 ⟨rfl, hb1⟩)
        go_ret
        exact ⟨by rw [HA.out, HS.out]; rfl, (HN.out _).trans (hb1.mono (HN.out _).size)⟩
    · have HS := Lib.hid (all_end Tm.ok l k (by omega))
      go_wp2_with fail
      go_ret
      exact ⟨by rw [HA.out, HS.out]; rfl, HBW.out⟩

def Tm.none (t : Tm) : Bool := t.v.toList.isEmpty && (t.s.toList.isEmpty && t.n == 0)
/-- may a term be a speaker, or stand for none -/
def Tm.spk (t : Tm) : Bool := t.none || (t.ok && (!t.v.toList.isEmpty || !t.s.toList.isEmpty))

set_option maxHeartbeats 2000000 in
theorem speaker_any (t : Tm) (w : World) (hz : t.Sz) (he : Env w) :
    Calls Tryz.prog 105 #[.agg #[.string t.v, .string t.s, .int .i64 t.n]] w fun e w' => e = .returned (.bool t.spk) ∧ Below w.heap.size w w' := by
  have HT := Lib.hid (show ∀ o, Calls Tryz.prog 129 #[.agg #[.string t.v, .string t.s, .int .i64 t.n]] (w.alloc o) fun e w' => e = .returned (.bool t.ok) ∧ Below (w.alloc o).heap.size (w.alloc o) w' from fun o => term_any _ _ _ _ hz.v (Nat.le_trans hz.s (by decide)) (he.on (below1 w o)))
  have HB := Lib.hid (below1 w)
  clear hz he
  have HS := Lib.hid (show t.spk = (t.none || (t.ok && (!t.v.toList.isEmpty || !t.s.toList.isEmpty))) from rfl)
  have HN := Lib.hid (show t.none = (t.v.toList.isEmpty && (t.s.toList.isEmpty && t.n == 0)) from rfl)
  generalize t.spk = sp at *
  generalize t.none = no at *
  generalize t.ok = ok at *
  obtain ⟨v, s, n⟩ := t
  simp only at HS HN HT ⊢
  cases h0 : v.toList.isEmpty with
  | false =>
    cases ok
    all_goals
      go_enter Tryz.func105, Tryz.ntmps105
      go_wp2_with (go_at_call 129; refine (HT.out _).mono ?_; rintro e w1 ⟨rfl, hb1⟩; have e0 := box_cell hb1 0 _ rfl; have e1 := box_cell hb1 1 _ rfl; have e2 := box_cell hb1 2 _ rfl)
      go_ret
      exact ⟨by rw [HS.out, HN.out, h0]; rfl, (HB.out _).trans (hb1.mono (HB.out _).size)⟩
  | true =>
    cases h1 : s.toList.isEmpty with
    | false =>
      cases ok
      all_goals
        go_enter Tryz.func105, Tryz.ntmps105
        go_wp2_with (go_at_call 129; refine (HT.out _).mono ?_; rintro e w1 ⟨rfl, hb1⟩; have e0 := box_cell hb1 0 _ rfl; have e1 := box_cell hb1 1 _ rfl; have e2 := box_cell hb1 2 _ rfl)
        go_ret
        exact ⟨by rw [HS.out, HN.out, h0, h1]; rfl, (HB.out _).trans (hb1.mono (HB.out _).size)⟩
    | true =>
      cases h2 : (n == 0) with
      | true =>
        go_enter Tryz.func105, Tryz.ntmps105
        go_wp2_with fail
        go_ret
        exact ⟨by rw [HS.out, HN.out, h0, h1, h2]; rfl, HB.out _⟩
      | false =>
        cases ok
        all_goals
          go_enter Tryz.func105, Tryz.ntmps105
          go_wp2_with (go_at_call 129; refine (HT.out _).mono ?_; rintro e w1 ⟨rfl, hb1⟩; have e0 := box_cell hb1 0 _ rfl; have e1 := box_cell hb1 1 _ rfl; have e2 := box_cell hb1 2 _ rfl)
          go_ret
          exact ⟨by rw [HS.out, HN.out, h0, h1, h2]; rfl, (HB.out _).trans (hb1.mono (HB.out _).size)⟩

end Go.Proofs.YtfmkfabbiifolaaGreatDoor

/-
  Contracts: clause.said, clause.compared, clause.literal, clause.CheckLit.
-/
namespace Go.Proofs.YtfmkfabbiifolaaGreatDoor
open Go.RowKit

/-- is a literal that of a speaker and an atom -/
def Lp.said (l : Lp) : Bool := l.who.spk && (nameB l.pred && (decide (l.args.length ≤ 4) && l.args.all Tm.ok))
/-- is a literal that of two terms and nothing else -/
def Lp.comp (l : Lp) : Bool := l.who.none && (l.pred.toList.isEmpty && (decide (l.args.length = 2) && l.args.all Tm.ok))
def Lp.lit (l : Lp) : Bool := if l.kind == 1 || l.kind == 2 then l.said else if l.kind == 3 || l.kind == 4 then l.comp else false

set_option maxHeartbeats 4000000 in
set_option maxRecDepth 100000 in
theorem said_any (l : Lp) (w : World) (hi : l.In w w.heap.size) (he : Env w) :
    Calls Tryz.prog 79 #[l.agg] w fun e w' => e = .returned (.bool l.said) ∧ Below w.heap.size w w' := by
  have HB := Lib.hid (below1 w)
  have HP := Lib.hid (show ∀ o, Calls Tryz.prog 105 #[.agg #[.string l.who.v, .string l.who.s, .int .i64 l.who.n]] (w.alloc o) fun e w' => e = .returned (.bool l.who.spk) ∧ Below (w.alloc o).heap.size (w.alloc o) w' from fun o => speaker_any l.who _ hi.who (he.on (below1 w o)))
  have HM := Lib.hid (fun wx => name_any l.pred wx (Nat.le_trans hi.pred (by decide)))
  have HT := Lib.hid (show ∀ wx, Below w.heap.size w wx → Calls Tryz.prog 106 #[.slice l.ptr l.args.length l.cap] wx fun e w' => e = .returned (.bool (l.args.all Tm.ok)) ∧ Below wx.heap.size wx w' from fun wx hb => terms_any _ _ _ _ ((hi.args.below hb (Nat.le_refl _)).mono hb.size) (Nat.le_trans hi.len (by decide)) hi.sz (he.on hb))
  have hlen := hi.len
  clear hi he
  have HS := Lib.hid (show l.said = (l.who.spk && (nameB l.pred && (decide (l.args.length ≤ 4) && l.args.all Tm.ok))) from rfl)
  unfold Lp.agg
  generalize l.said = sd at *
  generalize l.who.spk = sp at *
  generalize l.args.all Tm.ok = al at *
  generalize nameB l.pred = nm at *
  obtain ⟨kd, ⟨v, s, n⟩, p, q, c, xs⟩ := l
  simp only at HS HP HM HT hlen ⊢
  generalize xs.length = m at *
  cases sp with
  | false =>
    go_enter Tryz.func79, Tryz.ntmps79
    go_wp2_with (go_at_call 105; refine (HP.out _).mono ?_; rintro e w1 ⟨rfl, hb1⟩)
    go_ret
    exact ⟨by rw [HS.out]; rfl, (HB.out _).trans (hb1.mono (HB.out _).size)⟩
  | true =>
    cases nm with
    | false =>
      go_enter Tryz.func79, Tryz.ntmps79
      go_wp2_with (first
        | (go_at_call 105; refine (HP.out _).mono ?_; rintro e w1 ⟨rfl, hb1⟩; have e4 := box_cell hb1 4 _ rfl; have e5 := box_cell hb1 5 _ rfl)
        | (go_at_call 38; refine (HM.out _).mono ?_; rintro e w2 ⟨rfl, rfl⟩))
      go_ret
      exact ⟨by rw [HS.out]; rfl, (HB.out _).trans (hb1.mono (HB.out _).size)⟩
    | true =>
      by_cases hm : m ≤ 4
      · have HD := Lib.hid (show decide (m ≤ 4) = true by simp [hm])
        have hm' : (m : Int) ≤ 4 := by omega
        go_enter Tryz.func79, Tryz.ntmps79
        go_wp2_with (first
          | (go_at_call 105; refine (HP.out _).mono ?_; rintro e w1 ⟨rfl, hb1⟩; have e4 := box_cell hb1 4 _ rfl; have e5 := box_cell hb1 5 _ rfl; have hb2 := (HB.out _).trans (hb1.mono (HB.out _).size))
          | (go_at_call 38; refine (HM.out _).mono ?_; rintro e w2 ⟨rfl, rfl⟩)
          | (go_at_call 106; refine (HT.out _ hb2).mono ?_; rintro e w3 ⟨rfl, hb3⟩))
        go_ret
        exact ⟨by rw [HS.out, HD.out]; rfl, hb2.trans (hb3.mono hb2.size)⟩
      · have HD := Lib.hid (show decide (m ≤ 4) = false by simp [hm])
        have hm' : ¬ (m : Int) ≤ 4 := by omega
        go_enter Tryz.func79, Tryz.ntmps79
        go_wp2_with (first
          | (go_at_call 105; refine (HP.out _).mono ?_; rintro e w1 ⟨rfl, hb1⟩; have e4 := box_cell hb1 4 _ rfl; have e5 := box_cell hb1 5 _ rfl; have hb2 := (HB.out _).trans (hb1.mono (HB.out _).size))
          | (go_at_call 38; refine (HM.out _).mono ?_; rintro e w2 ⟨rfl, rfl⟩))
        go_ret
        exact ⟨by rw [HS.out, HD.out]; rfl, hb2⟩

set_option maxHeartbeats 4000000 in
set_option maxRecDepth 100000 in
theorem compared_any (l : Lp) (w : World) (hi : l.In w w.heap.size) (he : Env w) :
    Calls Tryz.prog 104 #[l.agg] w fun e w' => e = .returned (.bool l.comp) ∧ Below w.heap.size w w' := by
  have HB := Lib.hid (below1 w)
  have HT := Lib.hid (show ∀ o, Calls Tryz.prog 106 #[.slice l.ptr l.args.length l.cap] (w.alloc o) fun e w' => e = .returned (.bool (l.args.all Tm.ok)) ∧ Below (w.alloc o).heap.size (w.alloc o) w' from fun o => terms_any _ _ _ _ ((hi.args.below (below1 w o) (Nat.le_refl _)).mono (below1 w o).size) (Nat.le_trans hi.len (by decide)) hi.sz (he.on (below1 w o)))
  have hlen := hi.len
  clear hi he
  have HS := Lib.hid (show l.comp = (l.who.none && (l.pred.toList.isEmpty && (decide (l.args.length = 2) && l.args.all Tm.ok))) from rfl)
  unfold Lp.agg
  generalize l.comp = sd at *
  generalize l.args.all Tm.ok = al at *
  obtain ⟨kd, ⟨v, s, n⟩, p, q, c, xs⟩ := l
  simp only at HS HT hlen ⊢
  generalize xs.length = m at *
  cases h0 : v.toList.isEmpty with
  | false =>
    go_enter Tryz.func104, Tryz.ntmps104
    go_wp2_with fail
    go_ret
    exact ⟨by rw [HS.out]; simp [Tm.none, h0], HB.out _⟩
  | true =>
    cases h1 : s.toList.isEmpty with
    | false =>
      go_enter Tryz.func104, Tryz.ntmps104
      go_wp2_with fail
      go_ret
      exact ⟨by rw [HS.out]; simp [Tm.none, h0, h1], HB.out _⟩
    | true =>
      cases h2 : (n == 0) with
      | false =>
        go_enter Tryz.func104, Tryz.ntmps104
        go_wp2_with fail
        go_ret
        exact ⟨by rw [HS.out]; simp [Tm.none, h0, h1, h2], HB.out _⟩
      | true =>
        have HN := Lib.hid (show Tm.none ⟨v, s, n⟩ = true by simp [Tm.none, h0, h1, h2])
        cases h3 : p.toList.isEmpty with
        | false =>
          go_enter Tryz.func104, Tryz.ntmps104
          go_wp2_with fail
          go_ret
          exact ⟨by rw [HS.out]; simp [Tm.none, h0, h1, h2, h3], HB.out _⟩
        | true =>
          by_cases hm : m = 2
          · subst hm
            go_enter Tryz.func104, Tryz.ntmps104
            go_wp2_with (go_at_call 106; refine (HT.out _).mono ?_; rintro e w1 ⟨rfl, hb1⟩)
            go_ret
            exact ⟨by rw [HS.out, HN.out, h3]; rfl, (HB.out _).trans (hb1.mono (HB.out _).size)⟩
          · have HD := Lib.hid (show decide (m = 2) = false by simp [hm])
            have hm' : ((m : Int) == 2) = false := by simp; omega
            go_enter Tryz.func104, Tryz.ntmps104
            go_wp2_with fail
            go_ret
            exact ⟨by rw [HS.out, HN.out, h3, HD.out]; rfl, HB.out _⟩

set_option maxHeartbeats 4000000 in
set_option maxRecDepth 100000 in
theorem literal_any (l : Lp) (w : World) (hi : l.In w w.heap.size) (he : Env w) :
    Calls Tryz.prog 78 #[l.agg] w fun e w' => e = .returned (.bool l.lit) ∧ Below w.heap.size w w' := by
  have HB := Lib.hid (below1 w)
  have HI := Lib.hid (show ∀ o, l.In (w.alloc o) (w.alloc o).heap.size from fun o => ⟨(hi.args.below (below1 w o) (Nat.le_refl _)).mono (below1 w o).size, hi.len, hi.who, hi.pred, hi.sz⟩)
  have HSD := Lib.hid (show ∀ o, Calls Tryz.prog 79 #[l.agg] (w.alloc o) fun e w' => e = .returned (.bool l.said) ∧ Below (w.alloc o).heap.size (w.alloc o) w' from fun o => said_any l _ (HI.out o) (he.on (below1 w o)))
  have HCM := Lib.hid (show ∀ o, Calls Tryz.prog 104 #[l.agg] (w.alloc o) fun e w' => e = .returned (.bool l.comp) ∧ Below (w.alloc o).heap.size (w.alloc o) w' from fun o => compared_any l _ (HI.out o) (he.on (below1 w o)))
  clear hi he HI
  have HS := Lib.hid (show l.lit = (if l.kind == 1 || l.kind == 2 then l.said else if l.kind == 3 || l.kind == 4 then l.comp else false) from rfl)
  unfold Lp.agg at *
  generalize l.lit = sd at *
  generalize l.said = sa at *
  generalize l.comp = co at *
  obtain ⟨kd, ⟨v, s, n⟩, p, q, c, xs⟩ := l
  simp only at HS HSD HCM ⊢
  generalize xs.length = m at *
  cases h1 : (kd == 1) with
  | true =>
    go_enter Tryz.func78, Tryz.ntmps78
    go_wp2_with (go_at_call 79; refine (HSD.out _).mono ?_; rintro e w1 ⟨rfl, hb1⟩)
    go_ret
    exact ⟨by rw [HS.out, h1]; rfl, (HB.out _).trans (hb1.mono (HB.out _).size)⟩
  | false =>
    cases h2 : (kd == 2) with
    | true =>
      go_enter Tryz.func78, Tryz.ntmps78
      go_wp2_with (go_at_call 79; refine (HSD.out _).mono ?_; rintro e w1 ⟨rfl, hb1⟩)
      go_ret
      exact ⟨by rw [HS.out, h1, h2]; rfl, (HB.out _).trans (hb1.mono (HB.out _).size)⟩
    | false =>
      cases h3 : (kd == 3) with
      | true =>
        go_enter Tryz.func78, Tryz.ntmps78
        go_wp2_with (go_at_call 104; refine (HCM.out _).mono ?_; rintro e w1 ⟨rfl, hb1⟩)
        go_ret
        exact ⟨by rw [HS.out, h1, h2, h3]; rfl, (HB.out _).trans (hb1.mono (HB.out _).size)⟩
      | false =>
        cases h4 : (kd == 4) with
        | true =>
          go_enter Tryz.func78, Tryz.ntmps78
          go_wp2_with (go_at_call 104; refine (HCM.out _).mono ?_; rintro e w1 ⟨rfl, hb1⟩)
          go_ret
          exact ⟨by rw [HS.out, h1, h2, h3, h4]; rfl, (HB.out _).trans (hb1.mono (HB.out _).size)⟩
        | false =>
          go_enter Tryz.func78, Tryz.ntmps78
          go_wp2_with fail
          go_ret
          exact ⟨by rw [HS.out, h1, h2, h3, h4]; rfl, HB.out _⟩

/-- may a literal be asked for -/
def Lp.ask (l : Lp) : Bool := l.kind == 1 && l.said
set_option maxHeartbeats 4000000 in
set_option maxRecDepth 100000 in
theorem checkLit_any (l : Lp) (w : World) (hi : l.In w w.heap.size) (he : Env w) :
    Calls Tryz.prog 41 #[l.agg] w fun e w' => e = .returned (.bool l.ask) ∧ Below w.heap.size w w' := by
  have HB := Lib.hid (below1 w)
  have HSD := Lib.hid (show ∀ o, Calls Tryz.prog 79 #[l.agg] (w.alloc o) fun e w' => e = .returned (.bool l.said) ∧ Below (w.alloc o).heap.size (w.alloc o) w' from fun o => said_any l _ ⟨(hi.args.below (below1 w o) (Nat.le_refl _)).mono (below1 w o).size, hi.len, hi.who, hi.pred, hi.sz⟩ (he.on (below1 w o)))
  clear hi he
  have HS := Lib.hid (show l.ask = (l.kind == 1 && l.said) from rfl)
  unfold Lp.agg at *
  generalize l.ask = sd at *
  generalize l.said = sa at *
  obtain ⟨kd, ⟨v, s, n⟩, p, q, c, xs⟩ := l
  simp only at HS HSD ⊢
  generalize xs.length = m at *
  cases h1 : (kd == 1) with
  | true =>
    go_enter Tryz.func41, Tryz.ntmps41
    go_wp2_with (go_at_call 79; refine (HSD.out _).mono ?_; rintro e w1 ⟨rfl, hb1⟩)
    go_ret
    exact ⟨by rw [HS.out, h1]; rfl, (HB.out _).trans (hb1.mono (HB.out _).size)⟩
  | false =>
    go_enter Tryz.func41, Tryz.ntmps41
    go_wp2_with fail
    go_ret
    exact ⟨by rw [HS.out, h1]; rfl, HB.out _⟩

end Go.Proofs.YtfmkfabbiifolaaGreatDoor

/-
  Contract: clause.Check.
-/
namespace Go.Proofs.YtfmkfabbiifolaaGreatDoor
open Go.RowKit

/-- A clause; where its literals lie. -/
structure Kp where
  head : Lp
  ptr : Option Addr
  cap : Nat
  body : List Lp
def Kp.agg (c : Kp) : Value := .agg #[.int .u8 c.head.kind, .string c.head.who.v, .string c.head.who.s, .int .i64 c.head.who.n, .string c.head.pred, .slice c.head.ptr c.head.args.length c.head.cap, .slice c.ptr c.body.length c.cap]
structure Kp.In (c : Kp) (w : World) (B : Nat) : Prop where
  head : c.head.In w B
  body : Lits w B c.ptr c.body
theorem Lp.In.mono {l : Lp} {w : World} {B B' : Nat} (h : l.In w B) (hB : B ≤ B') : l.In w B' := ⟨h.args.mono hB, h.len, h.who, h.pred, h.sz⟩
theorem Lits.mono {p : Option Addr} {ls : List Lp} {w : World} {B B' : Nat} (h : Lits w B p ls) (hB : B ≤ B') : Lits w B' p ls := ⟨h.rd.mono hB, fun l hl => (h.each l hl).mono hB, h.len⟩
theorem Kp.In.on {c : Kp} {w w' : World} {B B' : Nat} (h : c.In w B) (hb : Below B' w w') (hB : B ≤ B') : c.In w' B := ⟨h.head.on hb hB, h.body.on hb hB⟩
theorem Kp.In.mono {c : Kp} {w : World} {B B' : Nat} (h : c.In w B) (hB : B ≤ B') : c.In w B' := ⟨h.head.mono hB, h.body.mono hB⟩
theorem Kp.In.grow {c : Kp} {w w' : World} (h : c.In w w.heap.size) (hb : Below w.heap.size w w') : c.In w' w'.heap.size := (h.on hb (Nat.le_refl _)).mono hb.size
theorem Lp.In.grow {c : Lp} {w w' : World} (h : c.In w w.heap.size) (hb : Below w.heap.size w w') : c.In w' w'.heap.size := (h.on hb (Nat.le_refl _)).mono hb.size
/-- may a clause be -/
def Kp.check (c : Kp) : Bool := decide (c.body.length ≤ 6) && (c.head.who.none && (c.head.ask && c.body.all Lp.lit))

set_option maxHeartbeats 8000000 in
set_option maxRecDepth 100000 in
theorem check_any (c : Kp) (w : World) (hi : c.In w w.heap.size) (he : Env w) :
    Calls Tryz.prog 40 #[c.agg] w fun e w' => e = .returned (.bool c.check) ∧ Below w.heap.size w w' := by
  have HB := Lib.hid (below1 w)
  have HA := Lib.hid (show ∀ o, Calls Tryz.prog 41 #[c.head.agg] (w.alloc o) fun e w' => e = .returned (.bool c.head.ask) ∧ Below (w.alloc o).heap.size (w.alloc o) w' from fun o => checkLit_any c.head _ (hi.head.grow (below1 w o)) (he.on (below1 w o)))
  have HL := Lib.hid hi.body
  have HE := Lib.hid he
  have hlen := hi.body.len
  clear hi he
  have HS := Lib.hid (show c.check = (decide (c.body.length ≤ 6) && (c.head.who.none && (c.head.ask && c.body.all Lp.lit))) from rfl)
  unfold Kp.agg
  unfold Lp.agg at HA
  generalize c.check = ck at *
  generalize c.head.ask = ak at *
  obtain ⟨⟨kd, ⟨v, s, n⟩, p, hq, hc, xs⟩, q, cc, bs⟩ := c
  simp only at HS HA HL hlen ⊢
  generalize xs.length = m at *
  by_cases h6 : 6 < bs.length
  · have h6' : (6 : Int) < (bs.length : Int) := by omega
    have HD := Lib.hid (show decide (bs.length ≤ 6) = false by simp; omega)
    clear HL HE
    go_enter Tryz.func40, Tryz.ntmps40
    go_wp2_with fail
    go_ret
    exact ⟨by rw [HS.out, HD.out]; rfl, HB.out _⟩
  have h6' : ¬ (6 : Int) < (bs.length : Int) := by omega
  have HD := Lib.hid (show decide (bs.length ≤ 6) = true by simp; omega)
  cases h0 : v.toList.isEmpty with
  | false =>
    clear HL HE
    go_enter Tryz.func40, Tryz.ntmps40
    go_wp2_with fail
    go_ret
    exact ⟨by rw [HS.out]; simp [Tm.none, h0], HB.out _⟩
  | true =>
    cases h1 : s.toList.isEmpty with
    | false =>
      clear HL HE
      go_enter Tryz.func40, Tryz.ntmps40
      go_wp2_with fail
      go_ret
      exact ⟨by rw [HS.out]; simp [Tm.none, h0, h1], HB.out _⟩
    | true =>
      cases h2 : (n == 0) with
      | false =>
        clear HL HE
        go_enter Tryz.func40, Tryz.ntmps40
        go_wp2_with fail
        go_ret
        exact ⟨by rw [HS.out]; simp [Tm.none, h0, h1, h2], HB.out _⟩
      | true =>
        have HN := Lib.hid (show Tm.none ⟨v, s, n⟩ = true by simp [Tm.none, h0, h1, h2])
        cases ak with
        | false =>
          clear HL HE
          go_enter Tryz.func40, Tryz.ntmps40
          go_wp2_with (go_at_call 41; refine (HA.out _).mono ?_; rintro e w1 ⟨rfl, hb1⟩)
          go_ret
          exact ⟨by rw [HS.out, HD.out, HN.out]; rfl, (HB.out _).trans (hb1.mono (HB.out _).size)⟩
        | true =>
          go_enter Tryz.func40, Tryz.ntmps40
          go_wp2_with (go_at_call 41; refine (HA.out _).mono ?_; rintro e w1 ⟨rfl, hb1⟩; have e6 := box_cell hb1 6 _ rfl; have HB1 := Lib.hid ((HB.out _).trans (hb1.mono (HB.out _).size)); clear hb1)
          go_loopw [25] (fun i wr => ∃ k : Nat, k ≤ bs.length ∧ i = .int .i64 k ∧ bs.all Lp.lit = (bs.drop k).all Lp.lit ∧ Below w.heap.size w wr) (fun i _ => bs.length - (intOf i).toNat)
          case atStart => exact ⟨0, Nat.zero_le _, rfl, rfl, HB1.out⟩
          case round =>
            obtain ⟨k, hk, rfl, ha, hbw⟩ := hrel
            have HA := Lib.hid ha
            have HBW := Lib.hid hbw
            clear ha hbw
            by_cases hlt : k < bs.length
            · obtain ⟨b, o, rfl, hb, x0, x1, x2, x3, x4, x5⟩ := rdL_at (HL.out.on HBW.out (Nat.le_refl _)).rd k hlt
              have hb' : b < wr.heap.size := Nat.lt_of_lt_of_le hb HBW.out.size
              have HS2 := Lib.hid (all_step Lp.lit bs k hlt)
              have HN2 := Lib.hid (show ∀ o, Below w.heap.size w (wr.alloc o) from fun o => HBW.out.alloc HBW.out.size o)
              have HT := Lib.hid (show ∀ o, Calls Tryz.prog 78 #[.agg #[.int .u8 bs[k].kind, .string bs[k].who.v, .string bs[k].who.s, .int .i64 bs[k].who.n, .string bs[k].pred, .slice bs[k].ptr bs[k].args.length bs[k].cap]] (wr.alloc o) fun e w' => e = .returned (.bool bs[k].lit) ∧ Below (wr.alloc o).heap.size (wr.alloc o) w' from fun o => literal_any bs[k] _ (((HL.out.each _ (List.getElem_mem hlt)).on (HN2.out o) (Nat.le_refl _)).mono (HN2.out o).size) (HE.out.on (HN2.out _)))
              cases hq2 : bs[k].lit with
              | true =>
                rw [hq2] at HT HS2
                go_wp2_with (go_at_call 78; refine (HT.out _).mono ?_; rintro e w1 ⟨rfl, hb1⟩)
                have HB2 := Lib.hid ((HN2.out _).trans (hb1.mono (HN2.out _).size))
                go_roundw
                case rel => exact ⟨k + 1, by omega, by go_num, by rw [HA.out, HS2.out]; rfl, HB2.out⟩
                case measure => simp [intOf]; omega
              | false =>
                rw [hq2] at HT HS2
                go_wp2_with (go_at_call 78; refine (HT.out _).mono ?_; rintro e w1 ⟨rfl, hb1⟩)
                go_ret
                exact ⟨by rw [HS.out, HD.out, HN.out, HA.out, HS2.out]; rfl, (HN2.out _).trans (hb1.mono (HN2.out _).size)⟩
            · have HS2 := Lib.hid (all_end Lp.lit bs k (by omega))
              go_wp2_with fail
              go_ret
              exact ⟨by rw [HS.out, HD.out, HN.out, HA.out, HS2.out]; rfl, HBW.out⟩

end Go.Proofs.YtfmkfabbiifolaaGreatDoor
