/-
  Joined of: FixB, FixC, FrmA.
-/
import Derived.Test.YtnjdganikeganaaGreatDoorJa21
import Derived.Test.YtnjdganikeganaaGreatDoorTie
import Derived.Test.YtnjdganikeganaaGreatDoorCards
import Derived.ProofKit
import Derived.LaidMore
import Derived.OpenShut
import Derived.ShutString
import Derived.Stop.Joined
import Derived.Stop.LaidErr
import Derived.SevenTiedAt
import Derived.Lib.LaidTab
set_option linter.unusedVariables false
set_option linter.unusedSimpArgs false
/-
  Plain: what is read is small; what is small may be checked and written.
-/
namespace Go.Proofs.YtnjdganikeganaaGreatDoor
open Go.RowKit

structure Tm.Sm (t : Tm) : Prop where
  sz : t.Sz
  nb : t.Nb
structure Lq.Sm (l : Lq) : Prop where
  who : l.who.Sm
  pred : l.pred.size ≤ 4096
  args : ∀ t ∈ l.args, t.Sm
  len : l.args.length ≤ 1000
structure Cq.Sm (c : Cq) : Prop where
  head : c.head.Sm
  body : ∀ l ∈ c.body, l.Sm
  len : c.body.length ≤ 1000
theorem tmZ_sm : tmZ.Sm := ⟨⟨by decide, by decide⟩, by unfold Tm.Nb tmZ; decide⟩
theorem readP_sm (x : ByteArray) (h : x.size ≤ 4096) : (readP x).1.size ≤ 4096 ∧ -9223372036854775808 ≤ (readP x).2 ∧ (readP x).2 ≤ 9223372036854775807 := by
  unfold readP
  split
  · exact ⟨h, (by decide : (-9223372036854775808 : Int) ≤ 0), (by decide : (0 : Int) ≤ 9223372036854775807)⟩
  · cases hn : readN x with
    | none => exact ⟨Nat.zero_le _, (by decide : (-9223372036854775808 : Int) ≤ 0), (by decide : (0 : Int) ≤ 9223372036854775807)⟩
    | some v =>
      unfold readN at hn
      split at hn
      · rename_i v' hp
        split at hn
        · injection hn with hn
          subst hn
          have := parseIntB_bd _ _ hp
          exact ⟨Nat.zero_le _, this.1, this.2⟩
        · cases hn
      · cases hn
theorem termR_sm {s : ByteArray} {ts : List Tok} {k : Nat} (h : s.size ≤ 4096) : (termR s ts k).Sm := by
  have ht := textAt_size (s := s) ts k h
  have hr := readP_sm _ ht
  unfold termR
  split
  · exact ⟨⟨Nat.le_trans ht (by decide), Nat.zero_le _⟩, ⟨(by decide : (-9223372036854775808 : Int) ≤ 0), (by decide : (0 : Int) ≤ 9223372036854775807)⟩⟩
  · exact ⟨⟨Nat.zero_le _, Nat.le_trans hr.1 (by decide)⟩, hr.2⟩
theorem moreT_sm {s : ByteArray} {ts : List Tok} (h : s.size ≤ 4096) : ∀ (n : Nat) (acc : List Tm) (k : Nat) (l : List Tm) (k' : Nat), (∀ t ∈ acc, t.Sm) → moreT s ts n acc k = .ok (l, k') → (∀ t ∈ l, t.Sm) ∧ l.length ≤ acc.length + n
  | 0, acc, k, l, k', ha, hr => by
    unfold moreT at hr
    split at hr
    · cases hr
    · injection hr with hr; injection hr with h1 h2; subst h1; exact ⟨ha, by omega⟩
  | n + 1, acc, k, l, k', ha, hr => by
    unfold moreT at hr
    split at hr
    · split at hr
      · have := moreT_sm h n _ _ _ _ (fun t ht => by
          rcases List.mem_append.1 ht with ht | ht
          · exact ha t ht
          · rw [List.mem_singleton.1 ht]; exact termR_sm h) hr
        refine ⟨this.1, ?_⟩
        have h2 := this.2
        rw [List.length_append] at h2
        simp at h2; omega
      · cases hr
    · injection hr with hr; injection hr with h1 h2; subst h1; exact ⟨ha, by omega⟩
theorem listT_sm {s : ByteArray} {ts : List Tok} {n k : Nat} {l : List Tm} {k' : Nat} (h : s.size ≤ 4096) (hr : listT s ts n k = .ok (l, k')) : (∀ t ∈ l, t.Sm) ∧ l.length ≤ n + 1 := by
  unfold listT at hr
  split at hr
  · have := moreT_sm h n _ _ _ _ (fun t ht => by rw [List.mem_singleton.1 ht]; exact termR_sm h) hr
    refine ⟨this.1, ?_⟩
    have h2 := this.2
    simp at h2; omega
  · cases hr
theorem atomR_sm {s : ByteArray} {ts : List Tok} {k : Nat} {nm : ByteArray} {l : List Tm} {k' : Nat} (h : s.size ≤ 4096) (hr : atomR s ts k = .ok ((nm, l), k')) : nm.size ≤ 4096 ∧ (∀ t ∈ l, t.Sm) ∧ l.length ≤ 4 := by
  unfold atomR at hr
  split at hr
  · split at hr
    · cases hl : listT s ts 3 (k + 2) with
      | error e => rw [hl] at hr; cases hr
      | ok lk =>
        obtain ⟨l', k2⟩ := lk
        rw [hl] at hr
        simp only at hr
        split at hr
        · injection hr with hr; injection hr with h1 h2; injection h1 with h1 h3; subst h1; subst h3
          exact ⟨textAt_size ts k h, listT_sm h hl⟩
        · cases hr
    · injection hr with hr; injection hr with h1 h2; injection h1 with h1 h3; subst h1; subst h3
      exact ⟨textAt_size ts k h, by simp, by simp⟩
  · cases hr
theorem saidR_sm {s : ByteArray} {ts : List Tok} {kd : Int} {k : Nat} {l : Lq} {k' : Nat} (h : s.size ≤ 4096) (hr : saidR s ts kd k = .ok (l, k')) : l.Sm := by
  unfold saidR at hr
  split at hr
  · split at hr
    · cases ha : atomR s ts (k + 2) with
      | error e => rw [ha] at hr; cases hr
      | ok a =>
        obtain ⟨⟨nm, as'⟩, k2⟩ := a
        rw [ha] at hr
        injection hr with hr; injection hr with h1 h2; subst h1
        obtain ⟨p1, p2, p3⟩ := atomR_sm h ha
        exact ⟨termR_sm h, p1, p2, by show as'.length ≤ 1000; omega⟩
    · cases hr
  · cases ha : atomR s ts k with
    | error e => rw [ha] at hr; cases hr
    | ok a =>
      obtain ⟨⟨nm, as'⟩, k2⟩ := a
      rw [ha] at hr
      injection hr with hr; injection hr with h1 h2; subst h1
      obtain ⟨p1, p2, p3⟩ := atomR_sm h ha
      exact ⟨tmZ_sm, p1, p2, by show as'.length ≤ 1000; omega⟩
theorem two_sm {s : ByteArray} {ts : List Tok} {j k : Nat} {kd : Int} (h : s.size ≤ 4096) : (⟨kd, tmZ, ⟨#[]⟩, [termR s ts j, termR s ts k]⟩ : Lq).Sm :=
  ⟨tmZ_sm, Nat.zero_le _, fun t ht => by
    rcases List.mem_cons.1 ht with rfl | ht
    · exact termR_sm h
    · rw [List.mem_singleton.1 ht]; exact termR_sm h, by simp⟩
theorem compR_sm {s : ByteArray} {ts : List Tok} {k : Nat} {l : Lq} {k' : Nat} (h : s.size ≤ 4096) (hr : compR s ts k = .ok (l, k')) : l.Sm := by
  unfold compR at hr
  split at hr
  · split at hr
    · split at hr
      · injection hr with hr; injection hr with h1 h2; subst h1; exact two_sm h
      · cases hr
    · split at hr
      · split at hr
        · injection hr with hr; injection hr with h1 h2; subst h1; exact two_sm h
        · cases hr
      · cases hr
  · cases hr
theorem litR_sm {s : ByteArray} {ts : List Tok} {k : Nat} {l : Lq} {k' : Nat} (h : s.size ≤ 4096) (hr : litR s ts k = .ok (l, k')) : l.Sm := by
  unfold litR at hr
  split at hr
  · exact saidR_sm h hr
  · split at hr
    · exact compR_sm h hr
    · exact saidR_sm h hr
theorem moreL_sm {s : ByteArray} {ts : List Tok} (h : s.size ≤ 4096) : ∀ (n : Nat) (acc : List Lq) (k : Nat) (l : List Lq) (k' : Nat), (∀ t ∈ acc, t.Sm) → moreL s ts n acc k = .ok (l, k') → (∀ t ∈ l, t.Sm) ∧ l.length ≤ acc.length + n
  | 0, acc, k, l, k', ha, hr => by
    unfold moreL at hr
    split at hr
    · cases hr
    · injection hr with hr; injection hr with h1 h2; subst h1; exact ⟨ha, by omega⟩
  | n + 1, acc, k, l, k', ha, hr => by
    unfold moreL at hr
    split at hr
    · cases hl : litR s ts (k + 1) with
      | error e => rw [hl] at hr; cases hr
      | ok x =>
        obtain ⟨x, k2⟩ := x
        rw [hl] at hr
        have := moreL_sm h n _ _ _ _ (fun t ht => by
          rcases List.mem_append.1 ht with ht | ht
          · exact ha t ht
          · rw [List.mem_singleton.1 ht]; exact litR_sm h hl) hr
        refine ⟨this.1, ?_⟩
        have h2 := this.2
        rw [List.length_append] at h2
        simp at h2; omega
    · injection hr with hr; injection hr with h1 h2; subst h1; exact ⟨ha, by omega⟩
theorem listL_sm {s : ByteArray} {ts : List Tok} {n k : Nat} {l : List Lq} {k' : Nat} (h : s.size ≤ 4096) (hr : listL s ts n k = .ok (l, k')) : (∀ t ∈ l, t.Sm) ∧ l.length ≤ n + 1 := by
  unfold listL at hr
  cases hl : litR s ts k with
  | error e => rw [hl] at hr; cases hr
  | ok x =>
    obtain ⟨x, k2⟩ := x
    rw [hl] at hr
    have := moreL_sm h n _ _ _ _ (fun t ht => by rw [List.mem_singleton.1 ht]; exact litR_sm h hl) hr
    refine ⟨this.1, ?_⟩
    have h2 := this.2
    simp at h2; omega
theorem clauseR_sm {s : ByteArray} {ts : List Tok} {k : Nat} {c : Cq} {k' : Nat} (h : s.size ≤ 4096) (hr : clauseR s ts k = .ok (c, k')) : c.Sm := by
  unfold clauseR at hr
  cases ha : atomR s ts k with
  | error e => rw [ha] at hr; cases hr
  | ok a =>
    obtain ⟨⟨nm, as'⟩, k1⟩ := a
    rw [ha] at hr
    simp only at hr
    obtain ⟨p1, p2, p3⟩ := atomR_sm h ha
    have hh : (⟨1, tmZ, nm, as'⟩ : Lq).Sm := ⟨tmZ_sm, p1, p2, by show as'.length ≤ 1000; omega⟩
    split at hr
    · cases hl : listL s ts 5 (k1 + 1) with
      | error e => rw [hl] at hr; cases hr
      | ok b =>
        obtain ⟨b, k2⟩ := b
        rw [hl] at hr
        simp only at hr
        obtain ⟨q1, q2⟩ := listL_sm h hl
        split at hr
        · injection hr with hr; injection hr with h1 h2; subst h1
          exact ⟨hh, q1, by show b.length ≤ 1000; omega⟩
        · cases hr
    · split at hr
      · injection hr with hr; injection hr with h1 h2; subst h1
        exact ⟨hh, by simp, by simp⟩
      · cases hr
theorem wholeR_ok {α : Type} {s : ByteArray} {ts : List Tok} {R : Except (Int × Int) (α × Nat)} {x : α} (h : wholeR s ts R = .ok x) : ∃ k, R = .ok (x, k) := by
  unfold wholeR at h
  match R, h with
  | .ok (y, k), h =>
    simp only at h
    split at h
    · injection h with h; subst h; exact ⟨k, rfl⟩
    · cases h
theorem parseR_sm {s : ByteArray} {c : Cq} (h : parseR s = .ok c) : c.Sm := by
  unfold parseR at h
  split at h
  · rename_i he
    obtain ⟨k, hk⟩ := wholeR_ok h
    exact clauseR_sm (src_of s he).size hk
  · cases h
theorem parseLitR_sm {s : ByteArray} {l : Lq} (h : parseLitR s = .ok l) : l.Sm := by
  unfold parseLitR at h
  split at h
  · rename_i he
    obtain ⟨k, hk⟩ := wholeR_ok h
    exact saidR_sm (src_of s he).size hk
  · cases h
theorem lp_in {w : World} {B : Nat} {l : Lp} (hm : Tms w B l.ptr l.args) (hs : l.q.Sm) : l.In w B :=
  ⟨hm, Nat.le_trans hs.len (by decide), hs.who.sz, Nat.le_trans hs.pred (by decide), fun t ht => (hs.args t ht).sz⟩
theorem lp_nb {l : Lp} (hs : l.q.Sm) : l.Nb := ⟨hs.who.nb, fun t ht => (hs.args t ht).nb⟩
theorem kp_in {w : World} {c : Kp} (hm : ClMem w c) (hs : c.q.Sm) : c.In w w.heap.size :=
  ⟨lp_in hm.head hs.head, ⟨hm.body, fun l hl => lp_in (hm.each l hl) (hs.body l.q (List.mem_map_of_mem hl)), by
    have := hs.len
    have e : c.q.body.length = c.body.length := by unfold Kp.q; simp
    omega⟩⟩
theorem kp_nb {c : Kp} (hs : c.q.Sm) : c.Nb := ⟨lp_nb hs.head, fun l hl => lp_nb (hs.body l.q (List.mem_map_of_mem hl))⟩
end Go.Proofs.YtnjdganikeganaaGreatDoor

/-
  Contract: fixed(): the chapter's examples are answered as it says.
-/
namespace Go.Proofs.YtnjdganikeganaaGreatDoor
open Go.RowKit

theorem rdS_at {w : World} {B : Nat} {p : Option Addr} {l : List ByteArray} (h : Rd encS 1 w B p l) (i : Nat) (hi : i < l.length) : ∃ b o, p = some ⟨b, o, none⟩ ∧ b < B ∧ w.cell? ⟨b, o + i, none⟩ = some (.string l[i]) := by
  obtain ⟨b, o, rfl, hb, hc⟩ := h.at i hi
  refine ⟨b, o, rfl, hb, ?_⟩
  have := hc 0 _ rfl
  simpa using this
/-- a box that holds a clause -/
def Holds (w : World) (b : Nat) (cl : Kp) : Prop := Bk w b 31 #[.int .u8 cl.head.kind, .string cl.head.who.v, .string cl.head.who.s, .int .i64 cl.head.who.n, .string cl.head.pred, .slice cl.head.ptr cl.head.args.length cl.head.cap, .slice cl.ptr cl.body.length cl.cap]

set_option maxHeartbeats 16000000 in
set_option maxRecDepth 100000 in
theorem fixed_any (w : World) (he : Env w) :
    Calls Tryz.prog 13 #[] w fun e w' => e = .returned (.bool true) ∧ Below w.heap.size w w' := by
  have HE := Lib.hid he
  have HP1 := Lib.hid (show ∀ wx, Env wx → Calls Tryz.prog 11 #[.string ⟨#[111, 107, 40, 88, 41, 58, 45, 98, 111, 98, 32, 115, 97, 121, 115, 32, 102, 114, 105, 101, 110, 100, 40, 88, 41, 44, 110, 111, 116, 32, 98, 97, 100, 40, 88, 41, 44, 88, 33, 61, 109, 101, 46]⟩] wx fun e w' => ∃ cl : Kp, e = .returned (.tuple #[.agg #[.int .u8 cl.head.kind, .string cl.head.who.v, .string cl.head.who.s, .int .i64 cl.head.who.n, .string cl.head.pred, .slice cl.head.ptr cl.head.args.length cl.head.cap, .slice cl.ptr cl.body.length cl.cap], .int .i64 0, .int .i64 0]) ∧ Hid (cl.q = exC1) ∧ Hid (ClMem w' cl) ∧ Below wx.heap.size wx w' from fun wx hx => (parse_any exS1 wx (by decide) hx).mono fun e w' h => by rw [xp1] at h; obtain ⟨cl, h1, h2, h3, _, h5⟩ := h; exact ⟨cl, h2, Lib.hid h1, Lib.hid h3, h5⟩)
  have HP2 := Lib.hid (show ∀ wx, Env wx → Calls Tryz.prog 11 #[.string ⟨#[112, 32, 58, 45, 32, 88, 46]⟩] wx fun e w' => e = .returned (.tuple #[.agg #[.int .u8 0, .string ⟨#[]⟩, .string ⟨#[]⟩, .int .i64 0, .string ⟨#[]⟩, .slice none 0 0, .slice none 0 0], .int .i64 6, .int .i64 6]) ∧ Below wx.heap.size wx w' from fun wx hx => (parse_any exS2 wx (by decide) hx).mono fun e w' h => by rw [xp2] at h; exact h)
  have HP3 := Lib.hid (show ∀ wx, Env wx → Calls Tryz.prog 11 #[.string ⟨#[112, 40, 97, 44, 32, 98, 44, 32, 99, 44, 32, 100, 44, 32, 101, 41, 46]⟩] wx fun e w' => e = .returned (.tuple #[.agg #[.int .u8 0, .string ⟨#[]⟩, .string ⟨#[]⟩, .int .i64 0, .string ⟨#[]⟩, .slice none 0 0, .slice none 0 0], .int .i64 12, .int .i64 2]) ∧ Below wx.heap.size wx w' from fun wx hx => (parse_any exS3 wx (by decide) hx).mono fun e w' h => by rw [xp3] at h; exact h)
  have HP5 := Lib.hid (show ∀ wx, Env wx → Calls Tryz.prog 11 #[.string ⟨#[112, 40, 97, 41, 46]⟩] wx fun e w' => ∃ cl : Kp, e = .returned (.tuple #[.agg #[.int .u8 cl.head.kind, .string cl.head.who.v, .string cl.head.who.s, .int .i64 cl.head.who.n, .string cl.head.pred, .slice cl.head.ptr cl.head.args.length cl.head.cap, .slice cl.ptr cl.body.length cl.cap], .int .i64 0, .int .i64 0]) ∧ Hid (cl.q = exC5) ∧ Hid (ClMem w' cl) ∧ Below wx.heap.size wx w' from fun wx hx => (parse_any exS5 wx (by decide) hx).mono fun e w' h => by rw [xp5] at h; obtain ⟨cl, h1, h2, h3, _, h5⟩ := h; exact ⟨cl, h2, Lib.hid h1, Lib.hid h3, h5⟩)
  have HP4 := Lib.hid (show ∀ wx, Env wx → Calls Tryz.prog 15 #[.string ⟨#[98, 111, 98, 32, 115, 97, 121, 115, 32, 112, 40, 88, 44, 32, 49, 41]⟩] wx fun e w' => ∃ q c, e = .returned (.tuple #[.agg #[.int .u8 exL4.kind, .string exL4.who.v, .string exL4.who.s, .int .i64 exL4.who.n, .string exL4.pred, .slice q exL4.args.length c], .int .i64 0, .int .i64 0]) ∧ Hid (Tms w' w'.heap.size q exL4.args) ∧ Below wx.heap.size wx w' from fun wx hx => (parseLit_any exS4 wx (by decide) hx).mono fun e w' h => by rw [xp4] at h; obtain ⟨q, c, h1, h2, _, h4⟩ := h; exact ⟨q, c, h1, Lib.hid h2, h4⟩)
  have HPR := Lib.hid (show ∀ wx cl, cl.q = exC1 → ClMem wx cl → Env wx → Calls Tryz.prog 18 #[.agg #[.int .u8 cl.head.kind, .string cl.head.who.v, .string cl.head.who.s, .int .i64 cl.head.who.n, .string cl.head.pred, .slice cl.head.ptr cl.head.args.length cl.head.cap, .slice cl.ptr cl.body.length cl.cap]] wx fun e w' => e = .returned (.tuple #[.string ⟨#[111, 107, 40, 88, 41, 32, 58, 45, 32, 98, 111, 98, 32, 115, 97, 121, 115, 32, 102, 114, 105, 101, 110, 100, 40, 88, 41, 44, 32, 110, 111, 116, 32, 98, 97, 100, 40, 88, 41, 44, 32, 88, 32, 33, 61, 32, 109, 101, 46]⟩, .int .i64 0]) ∧ Below wx.heap.size wx w' from fun wx cl hq hm hx => (print_any cl wx (kp_in hm (hq ▸ parseR_sm xp1)) (kp_nb (hq ▸ parseR_sm xp1)) hx).mono fun e w' h => by
    rw [if_pos (by rw [check_q, hq]; exact xp1c), txt_q, hq, xp1t] at h; exact h)
  have HPL := Lib.hid (show ∀ wx q c, Tms wx wx.heap.size q exL4.args → Env wx → Calls Tryz.prog 21 #[.agg #[.int .u8 exL4.kind, .string exL4.who.v, .string exL4.who.s, .int .i64 exL4.who.n, .string exL4.pred, .slice q exL4.args.length c]] wx fun e w' => e = .returned (.tuple #[.string ⟨#[98, 111, 98, 32, 115, 97, 121, 115, 32, 112, 40, 88, 44, 32, 49, 41]⟩, .int .i64 0]) ∧ Below wx.heap.size wx w' from fun wx q c hm hx => (printLit_any (exL4.at q c) wx (lp_in hm (parseLitR_sm xp4)) (lp_nb (parseLitR_sm xp4)) hx).mono fun e w' h => by
    rw [if_pos (show (exL4.at q c).ask = true from xp4a), show (exL4.at q c).saidT = exS4 from xp4t] at h; exact h)
  have HVR := Lib.hid (show ∀ wx cl, cl.q = exC1 → ClMem wx cl → Env wx → Calls Tryz.prog 26 #[.agg #[.int .u8 cl.head.kind, .string cl.head.who.v, .string cl.head.who.s, .int .i64 cl.head.who.n, .string cl.head.pred, .slice cl.head.ptr cl.head.args.length cl.head.cap, .slice cl.ptr cl.body.length cl.cap]] wx fun e w' => ∃ b o k, e = .returned (.slice (some ⟨b, o, none⟩) 1 k) ∧ b < w'.heap.size ∧ w'.cell? ⟨b, o, none⟩ = some (.string ⟨#[88]⟩) ∧ Below wx.heap.size wx w' from fun wx cl hq hm hx => (vars_any cl wx (kp_in hm (hq ▸ parseR_sm xp1)) hx).mono fun e w' h => by
    rw [vars_q, hq, xp1v] at h
    obtain ⟨q, k, h1, h2, h3⟩ := h
    obtain ⟨b, o, rfl, hb, hc⟩ := rdS_at h2 0 (by simp)
    exact ⟨b, o, k, h1, hb, hc, h3⟩)
  have HCK := Lib.hid (show ∀ wx cl, cl.q = exC1 → ClMem wx cl → Env wx → Calls Tryz.prog 24 #[.agg #[.int .u8 cl.head.kind, .string cl.head.who.v, .string cl.head.who.s, .int .i64 cl.head.who.n, .string cl.head.pred, .slice cl.head.ptr cl.head.args.length cl.head.cap, .slice cl.ptr cl.body.length cl.cap]] wx fun e w' => e = .returned (.bool true) ∧ Below wx.heap.size wx w' from fun wx cl hq hm hx => (check_any cl wx (kp_in hm (hq ▸ parseR_sm xp1)) hx).mono fun e w' h => by
    rw [check_q, hq, xp1c] at h; exact h)
  have HCL := Lib.hid (show ∀ wx q c, Tms wx wx.heap.size q exL4.args → Env wx → Calls Tryz.prog 25 #[.agg #[.int .u8 exL4.kind, .string exL4.who.v, .string exL4.who.s, .int .i64 exL4.who.n, .string exL4.pred, .slice q exL4.args.length c]] wx fun e w' => e = .returned (.bool true) ∧ Below wx.heap.size wx w' from fun wx q c hm hx => (checkLit_any (exL4.at q c) wx (lp_in hm (parseLitR_sm xp4)) hx).mono fun e w' h => by
    rw [show (exL4.at q c).ask = true from xp4a] at h; exact h)
  have HF1 := Lib.hid (show ∀ wx cl, cl.q = exC1 → ClMem wx cl → Env wx → Calls Tryz.prog 28 #[.agg #[.int .u8 cl.head.kind, .string cl.head.who.v, .string cl.head.who.s, .int .i64 cl.head.who.n, .string cl.head.pred, .slice cl.head.ptr cl.head.args.length cl.head.cap, .slice cl.ptr cl.body.length cl.cap]] wx fun e w' => e = .returned (.bool false) ∧ Below wx.heap.size wx w' from fun wx cl hq hm hx => (fact_any cl wx (kp_in hm (hq ▸ parseR_sm xp1)) hx).mono fun e w' h => by
    rw [fact_q, hq, xp1f] at h; exact h)
  have HF5 := Lib.hid (show ∀ wx cl, cl.q = exC5 → ClMem wx cl → Env wx → Calls Tryz.prog 28 #[.agg #[.int .u8 cl.head.kind, .string cl.head.who.v, .string cl.head.who.s, .int .i64 cl.head.who.n, .string cl.head.pred, .slice cl.head.ptr cl.head.args.length cl.head.cap, .slice cl.ptr cl.body.length cl.cap]] wx fun e w' => e = .returned (.bool true) ∧ Below wx.heap.size wx w' from fun wx cl hq hm hx => (fact_any cl wx (kp_in hm (hq ▸ parseR_sm xp5)) hx).mono fun e w' h => by
    rw [fact_q, hq, xp5f] at h; exact h)
  clear he
  go_enter Tryz.func13, Tryz.ntmps13
  go_wp2_with (first
    | (go_at_call 28; refine (HF5.out _ d hqd.out HD11.out (HE.out.on HB11.out)).mono ?_; rintro e w12 ⟨rfl, hb12⟩; have HB12 := Lib.hid (HB11.out.trans (hb12.mono HB11.out.size)); clear hb12)
    | (go_at_call 28; refine (HF1.out _ cl hq.out HM10.out (HE.out.on HB10.out)).mono ?_; rintro e w11 ⟨rfl, hb11⟩; have HB11 := Lib.hid (HB10.out.trans (hb11.mono HB10.out.size)); have HD11 := Lib.hid (HD10.out.on hb11); have HY11 := Lib.hid (HY10.out.on hb11); obtain ⟨cb0, cb1, cb2, cb3, cb4, cb5, cb6⟩ := HY11.out.seven; clear hb11)
    | (go_at_call 25; refine (HCL.out _ q c HT9.out (HE.out.on HB9.out)).mono ?_; rintro e w10 ⟨rfl, hb10⟩; have HB10 := Lib.hid (HB9.out.trans (hb10.mono HB9.out.size)); have HM10 := Lib.hid (HM9.out.on hb10); have HX10 := Lib.hid (HX9.out.on hb10); have HD10 := Lib.hid (HD9.out.on hb10); have HY10 := Lib.hid (HY9.out.on hb10); obtain ⟨ca0, ca1, ca2, ca3, ca4, ca5, ca6⟩ := HX10.out.seven; clear hb10)
    | (go_at_call 24; refine (HCK.out _ cl hq.out HM8.out (HE.out.on HB8.out)).mono ?_; rintro e w9 ⟨rfl, hb9⟩; have HB9 := Lib.hid (HB8.out.trans (hb9.mono HB8.out.size)); have HM9 := Lib.hid (HM8.out.on hb9); have HX9 := Lib.hid (HX8.out.on hb9); have HT9 := Lib.hid (HT8.out.grow hb9); have HL9 := Lib.hid (HL8.out.on hb9); have HD9 := Lib.hid (HD8.out.on hb9); have HY9 := Lib.hid (HY8.out.on hb9); obtain ⟨l0, l1, l2, l3, l4, l5⟩ := HL9.out.six; clear hb9)
    | (go_at_call 11; refine (HP5.out _ (HE.out.on HB7.out)).mono ?_; rintro e w8 ⟨d, rfl, hqd, hmd, hb8⟩; have hb8' := hb8.trans ((below1 w8 (.cells #[.int .u8 d.head.kind, .string d.head.who.v, .string d.head.who.s, .int .i64 d.head.who.n, .string d.head.pred, .slice d.head.ptr d.head.args.length d.head.cap, .slice d.ptr d.body.length d.cap] 31)).mono hb8.size); have HB8 := Lib.hid (HB7.out.trans (hb8'.mono HB7.out.size)); have HM8 := Lib.hid (HM7.out.on hb8'); have HX8 := Lib.hid (HX7.out.on hb8'); have HT8 := Lib.hid (HT7.out.grow hb8'); have HL8 := Lib.hid (HL7.out.on hb8'); have v8 := (hb8'.cell (p := ⟨vb, vo, none⟩) hvb).trans HV7.out; have HD8 := Lib.hid (hmd.out.on (below1 w8 (.cells #[.int .u8 d.head.kind, .string d.head.who.v, .string d.head.who.s, .int .i64 d.head.who.n, .string d.head.pred, .slice d.head.ptr d.head.args.length d.head.cap, .slice d.ptr d.body.length d.cap] 31))); have HY8 := Lib.hid (show Holds (w8.alloc (.cells #[.int .u8 d.head.kind, .string d.head.who.v, .string d.head.who.s, .int .i64 d.head.who.n, .string d.head.pred, .slice d.head.ptr d.head.args.length d.head.cap, .slice d.ptr d.body.length d.cap] 31)) w8.heap.size d from Bk.new w8 _ _); obtain ⟨c80, c81, c82, c83, c84, c85, c86⟩ := HX8.out.seven; clear hb8 hb8' hmd)
    | (go_at_call 26; refine (HVR.out _ cl hq.out HM6.out (HE.out.on HB6.out)).mono ?_; rintro e w7 ⟨vb, vo, vk, rfl, hvb, hv7, hb7⟩; have HB7 := Lib.hid (HB6.out.trans (hb7.mono HB6.out.size)); have HM7 := Lib.hid (HM6.out.on hb7); have HX7 := Lib.hid (HX6.out.on hb7); have HT7 := Lib.hid (HT6.out.grow hb7); have HL7 := Lib.hid (HL6.out.on hb7); have HV7 := Lib.hid hv7; clear hb7 hv7)
    | (go_at_call 21; refine (HPL.out _ q c HT5.out (HE.out.on HB5.out)).mono ?_; rintro e w6 ⟨rfl, hb6⟩; have HB6 := Lib.hid (HB5.out.trans (hb6.mono HB5.out.size)); have HM6 := Lib.hid (HM5.out.on hb6); have HX6 := Lib.hid (HX5.out.on hb6); have HT6 := Lib.hid (HT5.out.grow hb6); have HL6 := Lib.hid (HL5.out.on hb6); obtain ⟨c60, c61, c62, c63, c64, c65, c66⟩ := HX6.out.seven; clear hb6)
    | (go_at_call 15; refine (HP4.out _ (HE.out.on HB4.out)).mono ?_; rintro e w5 ⟨q, c, rfl, ht, hb5⟩; have hb5' := hb5.trans ((below1 w5 (.cells #[.int .u8 exL4.kind, .string exL4.who.v, .string exL4.who.s, .int .i64 exL4.who.n, .string exL4.pred, .slice q exL4.args.length c] 28)).mono hb5.size); have HB5 := Lib.hid (HB4.out.trans (hb5'.mono HB4.out.size)); have HM5 := Lib.hid (HM4.out.on hb5'); have HX5 := Lib.hid (HX4.out.on hb5'); have HT5 := Lib.hid (ht.out.grow (below1 w5 (.cells #[.int .u8 exL4.kind, .string exL4.who.v, .string exL4.who.s, .int .i64 exL4.who.n, .string exL4.pred, .slice q exL4.args.length c] 28))); have HL5 := Lib.hid (Bk.new w5 28 #[.int .u8 exL4.kind, .string exL4.who.v, .string exL4.who.s, .int .i64 exL4.who.n, .string exL4.pred, .slice q exL4.args.length c]); clear hb5 hb5' ht)
    | (go_at_call 11; refine (HP3.out _ (HE.out.on HB3.out)).mono ?_; rintro e w4 ⟨rfl, hb4⟩; have hb4' := hb4.trans ((below1 w4 (.cells #[.int .u8 0, .string ⟨#[]⟩, .string ⟨#[]⟩, .int .i64 0, .string ⟨#[]⟩, .slice none 0 0, .slice none 0 0] 31)).mono hb4.size); have HB4 := Lib.hid (HB3.out.trans (hb4'.mono HB3.out.size)); have HM4 := Lib.hid (HM3.out.on hb4'); have HX4 := Lib.hid (HX3.out.on hb4'); clear hb4 hb4')
    | (go_at_call 11; refine (HP2.out _ (HE.out.on HB2.out)).mono ?_; rintro e w3 ⟨rfl, hb3⟩; have hb3' := hb3.trans ((below1 w3 (.cells #[.int .u8 0, .string ⟨#[]⟩, .string ⟨#[]⟩, .int .i64 0, .string ⟨#[]⟩, .slice none 0 0, .slice none 0 0] 31)).mono hb3.size); have HB3 := Lib.hid (HB2.out.trans (hb3'.mono HB2.out.size)); have HM3 := Lib.hid (HM2.out.on hb3'); have HX3 := Lib.hid (HX2.out.on hb3'); clear hb3 hb3')
    | (go_at_call 18; refine (HPR.out _ cl hq.out HM1.out (HE.out.on HB1.out)).mono ?_; rintro e w2 ⟨rfl, hb2⟩; have HB2 := Lib.hid (HB1.out.trans (hb2.mono HB1.out.size)); have HM2 := Lib.hid (HM1.out.on hb2); have HX2 := Lib.hid (HX1.out.on hb2); clear hb2)
    | (go_at_call 11; refine (HP1.out _ HE.out).mono ?_; rintro e w1 ⟨cl, rfl, hq, hm, hb1⟩; have HB1 := Lib.hid (hb1.trans ((below1 w1 (.cells #[.int .u8 cl.head.kind, .string cl.head.who.v, .string cl.head.who.s, .int .i64 cl.head.who.n, .string cl.head.pred, .slice cl.head.ptr cl.head.args.length cl.head.cap, .slice cl.ptr cl.body.length cl.cap] 31)).mono hb1.size)); have HM1 := Lib.hid (hm.out.on (below1 w1 (.cells #[.int .u8 cl.head.kind, .string cl.head.who.v, .string cl.head.who.s, .int .i64 cl.head.who.n, .string cl.head.pred, .slice cl.head.ptr cl.head.args.length cl.head.cap, .slice cl.ptr cl.body.length cl.cap] 31))); have HX1 := Lib.hid (show Holds (w1.alloc (.cells #[.int .u8 cl.head.kind, .string cl.head.who.v, .string cl.head.who.s, .int .i64 cl.head.who.n, .string cl.head.pred, .slice cl.head.ptr cl.head.args.length cl.head.cap, .slice cl.ptr cl.body.length cl.cap] 31)) w1.heap.size cl from Bk.new w1 _ _); clear hb1 hm))
  go_ret
  exact ⟨rfl, HB12.out⟩
end Go.Proofs.YtnjdganikeganaaGreatDoor

/-
  What every statement of this seat needs: what the listed variables give ('Env'), the start that meets the condition.
-/
namespace Go.Proofs.YtnjdganikeganaaGreatDoor
open Go.ChangeShapes Go.WideShapes Go.ChangeAt Go.WideMaps Go.WideElems Go.RowKit
open Go.ChangeMaps (open_string shut_string)

theorem laidOut : laidOutB Tryz.prog = true := by kernel_rfl
theorem own : ownKnob Tryz.prog.godebug = none := by kernel_rfl
def laid5 : List (String × DataW Unit) := [("math/bits.deBruijn32tab", Rows.laid_math_bits_deBruijn32tab), ("math/bits.deBruijn64tab", Rows.laid_math_bits_deBruijn64tab), ("internal/strconv.uint64pow10", Rows.laid_internal_strconv_uint64pow10), ("strconv.ErrRange", Rows.laid_strconv_ErrRange), ("strconv.ErrSyntax", Rows.laid_strconv_ErrSyntax)]

theorem star : "*" ++ "errors.errorString" = "*errors.errorString" := by decide
theorem rowPtr (u : TypeId) (h : Tryz.prog.typeName? 3 u = some "*errors.errorString") : u = 162 :=
  typeName_ptr_named (nm := "errors.errorString") (by rw [star]; kernel_rfl) (by kernel_rfl) (by decide) u (by rw [star]; exact h)
theorem env_of_laid {W : World} (h : laidMetH Tryz.prog laid5 W) : Env W := by
  rw [MakeChecks.laidMetH_plain _ _ _ (by kernel_rfl)] at h
  have h3 := (h.tail).tail
  have h4 := h3.tail
  have h5 := h4.tail
  obtain ⟨a, s, ha, _, _, _⟩ := laid_sentinel h4 (g := 2) (by kernel_rfl) (by kernel_rfl) Tryz.underlying122 rowPtr Tryz.underlying162 Tryz.underlying164 rfl rfl Tryz.underlying9 (by kernel_rfl) (by kernel_rfl)
  obtain ⟨b, t, hb, _, _, _⟩ := laid_sentinel h5 (g := 1) (by kernel_rfl) (by kernel_rfl) Tryz.underlying122 rowPtr Tryz.underlying162 Tryz.underlying164 rfl rfl Tryz.underlying9 (by kernel_rfl) (by kernel_rfl)
  have ht : Lib.TabIs Tryz.prog W "internal/strconv.uint64pow10" .u64 Lib.pow10Tab := Lib.tabIs_of_head (g := 3) (t := 157) (e := 138) (n := 20) (rest := [("strconv.ErrRange", Rows.laid_strconv_ErrRange), ("strconv.ErrSyntax", Rows.laid_strconv_ErrSyntax)]) (by kernel_rfl) (by kernel_rfl) Tryz.underlying157 Tryz.underlying138 (by kernel_rfl) (by kernel_rfl) h3
  exact ⟨ht, ⟨_, _, hb⟩, ⟨_, _, ha⟩⟩
theorem door_met (os : Os) (args : Array Value) : laidMetH Tryz.prog laid5 ((World.doorLaid Tryz.prog 400 os).forCall (fun _ _ => 0) ⟨#[], args, []⟩).memory :=
  laidMetH_of_parts3 (fuel := 8) (laidMet_of_run' 8 (by kernel_rfl) (by kernel_rfl)) (by kernel_rfl) (by kernel_rfl)
end Go.Proofs.YtnjdganikeganaaGreatDoor
