/-
  Joined of: AskW.
-/
import Derived.Test.YtnjdganikeganaaGreatDoorJb06
import Derived.Test.YtnjdganikeganaaGreatDoorJa40
set_option linter.unusedVariables false
set_option linter.unusedSimpArgs false
/-
  The walk of mandatelaw06.ClauseAsked: it answers true. (Written by gen_ask.py.)
-/
namespace Go.Proofs.YtnjdganikeganaaGreatDoor
open Go.RowKit

/-- a literal that came in, boxed, with what it needs -/
structure AS (l : Lp) (w wn : World) : Prop where
  b : Below w.heap.size w wn
  x : Bk wn w.heap.size 28 #[.int .u8 l.kind, .string l.who.v, .string l.who.s, .int .i64 l.who.n, .string l.pred, .slice l.ptr l.args.length l.cap]
  a : l.Arg wn
  e : Env wn
theorem AS.on {l : Lp} {w wn w' : World} (h : AS l w wn) (hb : Below wn.heap.size wn w') : AS l w w' := ⟨h.b.trans (hb.mono h.b.size), h.x.on hb, h.a.on hb, h.e.on hb⟩
theorem AS.start (l : Lp) (w : World) (ha : l.Arg w) (he : Env w) : AS l w (w.alloc (.cells #[.int .u8 l.kind, .string l.who.v, .string l.who.s, .int .i64 l.who.n, .string l.pred, .slice l.ptr l.args.length l.cap] 28)) :=
  ⟨below1 w _, Bk.new w _ _, ha.on (below1 w _), he.on (below1 w _)⟩
/-- what is read, where it is read -/
theorem readLit_ok (s : ByteArray) (L : Lq) (h : parseLitR s = .ok L) (hm : s.size ≤ 140737488351232) (w : World) (he : Env w) :
    Calls Tryz.prog 15 #[.string s] w fun e w' => ∃ q c, e = .returned (.tuple #[.agg #[.int .u8 L.kind, .string L.who.v, .string L.who.s, .int .i64 L.who.n, .string L.pred, .slice q L.args.length c], .int .i64 0, .int .i64 0]) ∧ Hid (Tms w' w'.heap.size q L.args) ∧ Below w.heap.size w w' :=
  (parseLit_any s w hm he).mono fun e w' hp => by
    rw [h] at hp
    obtain ⟨q, c, h1, h2, _, h3⟩ := hp
    exact ⟨q, c, h1, Lib.hid h2, h3⟩
theorem readLit_no (s : ByteArray) (n p : Int) (h : parseLitR s = .error (n, p)) (hm : s.size ≤ 140737488351232) (w : World) (he : Env w) :
    Calls Tryz.prog 15 #[.string s] w fun e w' => e = .returned (.tuple #[.agg #[.int .u8 0, .string ⟨#[]⟩, .string ⟨#[]⟩, .int .i64 0, .string ⟨#[]⟩, .slice none 0 0], .int .i64 p, .int .i64 n]) ∧ Below w.heap.size w w' :=
  (parseLit_any s w hm he).mono fun e w' hp => by
    rw [h] at hp
    exact hp
theorem sameLit_yes (L : Lq) (hl : L.args.length ≤ 9223372036854775807) (q : Option Addr) (c : Nat) (q2 : Option Addr) (c2 : Nat) (w : World) (ha : Tms w w.heap.size q L.args) (hb : Tms w w.heap.size q2 L.args) :
    Calls Tryz.prog 17 #[.agg #[.int .u8 L.kind, .string L.who.v, .string L.who.s, .int .i64 L.who.n, .string L.pred, .slice q L.args.length c], .agg #[.int .u8 L.kind, .string L.who.v, .string L.who.s, .int .i64 L.who.n, .string L.pred, .slice q2 L.args.length c2]] w fun e w' => e = .returned (.bool true) ∧ Below w.heap.size w w' :=
  (sameLit_any (L.at q c) (L.at q2 c2) w ha hb hl).mono fun e w' ⟨h3, h4⟩ => ⟨by rw [h3, (sameL_iff (a := L.at q c) (b := L.at q2 c2)).2 rfl], h4⟩
theorem askT_size {l : Lp} (h : l.ask = true) (hn : l.Nb) : l.saidT.size ≤ 140737488351232 := by
  obtain ⟨hk, _, hl⟩ := ask_said h
  have := (good_lit hl hn).2.2.2
  rw [saidT_lit hk] at this
  omega


set_option maxHeartbeats 16000000 in
set_option maxRecDepth 100000 in
theorem asked_no_bad (l : Lp) (s : ByteArray) (nn pp : Int) (w : World) (he : Env w) (ha : l.Arg w) (hm : s.size ≤ 140737488351232) (hk : l.ask = false) (hL : parseLitR s = .error (nn, pp)) :
    Calls Tryz.prog 8 #[l.agg, .string s] w fun e w' => e = .returned (.bool true) ∧ Below w.heap.size w w' := by
  have HS0 := Lib.hid (AS.start l w ha he)
  have HF := Lib.hid (show ∀ wx, Env wx → _ from fun wx hx => fixed_any wx hx)
  have HCL := Lib.hid (show ∀ wx, l.Arg wx → _ from fun wx hx => copyLit_arg l wx hx)
  have HPL := Lib.hid (show ∀ wx q c, (l.q.at q c).Arg wx → Env wx → _ from fun wx q c h1 h2 => printLit_arg l q c wx h1 h2)
  have HKL := Lib.hid (show ∀ wx, l.Arg wx → Env wx → _ from fun wx hx h2 => checkLit_any l wx hx.isin h2)
  have hne : (nn == 0) = false := beq_eq_false_iff_ne.2 (parseLitR_ne hL)
  have HPS := Lib.hid (show ∀ wx, Env wx → _ from fun wx hx => readLit_no s nn pp hL hm wx hx)
  unfold Lp.agg at HKL ⊢
  rw [hk] at HPL HKL
  simp only [Bool.false_eq_true, if_false, if_true] at HPL
  generalize l.saidT = T at *
  clear ha he hm hk hL
  go_enter Tryz.func8, Tryz.ntmps8
  go_wp2_with (first
    | (go_at_call 15; refine (HPS.out _ HS4.out.e).mono ?_; rintro e w7 ⟨rfl, hb7⟩; have HS7 := Lib.hid (HS4.out.on hb7); have HS7x := Lib.hid (HS7.out.on (below1 w7 (.cells #[.int .u8 0, .string ⟨#[]⟩, .string ⟨#[]⟩, .int .i64 0, .string ⟨#[]⟩, .slice none 0 0] 28))); clear hb7)
    | (go_at_call 25; refine (HKL.out _ HS3.out.a HS3.out.e).mono ?_; rintro e w4 ⟨rfl, hb4⟩; have HS4 := Lib.hid (HS3.out.on hb4); clear hb4)
    | (go_at_call 21; refine (HPL.out _ q2 c2 (Hid.out HA2) HS2.out.e).mono ?_; rintro e w3 ⟨rfl, hb3⟩; have HS3 := Lib.hid (HS2.out.on hb3); obtain ⟨b0, b1, b2, b3, b4, b5⟩ := HS3.out.x.six; clear hb3)
    | (go_at_call 22; refine (HCL.out _ HS1.out.a).mono ?_; rintro e w2 ⟨q2, c2, HA2, rfl, hb2⟩; have HS2 := Lib.hid (HS1.out.on hb2); clear hb2)
    | (go_at_call 13; refine (HF.out _ HS0.out.e).mono ?_; rintro e w1 ⟨rfl, hb1⟩; have HS1 := Lib.hid (HS0.out.on hb1); obtain ⟨a0, a1, a2, a3, a4, a5⟩ := HS1.out.x.six; clear hb1))
  go_ret
  exact ⟨rfl, by first | exact HS7x.out.b | exact HS7.out.b⟩


set_option maxHeartbeats 16000000 in
set_option maxRecDepth 100000 in
theorem asked_no_ok (l : Lp) (s : ByteArray) (L : Lq) (w : World) (he : Env w) (ha : l.Arg w) (hm : s.size ≤ 140737488351232) (hk : l.ask = false) (hL : parseLitR s = .ok L) :
    Calls Tryz.prog 8 #[l.agg, .string s] w fun e w' => e = .returned (.bool true) ∧ Below w.heap.size w w' := by
  have HS0 := Lib.hid (AS.start l w ha he)
  have HF := Lib.hid (show ∀ wx, Env wx → _ from fun wx hx => fixed_any wx hx)
  have HCL := Lib.hid (show ∀ wx, l.Arg wx → _ from fun wx hx => copyLit_arg l wx hx)
  have HPL := Lib.hid (show ∀ wx q c, (l.q.at q c).Arg wx → Env wx → _ from fun wx q c h1 h2 => printLit_arg l q c wx h1 h2)
  have HKL := Lib.hid (show ∀ wx, l.Arg wx → Env wx → _ from fun wx hx h2 => checkLit_any l wx hx.isin h2)
  have hsm := parseLitR_sm hL
  have hax : (L.at none 0).ask = true := asked_of (l := L.at none 0) hL
  have hnx : (L.at none 0).Nb := lp_nb (l := L.at none 0) hsm
  have hU := asked_back hax hnx
  have hUz := askT_size hax hnx
  have hlx : L.args.length ≤ 9223372036854775807 := by have := hsm.len; omega
  have HPS := Lib.hid (show ∀ wx, Env wx → _ from fun wx hx => readLit_ok s L hL hm wx hx)
  have HPU := Lib.hid (show ∀ wx, Env wx → _ from fun wx hx => readLit_ok (L.at none 0).saidT L hU hUz wx hx)
  have HSX := Lib.hid (show ∀ wx q c q2 c2, Tms wx wx.heap.size q L.args → Tms wx wx.heap.size q2 L.args → _ from fun wx q c q2 c2 h1 h2 => sameLit_yes L hlx q c q2 c2 wx h1 h2)
  have HPX := Lib.hid (show ∀ wx q c, Tms wx wx.heap.size q L.args → Env wx → Calls Tryz.prog 21 #[.agg #[.int .u8 L.kind, .string L.who.v, .string L.who.s, .int .i64 L.who.n, .string L.pred, .slice q L.args.length c]] wx fun e w' => e = .returned (.tuple #[.string (L.at none 0).saidT, .int .i64 0]) ∧ Below wx.heap.size wx w' from fun wx q c h1 h2 => (printLit_any (L.at q c) wx (lp_in (l := L.at q c) h1 hsm) (lp_nb (l := L.at q c) hsm) h2).mono fun e w' ⟨h3, h4⟩ => ⟨by rw [h3, if_pos (show (L.at q c).ask = true from hax)]; rfl, h4⟩)
  generalize (L.at none 0).saidT = U at *
  clear hsm hax hnx hU hUz hlx
  unfold Lp.agg at HKL ⊢
  rw [hk] at HPL HKL
  simp only [Bool.false_eq_true, if_false, if_true] at HPL
  generalize l.saidT = T at *
  clear ha he hm hk hL
  go_enter Tryz.func8, Tryz.ntmps8
  go_wp2_with (first
    | (go_at_call 17; refine (HSX.out _ q7 c7 q9 c9 HT9.out HU9.out).mono ?_; rintro e w10 ⟨rfl, hb10⟩; have HS10 := Lib.hid (HS9x.out.on hb10); clear hb10)
    | (go_at_call 15; refine (HPU.out _ HS8.out.e).mono ?_; rintro e w9 ⟨q9, c9, rfl, ht9, hb9⟩; have HS9 := Lib.hid (HS8.out.on hb9); have HS9x := Lib.hid (HS9.out.on (below1 w9 (.cells #[.int .u8 L.kind, .string L.who.v, .string L.who.s, .int .i64 L.who.n, .string L.pred, .slice q9 L.args.length c9] 28))); have HT9 := Lib.hid ((HT8.out.grow hb9).grow (below1 w9 (.cells #[.int .u8 L.kind, .string L.who.v, .string L.who.s, .int .i64 L.who.n, .string L.pred, .slice q9 L.args.length c9] 28))); have HU9 := Lib.hid ((Hid.out ht9).grow (below1 w9 (.cells #[.int .u8 L.kind, .string L.who.v, .string L.who.s, .int .i64 L.who.n, .string L.pred, .slice q9 L.args.length c9] 28))); have HX9 := Lib.hid ((HX8.out.on hb9).on (below1 w9 (.cells #[.int .u8 L.kind, .string L.who.v, .string L.who.s, .int .i64 L.who.n, .string L.pred, .slice q9 L.args.length c9] 28))); have HY9 := Lib.hid (Bk.new w9 28 #[.int .u8 L.kind, .string L.who.v, .string L.who.s, .int .i64 L.who.n, .string L.pred, .slice q9 L.args.length c9]); obtain ⟨y0, y1, y2, y3, y4, y5⟩ := HX9.out.six; obtain ⟨z0, z1, z2, z3, z4, z5⟩ := HY9.out.six; clear hb9 ht9)
    | (go_at_call 21; refine (HPX.out _ q7 c7 HT7.out HS7x.out.e).mono ?_; rintro e w8 ⟨rfl, hb8⟩; have HS8 := Lib.hid (HS7x.out.on hb8); have HT8 := Lib.hid (HT7.out.grow hb8); have HX8 := Lib.hid (HX7.out.on hb8); clear hb8)
    | (go_at_call 15; refine (HPS.out _ HS4.out.e).mono ?_; rintro e w7 ⟨q7, c7, rfl, ht7, hb7⟩; have HS7 := Lib.hid (HS4.out.on hb7); have HS7x := Lib.hid (HS7.out.on (below1 w7 (.cells #[.int .u8 L.kind, .string L.who.v, .string L.who.s, .int .i64 L.who.n, .string L.pred, .slice q7 L.args.length c7] 28))); have HT7 := Lib.hid ((Hid.out ht7).grow (below1 w7 (.cells #[.int .u8 L.kind, .string L.who.v, .string L.who.s, .int .i64 L.who.n, .string L.pred, .slice q7 L.args.length c7] 28))); have HX7 := Lib.hid (Bk.new w7 28 #[.int .u8 L.kind, .string L.who.v, .string L.who.s, .int .i64 L.who.n, .string L.pred, .slice q7 L.args.length c7]); obtain ⟨x0, x1, x2, x3, x4, x5⟩ := HX7.out.six; clear hb7 ht7)
    | (go_at_call 25; refine (HKL.out _ HS3.out.a HS3.out.e).mono ?_; rintro e w4 ⟨rfl, hb4⟩; have HS4 := Lib.hid (HS3.out.on hb4); clear hb4)
    | (go_at_call 21; refine (HPL.out _ q2 c2 (Hid.out HA2) HS2.out.e).mono ?_; rintro e w3 ⟨rfl, hb3⟩; have HS3 := Lib.hid (HS2.out.on hb3); obtain ⟨b0, b1, b2, b3, b4, b5⟩ := HS3.out.x.six; clear hb3)
    | (go_at_call 22; refine (HCL.out _ HS1.out.a).mono ?_; rintro e w2 ⟨q2, c2, HA2, rfl, hb2⟩; have HS2 := Lib.hid (HS1.out.on hb2); clear hb2)
    | (go_at_call 13; refine (HF.out _ HS0.out.e).mono ?_; rintro e w1 ⟨rfl, hb1⟩; have HS1 := Lib.hid (HS0.out.on hb1); obtain ⟨a0, a1, a2, a3, a4, a5⟩ := HS1.out.x.six; clear hb1))
  go_ret
  exact ⟨rfl, HS10.out.b⟩


set_option maxHeartbeats 16000000 in
set_option maxRecDepth 100000 in
theorem asked_yes_bad (l : Lp) (s : ByteArray) (nn pp : Int) (w : World) (he : Env w) (ha : l.Arg w) (hm : s.size ≤ 140737488351232) (hk : l.ask = true) (hL : parseLitR s = .error (nn, pp)) :
    Calls Tryz.prog 8 #[l.agg, .string s] w fun e w' => e = .returned (.bool true) ∧ Below w.heap.size w w' := by
  have HS0 := Lib.hid (AS.start l w ha he)
  have HF := Lib.hid (show ∀ wx, Env wx → _ from fun wx hx => fixed_any wx hx)
  have HCL := Lib.hid (show ∀ wx, l.Arg wx → _ from fun wx hx => copyLit_arg l wx hx)
  have HPL := Lib.hid (show ∀ wx q c, (l.q.at q c).Arg wx → Env wx → _ from fun wx q c h1 h2 => printLit_arg l q c wx h1 h2)
  have HKL := Lib.hid (show ∀ wx, l.Arg wx → Env wx → _ from fun wx hx h2 => checkLit_any l wx hx.isin h2)
  have hT := asked_back hk ha.nb
  have hTz := askT_size hk ha.nb
  have hlen : l.q.args.length ≤ 9223372036854775807 := by have := ha.isin.len; show l.args.length ≤ _; omega
  have HPT := Lib.hid (show ∀ wx, Env wx → _ from fun wx hx => readLit_ok l.saidT l.q hT hTz wx hx)
  have HSL := Lib.hid (show ∀ wx q c, Tms wx wx.heap.size q l.q.args → l.Arg wx → _ from fun wx q c h1 h2 => sameLit_yes l.q hlen q c l.ptr l.cap wx h1 h2.isin.args)
  simp only [Lp.q] at HPT HSL
  clear hT hTz hlen
  have hne : (nn == 0) = false := beq_eq_false_iff_ne.2 (parseLitR_ne hL)
  have HPS := Lib.hid (show ∀ wx, Env wx → _ from fun wx hx => readLit_no s nn pp hL hm wx hx)
  unfold Lp.agg at HKL ⊢
  rw [hk] at HPL HKL
  simp only [Bool.false_eq_true, if_false, if_true] at HPL
  generalize l.saidT = T at *
  clear ha he hm hk hL
  go_enter Tryz.func8, Tryz.ntmps8
  go_wp2_with (first
    | (go_at_call 15; refine (HPS.out _ HS6.out.e).mono ?_; rintro e w7 ⟨rfl, hb7⟩; have HS7 := Lib.hid (HS6.out.on hb7); have HS7x := Lib.hid (HS7.out.on (below1 w7 (.cells #[.int .u8 0, .string ⟨#[]⟩, .string ⟨#[]⟩, .int .i64 0, .string ⟨#[]⟩, .slice none 0 0] 28))); clear hb7)
    | (go_at_call 17; refine (HSL.out _ q5 c5 HT5.out HS5x.out.a).mono ?_; rintro e w6 ⟨rfl, hb6⟩; have HS6 := Lib.hid (HS5x.out.on hb6); clear hb6)
    | (go_at_call 15; refine (HPT.out _ HS4.out.e).mono ?_; rintro e w5 ⟨q5, c5, rfl, ht5, hb5⟩; have HS5 := Lib.hid (HS4.out.on hb5); have HS5x := Lib.hid (HS5.out.on (below1 w5 (.cells #[.int .u8 l.kind, .string l.who.v, .string l.who.s, .int .i64 l.who.n, .string l.pred, .slice q5 l.args.length c5] 28))); have HT5 := Lib.hid ((Hid.out ht5).grow (below1 w5 (.cells #[.int .u8 l.kind, .string l.who.v, .string l.who.s, .int .i64 l.who.n, .string l.pred, .slice q5 l.args.length c5] 28))); have HM5 := Lib.hid (Bk.new w5 28 #[.int .u8 l.kind, .string l.who.v, .string l.who.s, .int .i64 l.who.n, .string l.pred, .slice q5 l.args.length c5]); obtain ⟨d0, d1, d2, d3, d4, d5⟩ := HS5x.out.x.six; obtain ⟨m0, m1, m2, m3, m4, m5⟩ := HM5.out.six; clear hb5 ht5)
    | (go_at_call 25; refine (HKL.out _ HS3.out.a HS3.out.e).mono ?_; rintro e w4 ⟨rfl, hb4⟩; have HS4 := Lib.hid (HS3.out.on hb4); clear hb4)
    | (go_at_call 21; refine (HPL.out _ q2 c2 (Hid.out HA2) HS2.out.e).mono ?_; rintro e w3 ⟨rfl, hb3⟩; have HS3 := Lib.hid (HS2.out.on hb3); obtain ⟨b0, b1, b2, b3, b4, b5⟩ := HS3.out.x.six; clear hb3)
    | (go_at_call 22; refine (HCL.out _ HS1.out.a).mono ?_; rintro e w2 ⟨q2, c2, HA2, rfl, hb2⟩; have HS2 := Lib.hid (HS1.out.on hb2); clear hb2)
    | (go_at_call 13; refine (HF.out _ HS0.out.e).mono ?_; rintro e w1 ⟨rfl, hb1⟩; have HS1 := Lib.hid (HS0.out.on hb1); obtain ⟨a0, a1, a2, a3, a4, a5⟩ := HS1.out.x.six; clear hb1))
  go_ret
  exact ⟨rfl, by first | exact HS7x.out.b | exact HS7.out.b⟩


set_option maxHeartbeats 16000000 in
set_option maxRecDepth 100000 in
theorem asked_yes_ok (l : Lp) (s : ByteArray) (L : Lq) (w : World) (he : Env w) (ha : l.Arg w) (hm : s.size ≤ 140737488351232) (hk : l.ask = true) (hL : parseLitR s = .ok L) :
    Calls Tryz.prog 8 #[l.agg, .string s] w fun e w' => e = .returned (.bool true) ∧ Below w.heap.size w w' := by
  have HS0 := Lib.hid (AS.start l w ha he)
  have HF := Lib.hid (show ∀ wx, Env wx → _ from fun wx hx => fixed_any wx hx)
  have HCL := Lib.hid (show ∀ wx, l.Arg wx → _ from fun wx hx => copyLit_arg l wx hx)
  have HPL := Lib.hid (show ∀ wx q c, (l.q.at q c).Arg wx → Env wx → _ from fun wx q c h1 h2 => printLit_arg l q c wx h1 h2)
  have HKL := Lib.hid (show ∀ wx, l.Arg wx → Env wx → _ from fun wx hx h2 => checkLit_any l wx hx.isin h2)
  have hT := asked_back hk ha.nb
  have hTz := askT_size hk ha.nb
  have hlen : l.q.args.length ≤ 9223372036854775807 := by have := ha.isin.len; show l.args.length ≤ _; omega
  have HPT := Lib.hid (show ∀ wx, Env wx → _ from fun wx hx => readLit_ok l.saidT l.q hT hTz wx hx)
  have HSL := Lib.hid (show ∀ wx q c, Tms wx wx.heap.size q l.q.args → l.Arg wx → _ from fun wx q c h1 h2 => sameLit_yes l.q hlen q c l.ptr l.cap wx h1 h2.isin.args)
  simp only [Lp.q] at HPT HSL
  clear hT hTz hlen
  have hsm := parseLitR_sm hL
  have hax : (L.at none 0).ask = true := asked_of (l := L.at none 0) hL
  have hnx : (L.at none 0).Nb := lp_nb (l := L.at none 0) hsm
  have hU := asked_back hax hnx
  have hUz := askT_size hax hnx
  have hlx : L.args.length ≤ 9223372036854775807 := by have := hsm.len; omega
  have HPS := Lib.hid (show ∀ wx, Env wx → _ from fun wx hx => readLit_ok s L hL hm wx hx)
  have HPU := Lib.hid (show ∀ wx, Env wx → _ from fun wx hx => readLit_ok (L.at none 0).saidT L hU hUz wx hx)
  have HSX := Lib.hid (show ∀ wx q c q2 c2, Tms wx wx.heap.size q L.args → Tms wx wx.heap.size q2 L.args → _ from fun wx q c q2 c2 h1 h2 => sameLit_yes L hlx q c q2 c2 wx h1 h2)
  have HPX := Lib.hid (show ∀ wx q c, Tms wx wx.heap.size q L.args → Env wx → Calls Tryz.prog 21 #[.agg #[.int .u8 L.kind, .string L.who.v, .string L.who.s, .int .i64 L.who.n, .string L.pred, .slice q L.args.length c]] wx fun e w' => e = .returned (.tuple #[.string (L.at none 0).saidT, .int .i64 0]) ∧ Below wx.heap.size wx w' from fun wx q c h1 h2 => (printLit_any (L.at q c) wx (lp_in (l := L.at q c) h1 hsm) (lp_nb (l := L.at q c) hsm) h2).mono fun e w' ⟨h3, h4⟩ => ⟨by rw [h3, if_pos (show (L.at q c).ask = true from hax)]; rfl, h4⟩)
  generalize (L.at none 0).saidT = U at *
  clear hsm hax hnx hU hUz hlx
  unfold Lp.agg at HKL ⊢
  rw [hk] at HPL HKL
  simp only [Bool.false_eq_true, if_false, if_true] at HPL
  generalize l.saidT = T at *
  clear ha he hm hk hL
  go_enter Tryz.func8, Tryz.ntmps8
  go_wp2_with (first
    | (go_at_call 17; refine (HSX.out _ q7 c7 q9 c9 HT9.out HU9.out).mono ?_; rintro e w10 ⟨rfl, hb10⟩; have HS10 := Lib.hid (HS9x.out.on hb10); clear hb10)
    | (go_at_call 15; refine (HPU.out _ HS8.out.e).mono ?_; rintro e w9 ⟨q9, c9, rfl, ht9, hb9⟩; have HS9 := Lib.hid (HS8.out.on hb9); have HS9x := Lib.hid (HS9.out.on (below1 w9 (.cells #[.int .u8 L.kind, .string L.who.v, .string L.who.s, .int .i64 L.who.n, .string L.pred, .slice q9 L.args.length c9] 28))); have HT9 := Lib.hid ((HT8.out.grow hb9).grow (below1 w9 (.cells #[.int .u8 L.kind, .string L.who.v, .string L.who.s, .int .i64 L.who.n, .string L.pred, .slice q9 L.args.length c9] 28))); have HU9 := Lib.hid ((Hid.out ht9).grow (below1 w9 (.cells #[.int .u8 L.kind, .string L.who.v, .string L.who.s, .int .i64 L.who.n, .string L.pred, .slice q9 L.args.length c9] 28))); have HX9 := Lib.hid ((HX8.out.on hb9).on (below1 w9 (.cells #[.int .u8 L.kind, .string L.who.v, .string L.who.s, .int .i64 L.who.n, .string L.pred, .slice q9 L.args.length c9] 28))); have HY9 := Lib.hid (Bk.new w9 28 #[.int .u8 L.kind, .string L.who.v, .string L.who.s, .int .i64 L.who.n, .string L.pred, .slice q9 L.args.length c9]); obtain ⟨y0, y1, y2, y3, y4, y5⟩ := HX9.out.six; obtain ⟨z0, z1, z2, z3, z4, z5⟩ := HY9.out.six; clear hb9 ht9)
    | (go_at_call 21; refine (HPX.out _ q7 c7 HT7.out HS7x.out.e).mono ?_; rintro e w8 ⟨rfl, hb8⟩; have HS8 := Lib.hid (HS7x.out.on hb8); have HT8 := Lib.hid (HT7.out.grow hb8); have HX8 := Lib.hid (HX7.out.on hb8); clear hb8)
    | (go_at_call 15; refine (HPS.out _ HS6.out.e).mono ?_; rintro e w7 ⟨q7, c7, rfl, ht7, hb7⟩; have HS7 := Lib.hid (HS6.out.on hb7); have HS7x := Lib.hid (HS7.out.on (below1 w7 (.cells #[.int .u8 L.kind, .string L.who.v, .string L.who.s, .int .i64 L.who.n, .string L.pred, .slice q7 L.args.length c7] 28))); have HT7 := Lib.hid ((Hid.out ht7).grow (below1 w7 (.cells #[.int .u8 L.kind, .string L.who.v, .string L.who.s, .int .i64 L.who.n, .string L.pred, .slice q7 L.args.length c7] 28))); have HX7 := Lib.hid (Bk.new w7 28 #[.int .u8 L.kind, .string L.who.v, .string L.who.s, .int .i64 L.who.n, .string L.pred, .slice q7 L.args.length c7]); obtain ⟨x0, x1, x2, x3, x4, x5⟩ := HX7.out.six; clear hb7 ht7)
    | (go_at_call 17; refine (HSL.out _ q5 c5 HT5.out HS5x.out.a).mono ?_; rintro e w6 ⟨rfl, hb6⟩; have HS6 := Lib.hid (HS5x.out.on hb6); clear hb6)
    | (go_at_call 15; refine (HPT.out _ HS4.out.e).mono ?_; rintro e w5 ⟨q5, c5, rfl, ht5, hb5⟩; have HS5 := Lib.hid (HS4.out.on hb5); have HS5x := Lib.hid (HS5.out.on (below1 w5 (.cells #[.int .u8 l.kind, .string l.who.v, .string l.who.s, .int .i64 l.who.n, .string l.pred, .slice q5 l.args.length c5] 28))); have HT5 := Lib.hid ((Hid.out ht5).grow (below1 w5 (.cells #[.int .u8 l.kind, .string l.who.v, .string l.who.s, .int .i64 l.who.n, .string l.pred, .slice q5 l.args.length c5] 28))); have HM5 := Lib.hid (Bk.new w5 28 #[.int .u8 l.kind, .string l.who.v, .string l.who.s, .int .i64 l.who.n, .string l.pred, .slice q5 l.args.length c5]); obtain ⟨d0, d1, d2, d3, d4, d5⟩ := HS5x.out.x.six; obtain ⟨m0, m1, m2, m3, m4, m5⟩ := HM5.out.six; clear hb5 ht5)
    | (go_at_call 25; refine (HKL.out _ HS3.out.a HS3.out.e).mono ?_; rintro e w4 ⟨rfl, hb4⟩; have HS4 := Lib.hid (HS3.out.on hb4); clear hb4)
    | (go_at_call 21; refine (HPL.out _ q2 c2 (Hid.out HA2) HS2.out.e).mono ?_; rintro e w3 ⟨rfl, hb3⟩; have HS3 := Lib.hid (HS2.out.on hb3); obtain ⟨b0, b1, b2, b3, b4, b5⟩ := HS3.out.x.six; clear hb3)
    | (go_at_call 22; refine (HCL.out _ HS1.out.a).mono ?_; rintro e w2 ⟨q2, c2, HA2, rfl, hb2⟩; have HS2 := Lib.hid (HS1.out.on hb2); clear hb2)
    | (go_at_call 13; refine (HF.out _ HS0.out.e).mono ?_; rintro e w1 ⟨rfl, hb1⟩; have HS1 := Lib.hid (HS0.out.on hb1); obtain ⟨a0, a1, a2, a3, a4, a5⟩ := HS1.out.x.six; clear hb1))
  go_ret
  exact ⟨rfl, HS10.out.b⟩


theorem asked_walk (l : Lp) (s : ByteArray) (w : World) (he : Env w) (ha : l.Arg w) (hm : s.size ≤ 140737488351232) :
    Calls Tryz.prog 8 #[l.agg, .string s] w fun e w' => e = .returned (.bool true) ∧ Below w.heap.size w w' := by
  cases hk : l.ask with
  | false => cases hL : parseLitR s with
    | ok L => exact asked_no_ok l s L w he ha hm hk hL
    | error x => obtain ⟨n, p⟩ := x; exact asked_no_bad l s n p w he ha hm hk hL
  | true => cases hL : parseLitR s with
    | ok L => exact asked_yes_ok l s L w he ha hm hk hL
    | error x => obtain ⟨n, p⟩ := x; exact asked_yes_bad l s n p w he ha hm hk hL

end Go.Proofs.YtnjdganikeganaaGreatDoor
