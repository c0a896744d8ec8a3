/-
  Joined of: BckW.
-/
import Derived.Test.YtnjdganikeganaaGreatDoorJb06
import Derived.Test.YtnjdganikeganaaGreatDoorJa40
import Derived.Test.YtnjdganikeganaaGreatDoorJa34
set_option linter.unusedVariables false
set_option linter.unusedSimpArgs false
/-
  The walk of mandatelaw06.ClauseBack: it answers true. (Written by gen_bck.py.)
-/
namespace Go.Proofs.YtnjdganikeganaaGreatDoor
open Go.RowKit

/-- what is read, where it is read -/
theorem readCl_ok (s : ByteArray) (C : Cq) (h : parseR s = .ok C) (hm : s.size ≤ 140737488351232) (w : World) (he : Env w) :
    Calls Tryz.prog 11 #[.string s] w fun e w' => ∃ d : Kp, Hid (d.q = C ∧ ClMem w' d) ∧ e = .returned (.tuple #[d.agg, .int .i64 0, .int .i64 0]) ∧ Below w.heap.size w w' :=
  (parse_any s w hm he).mono fun e w' hp => by
    rw [h] at hp
    obtain ⟨d, h1, h2, h3, _, h4⟩ := hp
    exact ⟨d, Lib.hid ⟨h1, h3⟩, h2, h4⟩
theorem readCl_no (s : ByteArray) (n p : Int) (h : parseR s = .error (n, p)) (hm : s.size ≤ 140737488351232) (w : World) (he : Env w) :
    Calls Tryz.prog 11 #[.string s] w fun e w' => e = .returned (.tuple #[.agg #[.int .u8 0, .string ⟨#[]⟩, .string ⟨#[]⟩, .int .i64 0, .string ⟨#[]⟩, .slice none 0 0, .slice none 0 0], .int .i64 p, .int .i64 n]) ∧ Below w.heap.size w w' :=
  (parse_any s w hm he).mono fun e w' hp => by
    rw [h] at hp
    exact hp
theorem clT_size {k : Kp} (h : k.check = true) (hn : k.Nb) : k.txt.size ≤ 140737488351232 := by
  have := (good_cl h hn).2.2
  omega
theorem same_arg (k d : Kp) (w : World) (h : k.Arg w) (hd : d.q = k.q ∧ ClMem w d) :
    Calls Tryz.prog 14 #[d.agg, k.agg] w fun e w' => e = .returned (.bool true) ∧ Below w.heap.size w w' := by
  obtain ⟨hq, hm⟩ := hd
  obtain ⟨s1, s2, s3⟩ := kp_size h
  have e1 : d.head.args = k.head.args := congrArg Lq.args (kq_head hq)
  refine (same_any d k w hm h.mem (by rw [e1]; omega) (by rw [kq_len hq]; omega) (fun l hl => ?_)).mono fun e w' ⟨h3, h4⟩ => ⟨by rw [h3, sameK_iff.2 hq], h4⟩
  have h1 : l.q ∈ k.body.map Lp.q := (kq_body hq) ▸ List.mem_map_of_mem hl
  obtain ⟨l', h2, h3⟩ := List.mem_map.1 h1
  have e2 : l'.args = l.args := congrArg Lq.args h3
  have := s3 l' h2
  rw [e2] at this
  omega


set_option maxHeartbeats 16000000 in
set_option maxRecDepth 100000 in
theorem back_no_bad (k : Kp) (s : ByteArray) (nn pp : Int) (w : World) (he : Env w) (ha : k.Arg w) (hm : s.size ≤ 140737488351232) (hk : k.check = false) (hC : parseR s = .error (nn, pp)) :
    Calls Tryz.prog 7 #[k.agg, .string s] w fun e w' => e = .returned (.bool true) ∧ Below w.heap.size w w' := by
  have HS0 := Lib.hid (FS.start k w ha he)
  have HF := Lib.hid (show ∀ wx, Env wx → _ from fun wx hx => fixed_any wx hx)
  have HCP := Lib.hid (show ∀ wx, k.Arg wx → _ from fun wx hx => copy_arg k wx hx)
  have HPR := Lib.hid (show ∀ wx d, d.Arg wx ∧ d.q = k.q → Env wx → _ from fun wx d h1 h2 => print_arg k d wx h1 h2)
  have HCK := Lib.hid (show ∀ wx d, d.Arg wx ∧ d.q = k.q → Env wx → _ from fun wx d h1 h2 => check_arg k d wx h1 h2)
  have hne : (nn == 0) = false := beq_eq_false_iff_ne.2 (parseR_ne hC)
  have HPS := Lib.hid (show ∀ wx, Env wx → _ from fun wx hx => readCl_no s nn pp hC hm wx hx)
  rw [hk] at HPR HCK
  simp only [Bool.false_eq_true, if_false, if_true] at HPR
  unfold Kp.agg at HCP HPR HCK ⊢
  generalize k.txt = T at *
  clear ha he hm hk hC
  go_enter Tryz.func7, Tryz.ntmps7
  go_wp2_with (first
    | (go_at_call 11; refine (HPS.out _ HS5.out.e).mono ?_; rintro e w8 ⟨rfl, hb8⟩; have HS8 := Lib.hid (HS5.out.on hb8); have HS8x := Lib.hid (HS8.out.on (below1 w8 (.cells #[.int .u8 0, .string ⟨#[]⟩, .string ⟨#[]⟩, .int .i64 0, .string ⟨#[]⟩, .slice none 0 0, .slice none 0 0] 31))); clear hb8)
    | (go_at_call 24; refine (HCK.out _ d4 (Hid.out HD4) HS4.out.e).mono ?_; rintro e w5 ⟨rfl, hb5⟩; have HS5 := Lib.hid (HS4.out.on hb5); clear hb5)
    | (go_at_call 19; refine (HCP.out _ HS3.out.a).mono ?_; rintro e w4 ⟨d4, HD4, rfl, hb4⟩; have HS4 := Lib.hid (HS3.out.on hb4); clear hb4)
    | (go_at_call 18; refine (HPR.out _ d2 (Hid.out HD2) HS2.out.e).mono ?_; rintro e w3 ⟨rfl, hb3⟩; have HS3 := Lib.hid (HS2.out.on hb3); obtain ⟨b0, b1, b2, b3, b4, b5, b6⟩ := HS3.out.x.seven; clear hb3)
    | (go_at_call 19; refine (HCP.out _ HS1.out.a).mono ?_; rintro e w2 ⟨d2, HD2, rfl, hb2⟩; have HS2 := Lib.hid (HS1.out.on hb2); clear hb2)
    | (go_at_call 13; refine (HF.out _ HS0.out.e).mono ?_; rintro e w1 ⟨rfl, hb1⟩; have HS1 := Lib.hid (HS0.out.on hb1); obtain ⟨a0, a1, a2, a3, a4, a5, a6⟩ := HS1.out.x.seven; clear hb1))
  go_ret
  exact ⟨rfl, by first | exact HS8x.out.b | exact HS8.out.b⟩


set_option maxHeartbeats 16000000 in
set_option maxRecDepth 100000 in
theorem back_no_ok (k : Kp) (s : ByteArray) (C : Cq) (w : World) (he : Env w) (ha : k.Arg w) (hm : s.size ≤ 140737488351232) (hk : k.check = false) (hC : parseR s = .ok C) :
    Calls Tryz.prog 7 #[k.agg, .string s] w fun e w' => e = .returned (.bool true) ∧ Below w.heap.size w w' := by
  have HS0 := Lib.hid (FS.start k w ha he)
  have HF := Lib.hid (show ∀ wx, Env wx → _ from fun wx hx => fixed_any wx hx)
  have HCP := Lib.hid (show ∀ wx, k.Arg wx → _ from fun wx hx => copy_arg k wx hx)
  have HPR := Lib.hid (show ∀ wx d, d.Arg wx ∧ d.q = k.q → Env wx → _ from fun wx d h1 h2 => print_arg k d wx h1 h2)
  have HCK := Lib.hid (show ∀ wx d, d.Arg wx ∧ d.q = k.q → Env wx → _ from fun wx d h1 h2 => check_arg k d wx h1 h2)
  have hsm := parseR_sm hC
  have hUall : ∀ d : Kp, d.q = C → d.check = true ∧ d.Nb ∧ parseR d.txt = .ok C ∧ d.txt = C.at0.txt ∧ d.txt.size ≤ 140737488351232 := fun d hd => by
    have h1 : d.check = true := check_of (s := s) (by rw [hC, hd])
    have h2 : d.Nb := kp_nb (by rw [hd]; exact hsm)
    exact ⟨h1, h2, by rw [← hd]; exact clause_back h1 h2, by rw [txt_q, hd], clT_size h1 h2⟩
  have HPS := Lib.hid (show ∀ wx, Env wx → _ from fun wx hx => readCl_ok s C hC hm wx hx)
  have HPX := Lib.hid (show ∀ wx (d : Kp), d.q = C ∧ ClMem wx d → Env wx → Calls Tryz.prog 18 #[d.agg] wx fun e w' => e = .returned (.tuple #[.string C.at0.txt, .int .i64 0]) ∧ Below wx.heap.size wx w' from fun wx d h1 h2 => (print_any d wx (kp_in h1.2 (by rw [h1.1]; exact hsm)) (hUall d h1.1).2.1 h2).mono fun e w' ⟨h3, h4⟩ => ⟨by rw [h3, if_pos (hUall d h1.1).1, (hUall d h1.1).2.2.2.1], h4⟩)
  have HPU := Lib.hid (show ∀ wx (d : Kp), d.q = C → Env wx → Calls Tryz.prog 11 #[.string C.at0.txt] wx fun e w' => ∃ d : Kp, Hid (d.q = C ∧ ClMem w' d) ∧ e = .returned (.tuple #[d.agg, .int .i64 0, .int .i64 0]) ∧ Below wx.heap.size wx w' from fun wx d hd hx => (hUall d hd).2.2.2.1 ▸ readCl_ok d.txt C (hUall d hd).2.2.1 (hUall d hd).2.2.2.2 wx hx)
  have HSX := Lib.hid (show ∀ wx a b, a.q = C ∧ ClMem wx a → b.q = C ∧ ClMem wx b → _ from fun wx a b h1 h2 => same_yes C hsm a b wx h1.2 h2.2 h1.1 h2.1)
  generalize C.at0.txt = U at *
  clear hsm hUall
  unfold Kp.agg at HPS HPX HPU HSX
  rw [hk] at HPR HCK
  simp only [Bool.false_eq_true, if_false, if_true] at HPR
  unfold Kp.agg at HCP HPR HCK ⊢
  generalize k.txt = T at *
  clear ha he hm hk hC
  go_enter Tryz.func7, Tryz.ntmps7
  go_wp2_with (first
    | (go_at_call 14; refine (HSX.out _ d8 d10 HT10.out HU10.out).mono ?_; rintro e w11 ⟨rfl, hb11⟩; have HS11 := Lib.hid (HS10x.out.on hb11); clear hb11)
    | (go_at_call 11; refine (HPU.out _ d8 HT8.out.1 HS9.out.e).mono ?_; rintro e w10 ⟨d10, HD10, rfl, hb10⟩; have HS10 := Lib.hid (HS9.out.on hb10); have HS10x := Lib.hid (HS10.out.on (below1 w10 (.cells #[.int .u8 d10.head.kind, .string d10.head.who.v, .string d10.head.who.s, .int .i64 d10.head.who.n, .string d10.head.pred, .slice d10.head.ptr d10.head.args.length d10.head.cap, .slice d10.ptr d10.body.length d10.cap] 31))); have HT10 := Lib.hid (And.intro HT9.out.1 ((HT9.out.2.on hb10).on (below1 w10 (.cells #[.int .u8 d10.head.kind, .string d10.head.who.v, .string d10.head.who.s, .int .i64 d10.head.who.n, .string d10.head.pred, .slice d10.head.ptr d10.head.args.length d10.head.cap, .slice d10.ptr d10.body.length d10.cap] 31)))); have HU10 := Lib.hid (And.intro (Hid.out HD10).1 ((Hid.out HD10).2.on (below1 w10 (.cells #[.int .u8 d10.head.kind, .string d10.head.who.v, .string d10.head.who.s, .int .i64 d10.head.who.n, .string d10.head.pred, .slice d10.head.ptr d10.head.args.length d10.head.cap, .slice d10.ptr d10.body.length d10.cap] 31)))); have HX10 := Lib.hid ((HX9.out.on hb10).on (below1 w10 (.cells #[.int .u8 d10.head.kind, .string d10.head.who.v, .string d10.head.who.s, .int .i64 d10.head.who.n, .string d10.head.pred, .slice d10.head.ptr d10.head.args.length d10.head.cap, .slice d10.ptr d10.body.length d10.cap] 31))); have HY10 := Lib.hid (Bk.new w10 31 #[.int .u8 d10.head.kind, .string d10.head.who.v, .string d10.head.who.s, .int .i64 d10.head.who.n, .string d10.head.pred, .slice d10.head.ptr d10.head.args.length d10.head.cap, .slice d10.ptr d10.body.length d10.cap]); obtain ⟨y0, y1, y2, y3, y4, y5, y6⟩ := HX10.out.seven; obtain ⟨z0, z1, z2, z3, z4, z5, z6⟩ := HY10.out.seven; clear hb10)
    | (go_at_call 18; refine (HPX.out _ d8 HT8.out HS8x.out.e).mono ?_; rintro e w9 ⟨rfl, hb9⟩; have HS9 := Lib.hid (HS8x.out.on hb9); have HT9 := Lib.hid (And.intro HT8.out.1 (HT8.out.2.on hb9)); have HX9 := Lib.hid (HX8.out.on hb9); clear hb9)
    | (go_at_call 11; refine (HPS.out _ HS5.out.e).mono ?_; rintro e w8 ⟨d8, HD8, rfl, hb8⟩; have HS8 := Lib.hid (HS5.out.on hb8); have HS8x := Lib.hid (HS8.out.on (below1 w8 (.cells #[.int .u8 d8.head.kind, .string d8.head.who.v, .string d8.head.who.s, .int .i64 d8.head.who.n, .string d8.head.pred, .slice d8.head.ptr d8.head.args.length d8.head.cap, .slice d8.ptr d8.body.length d8.cap] 31))); have HT8 := Lib.hid (And.intro (Hid.out HD8).1 ((Hid.out HD8).2.on (below1 w8 (.cells #[.int .u8 d8.head.kind, .string d8.head.who.v, .string d8.head.who.s, .int .i64 d8.head.who.n, .string d8.head.pred, .slice d8.head.ptr d8.head.args.length d8.head.cap, .slice d8.ptr d8.body.length d8.cap] 31)))); have HX8 := Lib.hid (Bk.new w8 31 #[.int .u8 d8.head.kind, .string d8.head.who.v, .string d8.head.who.s, .int .i64 d8.head.who.n, .string d8.head.pred, .slice d8.head.ptr d8.head.args.length d8.head.cap, .slice d8.ptr d8.body.length d8.cap]); obtain ⟨x0, x1, x2, x3, x4, x5, x6⟩ := HX8.out.seven; clear hb8)
    | (go_at_call 24; refine (HCK.out _ d4 (Hid.out HD4) HS4.out.e).mono ?_; rintro e w5 ⟨rfl, hb5⟩; have HS5 := Lib.hid (HS4.out.on hb5); clear hb5)
    | (go_at_call 19; refine (HCP.out _ HS3.out.a).mono ?_; rintro e w4 ⟨d4, HD4, rfl, hb4⟩; have HS4 := Lib.hid (HS3.out.on hb4); clear hb4)
    | (go_at_call 18; refine (HPR.out _ d2 (Hid.out HD2) HS2.out.e).mono ?_; rintro e w3 ⟨rfl, hb3⟩; have HS3 := Lib.hid (HS2.out.on hb3); obtain ⟨b0, b1, b2, b3, b4, b5, b6⟩ := HS3.out.x.seven; clear hb3)
    | (go_at_call 19; refine (HCP.out _ HS1.out.a).mono ?_; rintro e w2 ⟨d2, HD2, rfl, hb2⟩; have HS2 := Lib.hid (HS1.out.on hb2); clear hb2)
    | (go_at_call 13; refine (HF.out _ HS0.out.e).mono ?_; rintro e w1 ⟨rfl, hb1⟩; have HS1 := Lib.hid (HS0.out.on hb1); obtain ⟨a0, a1, a2, a3, a4, a5, a6⟩ := HS1.out.x.seven; clear hb1))
  go_ret
  exact ⟨rfl, HS11.out.b⟩


set_option maxHeartbeats 16000000 in
set_option maxRecDepth 100000 in
theorem back_yes_bad (k : Kp) (s : ByteArray) (nn pp : Int) (w : World) (he : Env w) (ha : k.Arg w) (hm : s.size ≤ 140737488351232) (hk : k.check = true) (hC : parseR s = .error (nn, pp)) :
    Calls Tryz.prog 7 #[k.agg, .string s] w fun e w' => e = .returned (.bool true) ∧ Below w.heap.size w w' := by
  have HS0 := Lib.hid (FS.start k w ha he)
  have HF := Lib.hid (show ∀ wx, Env wx → _ from fun wx hx => fixed_any wx hx)
  have HCP := Lib.hid (show ∀ wx, k.Arg wx → _ from fun wx hx => copy_arg k wx hx)
  have HPR := Lib.hid (show ∀ wx d, d.Arg wx ∧ d.q = k.q → Env wx → _ from fun wx d h1 h2 => print_arg k d wx h1 h2)
  have HCK := Lib.hid (show ∀ wx d, d.Arg wx ∧ d.q = k.q → Env wx → _ from fun wx d h1 h2 => check_arg k d wx h1 h2)
  have hT := clause_back hk ha.nb
  have hTz := clT_size hk ha.nb
  have HPT := Lib.hid (show ∀ wx, Env wx → _ from fun wx hx => readCl_ok k.txt k.q hT hTz wx hx)
  have HSL := Lib.hid (show ∀ wx d, k.Arg wx → d.q = k.q ∧ ClMem wx d → _ from fun wx d h1 h2 => same_arg k d wx h1 h2)
  unfold Kp.agg at HPT HSL
  clear hT hTz
  have hne : (nn == 0) = false := beq_eq_false_iff_ne.2 (parseR_ne hC)
  have HPS := Lib.hid (show ∀ wx, Env wx → _ from fun wx hx => readCl_no s nn pp hC hm wx hx)
  rw [hk] at HPR HCK
  simp only [Bool.false_eq_true, if_false, if_true] at HPR
  unfold Kp.agg at HCP HPR HCK ⊢
  generalize k.txt = T at *
  clear ha he hm hk hC
  go_enter Tryz.func7, Tryz.ntmps7
  go_wp2_with (first
    | (go_at_call 11; refine (HPS.out _ HS7.out.e).mono ?_; rintro e w8 ⟨rfl, hb8⟩; have HS8 := Lib.hid (HS7.out.on hb8); have HS8x := Lib.hid (HS8.out.on (below1 w8 (.cells #[.int .u8 0, .string ⟨#[]⟩, .string ⟨#[]⟩, .int .i64 0, .string ⟨#[]⟩, .slice none 0 0, .slice none 0 0] 31))); clear hb8)
    | (go_at_call 14; refine (HSL.out _ d6 HS6x.out.a HT6.out).mono ?_; rintro e w7 ⟨rfl, hb7⟩; have HS7 := Lib.hid (HS6x.out.on hb7); clear hb7)
    | (go_at_call 11; refine (HPT.out _ HS5.out.e).mono ?_; rintro e w6 ⟨d6, HD6, rfl, hb6⟩; have HS6 := Lib.hid (HS5.out.on hb6); have HS6x := Lib.hid (HS6.out.on (below1 w6 (.cells #[.int .u8 d6.head.kind, .string d6.head.who.v, .string d6.head.who.s, .int .i64 d6.head.who.n, .string d6.head.pred, .slice d6.head.ptr d6.head.args.length d6.head.cap, .slice d6.ptr d6.body.length d6.cap] 31))); have HT6 := Lib.hid (And.intro (Hid.out HD6).1 ((Hid.out HD6).2.on (below1 w6 (.cells #[.int .u8 d6.head.kind, .string d6.head.who.v, .string d6.head.who.s, .int .i64 d6.head.who.n, .string d6.head.pred, .slice d6.head.ptr d6.head.args.length d6.head.cap, .slice d6.ptr d6.body.length d6.cap] 31)))); have HM6 := Lib.hid (Bk.new w6 31 #[.int .u8 d6.head.kind, .string d6.head.who.v, .string d6.head.who.s, .int .i64 d6.head.who.n, .string d6.head.pred, .slice d6.head.ptr d6.head.args.length d6.head.cap, .slice d6.ptr d6.body.length d6.cap]); obtain ⟨c0, c1, c2, c3, c4, c5, c6⟩ := HS6x.out.x.seven; obtain ⟨m0, m1, m2, m3, m4, m5, m6⟩ := HM6.out.seven; clear hb6)
    | (go_at_call 24; refine (HCK.out _ d4 (Hid.out HD4) HS4.out.e).mono ?_; rintro e w5 ⟨rfl, hb5⟩; have HS5 := Lib.hid (HS4.out.on hb5); clear hb5)
    | (go_at_call 19; refine (HCP.out _ HS3.out.a).mono ?_; rintro e w4 ⟨d4, HD4, rfl, hb4⟩; have HS4 := Lib.hid (HS3.out.on hb4); clear hb4)
    | (go_at_call 18; refine (HPR.out _ d2 (Hid.out HD2) HS2.out.e).mono ?_; rintro e w3 ⟨rfl, hb3⟩; have HS3 := Lib.hid (HS2.out.on hb3); obtain ⟨b0, b1, b2, b3, b4, b5, b6⟩ := HS3.out.x.seven; clear hb3)
    | (go_at_call 19; refine (HCP.out _ HS1.out.a).mono ?_; rintro e w2 ⟨d2, HD2, rfl, hb2⟩; have HS2 := Lib.hid (HS1.out.on hb2); clear hb2)
    | (go_at_call 13; refine (HF.out _ HS0.out.e).mono ?_; rintro e w1 ⟨rfl, hb1⟩; have HS1 := Lib.hid (HS0.out.on hb1); obtain ⟨a0, a1, a2, a3, a4, a5, a6⟩ := HS1.out.x.seven; clear hb1))
  go_ret
  exact ⟨rfl, by first | exact HS8x.out.b | exact HS8.out.b⟩


set_option maxHeartbeats 16000000 in
set_option maxRecDepth 100000 in
theorem back_yes_ok (k : Kp) (s : ByteArray) (C : Cq) (w : World) (he : Env w) (ha : k.Arg w) (hm : s.size ≤ 140737488351232) (hk : k.check = true) (hC : parseR s = .ok C) :
    Calls Tryz.prog 7 #[k.agg, .string s] w fun e w' => e = .returned (.bool true) ∧ Below w.heap.size w w' := by
  have HS0 := Lib.hid (FS.start k w ha he)
  have HF := Lib.hid (show ∀ wx, Env wx → _ from fun wx hx => fixed_any wx hx)
  have HCP := Lib.hid (show ∀ wx, k.Arg wx → _ from fun wx hx => copy_arg k wx hx)
  have HPR := Lib.hid (show ∀ wx d, d.Arg wx ∧ d.q = k.q → Env wx → _ from fun wx d h1 h2 => print_arg k d wx h1 h2)
  have HCK := Lib.hid (show ∀ wx d, d.Arg wx ∧ d.q = k.q → Env wx → _ from fun wx d h1 h2 => check_arg k d wx h1 h2)
  have hT := clause_back hk ha.nb
  have hTz := clT_size hk ha.nb
  have HPT := Lib.hid (show ∀ wx, Env wx → _ from fun wx hx => readCl_ok k.txt k.q hT hTz wx hx)
  have HSL := Lib.hid (show ∀ wx d, k.Arg wx → d.q = k.q ∧ ClMem wx d → _ from fun wx d h1 h2 => same_arg k d wx h1 h2)
  unfold Kp.agg at HPT HSL
  clear hT hTz
  have hsm := parseR_sm hC
  have hUall : ∀ d : Kp, d.q = C → d.check = true ∧ d.Nb ∧ parseR d.txt = .ok C ∧ d.txt = C.at0.txt ∧ d.txt.size ≤ 140737488351232 := fun d hd => by
    have h1 : d.check = true := check_of (s := s) (by rw [hC, hd])
    have h2 : d.Nb := kp_nb (by rw [hd]; exact hsm)
    exact ⟨h1, h2, by rw [← hd]; exact clause_back h1 h2, by rw [txt_q, hd], clT_size h1 h2⟩
  have HPS := Lib.hid (show ∀ wx, Env wx → _ from fun wx hx => readCl_ok s C hC hm wx hx)
  have HPX := Lib.hid (show ∀ wx (d : Kp), d.q = C ∧ ClMem wx d → Env wx → Calls Tryz.prog 18 #[d.agg] wx fun e w' => e = .returned (.tuple #[.string C.at0.txt, .int .i64 0]) ∧ Below wx.heap.size wx w' from fun wx d h1 h2 => (print_any d wx (kp_in h1.2 (by rw [h1.1]; exact hsm)) (hUall d h1.1).2.1 h2).mono fun e w' ⟨h3, h4⟩ => ⟨by rw [h3, if_pos (hUall d h1.1).1, (hUall d h1.1).2.2.2.1], h4⟩)
  have HPU := Lib.hid (show ∀ wx (d : Kp), d.q = C → Env wx → Calls Tryz.prog 11 #[.string C.at0.txt] wx fun e w' => ∃ d : Kp, Hid (d.q = C ∧ ClMem w' d) ∧ e = .returned (.tuple #[d.agg, .int .i64 0, .int .i64 0]) ∧ Below wx.heap.size wx w' from fun wx d hd hx => (hUall d hd).2.2.2.1 ▸ readCl_ok d.txt C (hUall d hd).2.2.1 (hUall d hd).2.2.2.2 wx hx)
  have HSX := Lib.hid (show ∀ wx a b, a.q = C ∧ ClMem wx a → b.q = C ∧ ClMem wx b → _ from fun wx a b h1 h2 => same_yes C hsm a b wx h1.2 h2.2 h1.1 h2.1)
  generalize C.at0.txt = U at *
  clear hsm hUall
  unfold Kp.agg at HPS HPX HPU HSX
  rw [hk] at HPR HCK
  simp only [Bool.false_eq_true, if_false, if_true] at HPR
  unfold Kp.agg at HCP HPR HCK ⊢
  generalize k.txt = T at *
  clear ha he hm hk hC
  go_enter Tryz.func7, Tryz.ntmps7
  go_wp2_with (first
    | (go_at_call 14; refine (HSX.out _ d8 d10 HT10.out HU10.out).mono ?_; rintro e w11 ⟨rfl, hb11⟩; have HS11 := Lib.hid (HS10x.out.on hb11); clear hb11)
    | (go_at_call 11; refine (HPU.out _ d8 HT8.out.1 HS9.out.e).mono ?_; rintro e w10 ⟨d10, HD10, rfl, hb10⟩; have HS10 := Lib.hid (HS9.out.on hb10); have HS10x := Lib.hid (HS10.out.on (below1 w10 (.cells #[.int .u8 d10.head.kind, .string d10.head.who.v, .string d10.head.who.s, .int .i64 d10.head.who.n, .string d10.head.pred, .slice d10.head.ptr d10.head.args.length d10.head.cap, .slice d10.ptr d10.body.length d10.cap] 31))); have HT10 := Lib.hid (And.intro HT9.out.1 ((HT9.out.2.on hb10).on (below1 w10 (.cells #[.int .u8 d10.head.kind, .string d10.head.who.v, .string d10.head.who.s, .int .i64 d10.head.who.n, .string d10.head.pred, .slice d10.head.ptr d10.head.args.length d10.head.cap, .slice d10.ptr d10.body.length d10.cap] 31)))); have HU10 := Lib.hid (And.intro (Hid.out HD10).1 ((Hid.out HD10).2.on (below1 w10 (.cells #[.int .u8 d10.head.kind, .string d10.head.who.v, .string d10.head.who.s, .int .i64 d10.head.who.n, .string d10.head.pred, .slice d10.head.ptr d10.head.args.length d10.head.cap, .slice d10.ptr d10.body.length d10.cap] 31)))); have HX10 := Lib.hid ((HX9.out.on hb10).on (below1 w10 (.cells #[.int .u8 d10.head.kind, .string d10.head.who.v, .string d10.head.who.s, .int .i64 d10.head.who.n, .string d10.head.pred, .slice d10.head.ptr d10.head.args.length d10.head.cap, .slice d10.ptr d10.body.length d10.cap] 31))); have HY10 := Lib.hid (Bk.new w10 31 #[.int .u8 d10.head.kind, .string d10.head.who.v, .string d10.head.who.s, .int .i64 d10.head.who.n, .string d10.head.pred, .slice d10.head.ptr d10.head.args.length d10.head.cap, .slice d10.ptr d10.body.length d10.cap]); obtain ⟨y0, y1, y2, y3, y4, y5, y6⟩ := HX10.out.seven; obtain ⟨z0, z1, z2, z3, z4, z5, z6⟩ := HY10.out.seven; clear hb10)
    | (go_at_call 18; refine (HPX.out _ d8 HT8.out HS8x.out.e).mono ?_; rintro e w9 ⟨rfl, hb9⟩; have HS9 := Lib.hid (HS8x.out.on hb9); have HT9 := Lib.hid (And.intro HT8.out.1 (HT8.out.2.on hb9)); have HX9 := Lib.hid (HX8.out.on hb9); clear hb9)
    | (go_at_call 11; refine (HPS.out _ HS7.out.e).mono ?_; rintro e w8 ⟨d8, HD8, rfl, hb8⟩; have HS8 := Lib.hid (HS7.out.on hb8); have HS8x := Lib.hid (HS8.out.on (below1 w8 (.cells #[.int .u8 d8.head.kind, .string d8.head.who.v, .string d8.head.who.s, .int .i64 d8.head.who.n, .string d8.head.pred, .slice d8.head.ptr d8.head.args.length d8.head.cap, .slice d8.ptr d8.body.length d8.cap] 31))); have HT8 := Lib.hid (And.intro (Hid.out HD8).1 ((Hid.out HD8).2.on (below1 w8 (.cells #[.int .u8 d8.head.kind, .string d8.head.who.v, .string d8.head.who.s, .int .i64 d8.head.who.n, .string d8.head.pred, .slice d8.head.ptr d8.head.args.length d8.head.cap, .slice d8.ptr d8.body.length d8.cap] 31)))); have HX8 := Lib.hid (Bk.new w8 31 #[.int .u8 d8.head.kind, .string d8.head.who.v, .string d8.head.who.s, .int .i64 d8.head.who.n, .string d8.head.pred, .slice d8.head.ptr d8.head.args.length d8.head.cap, .slice d8.ptr d8.body.length d8.cap]); obtain ⟨x0, x1, x2, x3, x4, x5, x6⟩ := HX8.out.seven; clear hb8)
    | (go_at_call 14; refine (HSL.out _ d6 HS6x.out.a HT6.out).mono ?_; rintro e w7 ⟨rfl, hb7⟩; have HS7 := Lib.hid (HS6x.out.on hb7); clear hb7)
    | (go_at_call 11; refine (HPT.out _ HS5.out.e).mono ?_; rintro e w6 ⟨d6, HD6, rfl, hb6⟩; have HS6 := Lib.hid (HS5.out.on hb6); have HS6x := Lib.hid (HS6.out.on (below1 w6 (.cells #[.int .u8 d6.head.kind, .string d6.head.who.v, .string d6.head.who.s, .int .i64 d6.head.who.n, .string d6.head.pred, .slice d6.head.ptr d6.head.args.length d6.head.cap, .slice d6.ptr d6.body.length d6.cap] 31))); have HT6 := Lib.hid (And.intro (Hid.out HD6).1 ((Hid.out HD6).2.on (below1 w6 (.cells #[.int .u8 d6.head.kind, .string d6.head.who.v, .string d6.head.who.s, .int .i64 d6.head.who.n, .string d6.head.pred, .slice d6.head.ptr d6.head.args.length d6.head.cap, .slice d6.ptr d6.body.length d6.cap] 31)))); have HM6 := Lib.hid (Bk.new w6 31 #[.int .u8 d6.head.kind, .string d6.head.who.v, .string d6.head.who.s, .int .i64 d6.head.who.n, .string d6.head.pred, .slice d6.head.ptr d6.head.args.length d6.head.cap, .slice d6.ptr d6.body.length d6.cap]); obtain ⟨c0, c1, c2, c3, c4, c5, c6⟩ := HS6x.out.x.seven; obtain ⟨m0, m1, m2, m3, m4, m5, m6⟩ := HM6.out.seven; clear hb6)
    | (go_at_call 24; refine (HCK.out _ d4 (Hid.out HD4) HS4.out.e).mono ?_; rintro e w5 ⟨rfl, hb5⟩; have HS5 := Lib.hid (HS4.out.on hb5); clear hb5)
    | (go_at_call 19; refine (HCP.out _ HS3.out.a).mono ?_; rintro e w4 ⟨d4, HD4, rfl, hb4⟩; have HS4 := Lib.hid (HS3.out.on hb4); clear hb4)
    | (go_at_call 18; refine (HPR.out _ d2 (Hid.out HD2) HS2.out.e).mono ?_; rintro e w3 ⟨rfl, hb3⟩; have HS3 := Lib.hid (HS2.out.on hb3); obtain ⟨b0, b1, b2, b3, b4, b5, b6⟩ := HS3.out.x.seven; clear hb3)
    | (go_at_call 19; refine (HCP.out _ HS1.out.a).mono ?_; rintro e w2 ⟨d2, HD2, rfl, hb2⟩; have HS2 := Lib.hid (HS1.out.on hb2); clear hb2)
    | (go_at_call 13; refine (HF.out _ HS0.out.e).mono ?_; rintro e w1 ⟨rfl, hb1⟩; have HS1 := Lib.hid (HS0.out.on hb1); obtain ⟨a0, a1, a2, a3, a4, a5, a6⟩ := HS1.out.x.seven; clear hb1))
  go_ret
  exact ⟨rfl, HS11.out.b⟩


theorem back_walk (k : Kp) (s : ByteArray) (w : World) (he : Env w) (ha : k.Arg w) (hm : s.size ≤ 140737488351232) :
    Calls Tryz.prog 7 #[k.agg, .string s] w fun e w' => e = .returned (.bool true) ∧ Below w.heap.size w w' := by
  cases hk : k.check with
  | false => cases hC : parseR s with
    | ok C => exact back_no_ok k s C w he ha hm hk hC
    | error x => obtain ⟨n, p⟩ := x; exact back_no_bad k s n p w he ha hm hk hC
  | true => cases hC : parseR s with
    | ok C => exact back_yes_ok k s C w he ha hm hk hC
    | error x => obtain ⟨n, p⟩ := x; exact back_yes_bad k s n p w he ha hm hk hC

end Go.Proofs.YtnjdganikeganaaGreatDoor
