/-
  Joined of: Rbz.
-/
import Derived.Test.YtfmkfabbiifolaaGreatDoorJg02
import Derived.Test.YtfmkfabbiifolaaGreatDoorJe07
import Derived.Test.YtfmkfabbiifolaaGreatDoorJa32
import Derived.Test.YtfmkfabbiifolaaGreatDoorJa20
set_option linter.unusedVariables false
set_option linter.unusedSimpArgs false
/-
  The walk of mandatelaw22.RequestBack: it answers true. (Made by tools/mk_rbz.py.)
-/
set_option linter.unusedVariables false
set_option linter.unusedSimpArgs false
namespace Go.Proofs.YtfmkfabbiifolaaGreatDoor
open Go.RowKit

theorem at0_q (c : Cq) : c.at0.q = c := by
  unfold Cq.at0 Kp.q
  simp only [List.map_map]
  have e : (Lp.q ∘ fun l : Lq => l.at none 0) = id := rfl
  rw [e, List.map_id]
  rfl
theorem restC_ne {s : ByteArray} {fr : Int} {f : Cq → Req} {n p : Int} (h : restC s fr f = .error (n, p)) : n ≠ 0 := by
  unfold restC at h
  split at h
  · rename_i hp
    injection h with h
    injection h with h1 h2
    subst h1
    exact parseR_ne hp
  · cases h
theorem restL_ne {s : ByteArray} {fr : Int} {f : Lq → Req} {n p : Int} (h : restL s fr f = .error (n, p)) : n ≠ 0 := by
  unfold restL at h
  split at h
  · rename_i hp
    injection h with h
    injection h with h1 h2
    subst h1
    exact parseLitR_ne hp
  · cases h
theorem req_ne {s : ByteArray} {n p : Int} (h : reqR s = .error (n, p)) : n ≠ 0 := by
  have six : ∀ q : Int, (Except.error (6, q) : Except (Int × Int) Req) = .error (n, p) → n ≠ 0 := fun q h => by
    injection h with h; injection h with h1 h2; subst h1; decide
  unfold reqR at h
  split at h
  · unfold reqT at h
    split at h
    · unfold assR at h
      split at h
      · exact six _ h
      · split at h
        · split at h
          · exact six _ h
          · exact restC_ne h
        · exact restC_ne h
    · split at h
      · unfold revR at h
        split at h
        · exact six _ h
        · split at h
          · exact six _ h
          · cases h
      · split at h
        · exact restL_ne h
        · split at h
          · exact restL_ne h
          · split at h
            · unfold audR at h
              split at h
              · exact six _ h
              · cases h
            · exact six _ h
  · rename_i h0
    injection h with h
    injection h with h1 h2
    subst h1
    exact h0
/-- a request that was read, as one that came in -/
theorem rqarg_read {s : ByteArray} {r : Req} {cl : Kp} {lp : Lp} {w : World} (h : reqR s = .ok r) (hc : cl.q = r.v.c) (hl : lp.q = r.v.l) (hm : RqM w cl lp) : RqArg r.v.kd r.v.lb r.v.lf cl r.v.no lp w := by
  obtain ⟨s1, s2⟩ := reqR_sm h
  rw [← hc] at s1
  rw [← hl] at s2
  have hin := kp_in hm.cl s1
  have hli := lp_in hm.lp s2
  have k1 := s1.head.len
  have k2 := s1.len
  have k3 := s2.len
  have ha : ∀ x ∈ cl.body, x.q.Sm := fun x hx => s1.body x.q (List.mem_map_of_mem hx)
  have hcl : cl.Arg w := ⟨⟨hin.head, lp_nb s1.head, by simp only [Kp.q, Lp.q] at k1; omega⟩, hm.cl.body, fun x hx => ⟨lp_in (hm.cl.each x hx) (ha x hx), lp_nb (ha x hx), by have := (ha x hx).len; simp only [Lp.q] at this; omega⟩, by simp only [Kp.q, List.length_map] at k2; omega⟩
  have hlp : lp.Arg w := ⟨hli, lp_nb s2, by simp only [Lp.q] at k3; omega⟩
  have hr := req_ok h
  have hb : ∀ n : Int, boundB n = true → 1 ≤ n ∧ n ≤ 1099511627776 := fun n hn => by unfold boundB at hn; simpa using hn
  cases r with
  | ass lb lf c =>
    obtain ⟨h1, h2, _⟩ := hr
    have h3 := name_size h1
    have h4 : 0 ≤ lf ∧ lf ≤ 1099511627776 := by
      rcases h2 with rfl | h2
      · decide
      · have := hb lf h2; omega
    exact ⟨by show (0 : Int) ≤ 1 ∧ (1 : Int) ≤ 255; decide, by show lb.size ≤ _; omega, by show -9223372036854775808 ≤ lf ∧ lf ≤ _; omega, by show -9223372036854775808 ≤ (0 : Int) ∧ (0 : Int) ≤ _; decide, hcl, hlp⟩
  | rev n =>
    have h1 := hb n hr
    exact ⟨by show (0 : Int) ≤ 2 ∧ (2 : Int) ≤ 255; decide, by show (0 : Nat) ≤ _; omega, by show -9223372036854775808 ≤ (0 : Int) ∧ (0 : Int) ≤ _; decide, by show -9223372036854775808 ≤ n ∧ n ≤ _; omega, hcl, hlp⟩
  | ask kd x =>
    obtain ⟨h1, _⟩ := hr
    exact ⟨by show (0 : Int) ≤ kd ∧ kd ≤ 255; omega, by show (0 : Nat) ≤ _; omega, by show -9223372036854775808 ≤ (0 : Int) ∧ (0 : Int) ≤ _; decide, by show -9223372036854775808 ≤ (0 : Int) ∧ (0 : Int) ≤ _; decide, hcl, hlp⟩
  | aud => exact ⟨by show (0 : Int) ≤ 5 ∧ (5 : Int) ≤ 255; decide, by show (0 : Nat) ≤ _; omega, by show -9223372036854775808 ≤ (0 : Int) ∧ (0 : Int) ≤ _; decide, by show -9223372036854775808 ≤ (0 : Int) ∧ (0 : Int) ≤ _; decide, hcl, hlp⟩
theorem check_bareK {kd : Int} {lb : ByteArray} {lf : Int} {k k' : Kp} {no : Int} {l l' : Lp} (hk : k'.q = k.q) (hl : l'.q = l.q) : checkB kd lb lf k' no l' = checkB kd lb lf k no l := by
  have e1 : isLitB l' = isLitB l := by rw [isLit_q l', isLit_q l, hl]
  have e2 : isClauseB k' = isClauseB k := by
    have h1 : isLitB k'.head = isLitB k.head := by rw [isLit_q k'.head, isLit_q k.head, kq_head hk]
    unfold isClauseB
    rw [h1, kq_len hk]
  have e3 : l'.ask = l.ask := by
    show (l'.q.at none 0).ask = (l.q.at none 0).ask
    rw [hl]
  unfold checkB
  rw [e1, e2, e3, check_eq hk]
theorem out_bareK {kd : Int} {lb : ByteArray} {lf : Int} {k k' : Kp} {no : Int} {l l' : Lp} (hk : k'.q = k.q) (hl : l'.q = l.q) : outQ kd lb lf k' no l' = outQ kd lb lf k no l := by
  have e1 : claT k' = claT k := by rw [claT_q k', claT_q k, hk]
  have e2 : askT l' = askT l := by
    show askT (l'.q.at none 0) = askT (l.q.at none 0)
    rw [hl]
  unfold outQ wordsQ
  rw [e1, e2]
theorem printV_bareK {kd : Int} {lb : ByteArray} {lf : Int} {k k' : Kp} {no : Int} {l l' : Lp} (hk : k'.q = k.q) (hl : l'.q = l.q) : printV kd lb lf k' no l' = printV kd lb lf k no l := by
  unfold printV
  rw [check_bareK hk hl, out_bareK hk hl]
/-- Parse of a text that reads as V -/
def ParsesAs (s : ByteArray) (V : RqV) : Prop := s.size ≤ 4096 ∧ ∃ r, reqR s = .ok r ∧ r.v = V
theorem parses_as {s : ByteArray} {V : RqV} (h : ParsesAs s V) (wx : World) (he : Env wx) : Calls Tryz.prog 7 #[.string s] wx fun e w' => ∃ cl lp, e = .returned (.tuple #[.agg (rqC V.kd V.lb V.lf cl V.no lp), .int .i64 0, .int .i64 0]) ∧ Hid ((cl.q = V.c ∧ lp.q = V.l) ∧ RqM w' cl lp) ∧ Below wx.heap.size wx w' := by
  obtain ⟨hz, r, hr, rfl⟩ := h
  refine (reqparse_any s wx (by omega) he).mono fun e w' h => ?_
  obtain ⟨cl, lp, h1, h2, h3, h4⟩ := rq_sum h
  rw [hr] at h1 h2
  exact ⟨cl, lp, h2, Lib.hid ⟨h1, h3⟩, h4⟩
theorem same_back {kd : Int} {lb : ByteArray} {lf : Int} {k : Kp} {no : Int} {l : Lp} {w : World} (h : RqArg kd lb lf k no l w) (c : Kp) (p : Lp) (hq : (c.q = k.q ∧ p.q = l.q) ∧ RqM w c p) :
    Calls Tryz.prog 10 #[.agg (rqC kd lb lf c no p), .agg (rqC kd lb lf k no l)] w fun e w' => e = .returned (.bool true) ∧ Below w.heap.size w w' := by
  obtain ⟨⟨e1, e2⟩, hm⟩ := hq
  have hc := kp_arg h.cl e1 hm.cl
  have s1 := kp_size hc
  have e3 : p.args = l.args := congrArg Lq.args e2
  have s2 := h.lp.sz
  rw [← e3] at s2
  exact samereq_any kd lb lf no c k p l w hm.cl h.cl.mem hm.lp h.lp.isin.args e1 e2 (by omega) (by omega) (fun x hx => by have := s1.2.2 x hx; omega) (by omega)
/-- what Print answers, and what its text reads as -/
theorem print_cases {kd : Int} {lb : ByteArray} {lf : Int} {k : Kp} {no : Int} {l : Lp} {w : World} (h : RqArg kd lb lf k no l w) :
    (∃ O, printV kd lb lf k no l = .tuple #[.string O, .int .i64 0] ∧ ParsesAs O ⟨kd, lb, lf, k.q, no, l.q⟩) ∨ ∃ n : Int, printV kd lb lf k no l = .tuple #[.string ⟨#[]⟩, .int .i64 n] ∧ (n = 1 ∨ n = 2) ∧ (checkB kd lb lf k no l = true → n = 2) := by
  unfold printV
  by_cases hc : checkB kd lb lf k no l = true
  · rw [if_pos hc]
    by_cases hz : 4096 < (outQ kd lb lf k no l).size
    · rw [if_pos hz]
      exact .inr ⟨2, rfl, .inr rfl, fun _ => rfl⟩
    · rw [if_neg hz]
      exact .inl ⟨_, rfl, by omega, req_back hc h.cl.nb h.lp.nb⟩
  · rw [if_neg hc]
    exact .inr ⟨1, rfl, .inl rfl, fun h => absurd h hc⟩

set_option maxHeartbeats 16000000 in
set_option maxRecDepth 100000 in
theorem rbAe (kd : Int) (lb : ByteArray) (lf : Int) (k : Kp) (no : Int) (l : Lp) (s : ByteArray) (w : World) (he : Env w) (ha : RqArg kd lb lf k no l w) (hs : s.size ≤ 140737488351232)
    (O : ByteArray) (hO : printV kd lb lf k no l = .tuple #[.string O, .int .i64 0]) (hP : ParsesAs O ⟨kd, lb, lf, k.q, no, l.q⟩)
    (m p : Int) (hr : reqR s = .error (m, p)) :
    Calls Tryz.prog 5 #[.agg (rqC kd lb lf k no l), .string s] w fun e w' => e = .returned (.bool true) ∧ Below w.heap.size w w' := by
  have HB0 := Lib.hid (below1 w (.cells (rqC kd lb lf k no l) 33))
  have HX0 := Lib.hid (Bk.new w 33 (rqC kd lb lf k no l))
  have HA := Lib.hid ha
  have HE := Lib.hid he
  have HF := Lib.hid (show ∀ wx, Env wx → _ from fun wx hx => rqfixed_any wx hx)
  have HCP := Lib.hid (show ∀ wx, RqArg kd lb lf k no l wx → Calls Tryz.prog 12 #[.agg (rqC kd lb lf k no l)] wx fun e w' => ∃ d l', e = .returned (.agg (rqC kd lb lf d no l')) ∧ Hid ((d.q = k.q ∧ l'.q = l.q) ∧ RqArg kd lb lf d no l' w') ∧ Below wx.heap.size wx w' from fun wx hx => (copyreq_any kd lb lf k no l wx hx).mono fun e w' ⟨d, l', h1, h2, h3, h4⟩ => ⟨d, l', h1, Lib.hid ⟨h2, h3⟩, h4⟩)
  have HPR := Lib.hid (show ∀ wx d l', (d.q = k.q ∧ l'.q = l.q) ∧ RqArg kd lb lf d no l' wx → Env wx → Calls Tryz.prog 11 #[.agg (rqC kd lb lf d no l')] wx fun e w' => e = .returned (.tuple #[.string O, .int .i64 0]) ∧ Below wx.heap.size wx w' from fun wx d l' h1 h3 => (reqprint_arg h1.2 h3).mono fun e w' ⟨h4, h5⟩ => ⟨by rw [h4, printV_bareK h1.1.1 h1.1.2, hO], h5⟩)
  have HP5 := Lib.hid (show ∀ wx, Env wx → _ from fun wx hx => parses_as hP wx hx)
  have HS1 := Lib.hid (show ∀ wx c p, RqArg kd lb lf k no l wx → (c.q = k.q ∧ p.q = l.q) ∧ RqM wx c p → _ from fun wx c p h1 h2 => same_back h1 c p h2)
  simp only at HP5
  have hm : (m != 0) = true := by rw [bne_iff_ne]; exact req_ne hr
  have HP8 := Lib.hid (show ∀ wx, Env wx → Calls Tryz.prog 7 #[.string s] wx fun e w' => e = .returned (.tuple #[.agg (rqC 0 ⟨#[]⟩ 0 kpZ 0 lpZ), .int .i64 p, .int .i64 m]) ∧ Below wx.heap.size wx w' from fun wx hx => (reqparse_any s wx hs hx).mono fun e w' h => by rw [hr] at h; exact h)
  obtain ⟨dd, hu, hd⟩ := rowReq
  have hz := sizeReq
  have hst := fun (w : World) (kd : Int) (lb : ByteArray) (lf : Int) (cl : Kp) (no : Int) (lp : Lp) => run_storeReq w kd lb lf cl no lp
  clear he ha hs hO hr hP
  go_enter Tryz.func5, Tryz.ntmps5
  go_wp2_with (first
    | (go_at_call 7; refine (HP8.out _ (HE.out.on HB5.out)).mono ?_; rintro e w6 ⟨rfl, hb6⟩; have HB6 := Lib.hid (HB5.out.trans ((hb6.trans ((below1 w6 (.cells (rqC 0 ⟨#[]⟩ 0 kpZ 0 lpZ) 33)).mono hb6.size)).mono HB5.out.size)); clear hb6)
    | (go_at_call 10; refine (HS1.out _ c4 p4 (HA.out.on HB4.out) ⟨HQ4.out, HM4.out⟩).mono ?_; rintro e w5 ⟨rfl, hb5⟩; have HB5 := Lib.hid (HB4.out.trans (hb5.mono HB4.out.size)); clear hb5)
    | (go_at_call 7; refine (HP5.out _ (HE.out.on HB3.out)).mono ?_; rintro e w4 ⟨c4, p4, rfl, h4, hb4⟩; have hb4' := hb4.trans ((below1 w4 (.cells (rqC kd lb lf c4 no p4) 33)).mono hb4.size); have HB4 := Lib.hid (HB3.out.trans (hb4'.mono HB3.out.size)); have HX4 := Lib.hid (HX3.out.on hb4'); have HZ4 := Lib.hid (Bk.new w4 33 (rqC kd lb lf c4 no p4)); have HQ4 := Lib.hid h4.out.1; have HM4 := Lib.hid (h4.out.2.on (below1 w4 (.cells (rqC kd lb lf c4 no p4) 33))); clear hb4 hb4' h4)
    | (go_at_call 11; refine (HPR.out _ d2 l2 HD2.out (HE.out.on HB2.out)).mono ?_; rintro e w3 ⟨rfl, hb3⟩; have HB3 := Lib.hid (HB2.out.trans (hb3.mono HB2.out.size)); have HX3 := Lib.hid (HX2.out.on hb3); clear hb3)
    | (go_at_call 12; refine (HCP.out _ (HA.out.on HB1.out)).mono ?_; rintro e w2 ⟨d2, l2, rfl, HD2, hb2⟩; have HB2 := Lib.hid (HB1.out.trans (hb2.mono HB1.out.size)); have HX2 := Lib.hid (HX1.out.on hb2); clear hb2)
    | (go_at_call 9; refine (HF.out _ (HE.out.on HB0.out)).mono ?_; rintro e w1 ⟨rfl, hb1⟩; have HB1 := Lib.hid (HB0.out.trans (hb1.mono HB0.out.size)); have HX1 := Lib.hid (HX0.out.on hb1); clear hb1)
    | (refine wpL_load (by rfl) 33 (.tmp 2) rfl _ 0 rfl (rqC kd lb lf k no l).toList dd HX4.out.range hu hd (by rw [hz]; rfl) ?_; simp only [Array.toArray_toList])
    | (refine wpL_load (by rfl) 33 (.tmp 7) rfl _ 0 rfl (rqC kd lb lf c4 no p4).toList dd HZ4.out.range hu hd (by rw [hz]; rfl) ?_; simp only [Array.toArray_toList])
    | (refine wpL_load (by rfl) 33 (.tmp 2) rfl _ 0 rfl (rqC kd lb lf k no l).toList dd HX1.out.range hu hd (by rw [hz]; rfl) ?_; simp only [Array.toArray_toList]))
  go_ret
  exact ⟨rfl, HB6.out⟩

set_option maxHeartbeats 16000000 in
set_option maxRecDepth 100000 in
theorem rbAl (kd : Int) (lb : ByteArray) (lf : Int) (k : Kp) (no : Int) (l : Lp) (s : ByteArray) (w : World) (he : Env w) (ha : RqArg kd lb lf k no l w) (hs : s.size ≤ 140737488351232)
    (O : ByteArray) (hO : printV kd lb lf k no l = .tuple #[.string O, .int .i64 0]) (hP : ParsesAs O ⟨kd, lb, lf, k.q, no, l.q⟩)
    (r : Req) (hr : reqR s = .ok r) (hu0 : printV r.v.kd r.v.lb r.v.lf r.v.c.at0 r.v.no (r.v.l.at none 0) = .tuple #[.string ⟨#[]⟩, .int .i64 2]) :
    Calls Tryz.prog 5 #[.agg (rqC kd lb lf k no l), .string s] w fun e w' => e = .returned (.bool true) ∧ Below w.heap.size w w' := by
  have HB0 := Lib.hid (below1 w (.cells (rqC kd lb lf k no l) 33))
  have HX0 := Lib.hid (Bk.new w 33 (rqC kd lb lf k no l))
  have HA := Lib.hid ha
  have HE := Lib.hid he
  have HF := Lib.hid (show ∀ wx, Env wx → _ from fun wx hx => rqfixed_any wx hx)
  have HCP := Lib.hid (show ∀ wx, RqArg kd lb lf k no l wx → Calls Tryz.prog 12 #[.agg (rqC kd lb lf k no l)] wx fun e w' => ∃ d l', e = .returned (.agg (rqC kd lb lf d no l')) ∧ Hid ((d.q = k.q ∧ l'.q = l.q) ∧ RqArg kd lb lf d no l' w') ∧ Below wx.heap.size wx w' from fun wx hx => (copyreq_any kd lb lf k no l wx hx).mono fun e w' ⟨d, l', h1, h2, h3, h4⟩ => ⟨d, l', h1, Lib.hid ⟨h2, h3⟩, h4⟩)
  have HPR := Lib.hid (show ∀ wx d l', (d.q = k.q ∧ l'.q = l.q) ∧ RqArg kd lb lf d no l' wx → Env wx → Calls Tryz.prog 11 #[.agg (rqC kd lb lf d no l')] wx fun e w' => e = .returned (.tuple #[.string O, .int .i64 0]) ∧ Below wx.heap.size wx w' from fun wx d l' h1 h3 => (reqprint_arg h1.2 h3).mono fun e w' ⟨h4, h5⟩ => ⟨by rw [h4, printV_bareK h1.1.1 h1.1.2, hO], h5⟩)
  have HP5 := Lib.hid (show ∀ wx, Env wx → _ from fun wx hx => parses_as hP wx hx)
  have HS1 := Lib.hid (show ∀ wx c p, RqArg kd lb lf k no l wx → (c.q = k.q ∧ p.q = l.q) ∧ RqM wx c p → _ from fun wx c p h1 h2 => same_back h1 c p h2)
  simp only at HP5
  have hsm := reqR_sm hr
  have HP8 := Lib.hid (show ∀ wx, Env wx → Calls Tryz.prog 7 #[.string s] wx fun e w' => ∃ cl lp, e = .returned (.tuple #[.agg (rqC r.v.kd r.v.lb r.v.lf cl r.v.no lp), .int .i64 0, .int .i64 0]) ∧ Hid ((cl.q = r.v.c ∧ lp.q = r.v.l) ∧ RqM w' cl lp) ∧ Below wx.heap.size wx w' from fun wx hx => (reqparse_any s wx hs hx).mono fun e w' h => by
    obtain ⟨cl, lp, h1, h2, h3, h4⟩ := rq_sum h
    rw [hr] at h1 h2
    exact ⟨cl, lp, h2, Lib.hid ⟨h1, h3⟩, h4⟩)
  have HPX := Lib.hid (show ∀ wx c p, (c.q = r.v.c ∧ p.q = r.v.l) ∧ RqM wx c p → Env wx → Calls Tryz.prog 11 #[.agg (rqC r.v.kd r.v.lb r.v.lf c r.v.no p)] wx fun e w' => e = .returned (.tuple #[.string ⟨#[]⟩, .int .i64 2]) ∧ Below wx.heap.size wx w' from fun wx c p h1 h3 => (reqprint_arg (rqarg_read hr h1.1.1 h1.1.2 h1.2) h3).mono fun e w' ⟨h4, h5⟩ => ⟨by rw [h4, printV_bareK (h1.1.1.trans (at0_q _).symm) (show p.q = (r.v.l.at none 0).q from h1.1.2), hu0], h5⟩)
  have HCK := Lib.hid (show ∀ wx c p, (c.q = r.v.c ∧ p.q = r.v.l) ∧ RqM wx c p → Env wx → Calls Tryz.prog 14 #[.agg (rqC r.v.kd r.v.lb r.v.lf c r.v.no p)] wx fun e w' => e = .returned (.bool true) ∧ Below wx.heap.size wx w' from fun wx c p h1 h3 => (reqcheck_arg (rqarg_read hr h1.1.1 h1.1.2 h1.2) h3).mono fun e w' ⟨h4, h5⟩ => ⟨by rw [h4, check_read hr h1.1.1 h1.1.2], h5⟩)
  have HPU := Lib.hid (show ∀ wx, Env wx → _ from fun wx hx => (reqparse_any ⟨#[]⟩ wx (by decide) hx).mono fun e w' h => rq_sum h)
  generalize reqQ (reqR ⟨#[]⟩) = Z at *
  generalize plQ (reqR ⟨#[]⟩) = zp at *
  generalize erQ (reqR ⟨#[]⟩) = ze at *
  generalize r.v = V at *
  obtain ⟨dd, hu, hd⟩ := rowReq
  have hz := sizeReq
  have hst := fun (w : World) (kd : Int) (lb : ByteArray) (lf : Int) (cl : Kp) (no : Int) (lp : Lp) => run_storeReq w kd lb lf cl no lp
  clear he ha hs hO hr hP hu0 hsm
  go_enter Tryz.func5, Tryz.ntmps5
  go_wp2_with (first
    | (go_at_call 14; refine (HCK.out _ c6 p6 ⟨HQ6.out, HM8.out⟩ (HE.out.on HB8.out)).mono ?_; rintro e w9 ⟨rfl, hb9⟩; have HB9 := Lib.hid (HB8.out.trans (hb9.mono HB8.out.size)); have HM9 := Lib.hid (HM8.out.on hb9); have HY9 := Lib.hid (HY8.out.on hb9); have HZ9 := Lib.hid (HZ8.out.on hb9); clear hb9)
    | (go_at_call 7; refine (HPU.out _ (HE.out.on HB7.out)).mono ?_; rintro e w8 ⟨c8, p8, h8, rfl, h9, hb8⟩; have hb8' := hb8.trans ((below1 w8 (.cells (rqC Z.kd Z.lb Z.lf c8 Z.no p8) 33)).mono hb8.size); have HB8 := Lib.hid (HB7.out.trans (hb8'.mono HB7.out.size)); have HM8 := Lib.hid (HM7.out.on hb8'); have HY8 := Lib.hid (HY7.out.on hb8'); have HZ8 := Lib.hid (Bk.new w8 33 (rqC Z.kd Z.lb Z.lf c8 Z.no p8)); clear hb8 hb8' h8 h9)
    | (go_at_call 11; refine (HPX.out _ c6 p6 ⟨HQ6.out, HM6.out⟩ (HE.out.on HB6.out)).mono ?_; rintro e w7 ⟨rfl, hb7⟩; have HB7 := Lib.hid (HB6.out.trans (hb7.mono HB6.out.size)); have HM7 := Lib.hid (HM6.out.on hb7); have HY7 := Lib.hid (HY6.out.on hb7); clear hb7)
    | (go_at_call 7; refine (HP8.out _ (HE.out.on HB5.out)).mono ?_; rintro e w6 ⟨c6, p6, rfl, h6, hb6⟩; have hb6' := hb6.trans ((below1 w6 (.cells (rqC V.kd V.lb V.lf c6 V.no p6) 33)).mono hb6.size); have HB6 := Lib.hid (HB5.out.trans (hb6'.mono HB5.out.size)); have HY6 := Lib.hid (Bk.new w6 33 (rqC V.kd V.lb V.lf c6 V.no p6)); have HQ6 := Lib.hid h6.out.1; have HM6 := Lib.hid (h6.out.2.on (below1 w6 (.cells (rqC V.kd V.lb V.lf c6 V.no p6) 33))); clear hb6 hb6' h6)
    | (go_at_call 10; refine (HS1.out _ c4 p4 (HA.out.on HB4.out) ⟨HQ4.out, HM4.out⟩).mono ?_; rintro e w5 ⟨rfl, hb5⟩; have HB5 := Lib.hid (HB4.out.trans (hb5.mono HB4.out.size)); clear hb5)
    | (go_at_call 7; refine (HP5.out _ (HE.out.on HB3.out)).mono ?_; rintro e w4 ⟨c4, p4, rfl, h4, hb4⟩; have hb4' := hb4.trans ((below1 w4 (.cells (rqC kd lb lf c4 no p4) 33)).mono hb4.size); have HB4 := Lib.hid (HB3.out.trans (hb4'.mono HB3.out.size)); have HX4 := Lib.hid (HX3.out.on hb4'); have HZ4 := Lib.hid (Bk.new w4 33 (rqC kd lb lf c4 no p4)); have HQ4 := Lib.hid h4.out.1; have HM4 := Lib.hid (h4.out.2.on (below1 w4 (.cells (rqC kd lb lf c4 no p4) 33))); clear hb4 hb4' h4)
    | (go_at_call 11; refine (HPR.out _ d2 l2 HD2.out (HE.out.on HB2.out)).mono ?_; rintro e w3 ⟨rfl, hb3⟩; have HB3 := Lib.hid (HB2.out.trans (hb3.mono HB2.out.size)); have HX3 := Lib.hid (HX2.out.on hb3); clear hb3)
    | (go_at_call 12; refine (HCP.out _ (HA.out.on HB1.out)).mono ?_; rintro e w2 ⟨d2, l2, rfl, HD2, hb2⟩; have HB2 := Lib.hid (HB1.out.trans (hb2.mono HB1.out.size)); have HX2 := Lib.hid (HX1.out.on hb2); clear hb2)
    | (go_at_call 9; refine (HF.out _ (HE.out.on HB0.out)).mono ?_; rintro e w1 ⟨rfl, hb1⟩; have HB1 := Lib.hid (HB0.out.trans (hb1.mono HB0.out.size)); have HX1 := Lib.hid (HX0.out.on hb1); clear hb1)
    | (refine wpL_load (by rfl) 33 (.tmp 10) rfl _ 0 rfl (rqC V.kd V.lb V.lf c6 V.no p6).toList dd HY8.out.range hu hd (by rw [hz]; rfl) ?_; simp only [Array.toArray_toList])
    | (refine wpL_load (by rfl) 33 (.tmp 10) rfl _ 0 rfl (rqC V.kd V.lb V.lf c6 V.no p6).toList dd HY6.out.range hu hd (by rw [hz]; rfl) ?_; simp only [Array.toArray_toList])
    | (refine wpL_load (by rfl) 33 (.tmp 2) rfl _ 0 rfl (rqC kd lb lf k no l).toList dd HX4.out.range hu hd (by rw [hz]; rfl) ?_; simp only [Array.toArray_toList])
    | (refine wpL_load (by rfl) 33 (.tmp 7) rfl _ 0 rfl (rqC kd lb lf c4 no p4).toList dd HZ4.out.range hu hd (by rw [hz]; rfl) ?_; simp only [Array.toArray_toList])
    | (refine wpL_load (by rfl) 33 (.tmp 2) rfl _ 0 rfl (rqC kd lb lf k no l).toList dd HX1.out.range hu hd (by rw [hz]; rfl) ?_; simp only [Array.toArray_toList]))
  go_ret
  exact ⟨rfl, HB9.out⟩

set_option maxHeartbeats 16000000 in
set_option maxRecDepth 100000 in
theorem rbAs (kd : Int) (lb : ByteArray) (lf : Int) (k : Kp) (no : Int) (l : Lp) (s : ByteArray) (w : World) (he : Env w) (ha : RqArg kd lb lf k no l w) (hs : s.size ≤ 140737488351232)
    (O : ByteArray) (hO : printV kd lb lf k no l = .tuple #[.string O, .int .i64 0]) (hP : ParsesAs O ⟨kd, lb, lf, k.q, no, l.q⟩)
    (r : Req) (hr : reqR s = .ok r) (U : ByteArray) (hu0 : printV r.v.kd r.v.lb r.v.lf r.v.c.at0 r.v.no (r.v.l.at none 0) = .tuple #[.string U, .int .i64 0]) (hU : ParsesAs U r.v) :
    Calls Tryz.prog 5 #[.agg (rqC kd lb lf k no l), .string s] w fun e w' => e = .returned (.bool true) ∧ Below w.heap.size w w' := by
  have HB0 := Lib.hid (below1 w (.cells (rqC kd lb lf k no l) 33))
  have HX0 := Lib.hid (Bk.new w 33 (rqC kd lb lf k no l))
  have HA := Lib.hid ha
  have HE := Lib.hid he
  have HF := Lib.hid (show ∀ wx, Env wx → _ from fun wx hx => rqfixed_any wx hx)
  have HCP := Lib.hid (show ∀ wx, RqArg kd lb lf k no l wx → Calls Tryz.prog 12 #[.agg (rqC kd lb lf k no l)] wx fun e w' => ∃ d l', e = .returned (.agg (rqC kd lb lf d no l')) ∧ Hid ((d.q = k.q ∧ l'.q = l.q) ∧ RqArg kd lb lf d no l' w') ∧ Below wx.heap.size wx w' from fun wx hx => (copyreq_any kd lb lf k no l wx hx).mono fun e w' ⟨d, l', h1, h2, h3, h4⟩ => ⟨d, l', h1, Lib.hid ⟨h2, h3⟩, h4⟩)
  have HPR := Lib.hid (show ∀ wx d l', (d.q = k.q ∧ l'.q = l.q) ∧ RqArg kd lb lf d no l' wx → Env wx → Calls Tryz.prog 11 #[.agg (rqC kd lb lf d no l')] wx fun e w' => e = .returned (.tuple #[.string O, .int .i64 0]) ∧ Below wx.heap.size wx w' from fun wx d l' h1 h3 => (reqprint_arg h1.2 h3).mono fun e w' ⟨h4, h5⟩ => ⟨by rw [h4, printV_bareK h1.1.1 h1.1.2, hO], h5⟩)
  have HP5 := Lib.hid (show ∀ wx, Env wx → _ from fun wx hx => parses_as hP wx hx)
  have HS1 := Lib.hid (show ∀ wx c p, RqArg kd lb lf k no l wx → (c.q = k.q ∧ p.q = l.q) ∧ RqM wx c p → _ from fun wx c p h1 h2 => same_back h1 c p h2)
  simp only at HP5
  have hsm := reqR_sm hr
  have HP8 := Lib.hid (show ∀ wx, Env wx → Calls Tryz.prog 7 #[.string s] wx fun e w' => ∃ cl lp, e = .returned (.tuple #[.agg (rqC r.v.kd r.v.lb r.v.lf cl r.v.no lp), .int .i64 0, .int .i64 0]) ∧ Hid ((cl.q = r.v.c ∧ lp.q = r.v.l) ∧ RqM w' cl lp) ∧ Below wx.heap.size wx w' from fun wx hx => (reqparse_any s wx hs hx).mono fun e w' h => by
    obtain ⟨cl, lp, h1, h2, h3, h4⟩ := rq_sum h
    rw [hr] at h1 h2
    exact ⟨cl, lp, h2, Lib.hid ⟨h1, h3⟩, h4⟩)
  have HPX := Lib.hid (show ∀ wx c p, (c.q = r.v.c ∧ p.q = r.v.l) ∧ RqM wx c p → Env wx → Calls Tryz.prog 11 #[.agg (rqC r.v.kd r.v.lb r.v.lf c r.v.no p)] wx fun e w' => e = .returned (.tuple #[.string U, .int .i64 0]) ∧ Below wx.heap.size wx w' from fun wx c p h1 h3 => (reqprint_arg (rqarg_read hr h1.1.1 h1.1.2 h1.2) h3).mono fun e w' ⟨h4, h5⟩ => ⟨by rw [h4, printV_bareK (h1.1.1.trans (at0_q _).symm) (show p.q = (r.v.l.at none 0).q from h1.1.2), hu0], h5⟩)
  have HCK := Lib.hid (show ∀ wx c p, (c.q = r.v.c ∧ p.q = r.v.l) ∧ RqM wx c p → Env wx → Calls Tryz.prog 14 #[.agg (rqC r.v.kd r.v.lb r.v.lf c r.v.no p)] wx fun e w' => e = .returned (.bool true) ∧ Below wx.heap.size wx w' from fun wx c p h1 h3 => (reqcheck_arg (rqarg_read hr h1.1.1 h1.1.2 h1.2) h3).mono fun e w' ⟨h4, h5⟩ => ⟨by rw [h4, check_read hr h1.1.1 h1.1.2], h5⟩)
  have HPU := Lib.hid (show ∀ wx, Env wx → _ from fun wx hx => parses_as hU wx hx)
  have HS2 := Lib.hid (show ∀ wx a b x y, (a.q = r.v.c ∧ x.q = r.v.l) ∧ RqM wx a x → (b.q = r.v.c ∧ y.q = r.v.l) ∧ RqM wx b y → _ from fun wx a b x y h1 h2 => samereq_yes r.v hsm.1 hsm.2 a b x y wx h1.2 h2.2 h1.1.1 h2.1.1 h1.1.2 h2.1.2)
  generalize r.v = V at *
  obtain ⟨dd, hu, hd⟩ := rowReq
  have hz := sizeReq
  have hst := fun (w : World) (kd : Int) (lb : ByteArray) (lf : Int) (cl : Kp) (no : Int) (lp : Lp) => run_storeReq w kd lb lf cl no lp
  clear he ha hs hO hr hP hu0 hsm hU
  go_enter Tryz.func5, Tryz.ntmps5
  go_wp2_with (first
    | (go_at_call 10; refine (HS2.out _ c6 c8 p6 p8 ⟨HQ6.out, HM9.out⟩ ⟨HQ8.out, HN9.out⟩).mono ?_; rintro e w10 ⟨rfl, hb10⟩; have HB10 := Lib.hid (HB9.out.trans (hb10.mono HB9.out.size)); clear hb10)
    | (go_at_call 14; refine (HCK.out _ c6 p6 ⟨HQ6.out, HM8.out⟩ (HE.out.on HB8.out)).mono ?_; rintro e w9 ⟨rfl, hb9⟩; have HB9 := Lib.hid (HB8.out.trans (hb9.mono HB8.out.size)); have HM9 := Lib.hid (HM8.out.on hb9); have HY9 := Lib.hid (HY8.out.on hb9); have HZ9 := Lib.hid (HZ8.out.on hb9); have HN9 := Lib.hid (HN8.out.on hb9); clear hb9)
    | (go_at_call 7; refine (HPU.out _ (HE.out.on HB7.out)).mono ?_; rintro e w8 ⟨c8, p8, rfl, h8, hb8⟩; have hb8' := hb8.trans ((below1 w8 (.cells (rqC V.kd V.lb V.lf c8 V.no p8) 33)).mono hb8.size); have HB8 := Lib.hid (HB7.out.trans (hb8'.mono HB7.out.size)); have HM8 := Lib.hid (HM7.out.on hb8'); have HY8 := Lib.hid (HY7.out.on hb8'); have HZ8 := Lib.hid (Bk.new w8 33 (rqC V.kd V.lb V.lf c8 V.no p8)); have HQ8 := Lib.hid h8.out.1; have HN8 := Lib.hid (h8.out.2.on (below1 w8 (.cells (rqC V.kd V.lb V.lf c8 V.no p8) 33))); clear hb8 hb8' h8)
    | (go_at_call 11; refine (HPX.out _ c6 p6 ⟨HQ6.out, HM6.out⟩ (HE.out.on HB6.out)).mono ?_; rintro e w7 ⟨rfl, hb7⟩; have HB7 := Lib.hid (HB6.out.trans (hb7.mono HB6.out.size)); have HM7 := Lib.hid (HM6.out.on hb7); have HY7 := Lib.hid (HY6.out.on hb7); clear hb7)
    | (go_at_call 7; refine (HP8.out _ (HE.out.on HB5.out)).mono ?_; rintro e w6 ⟨c6, p6, rfl, h6, hb6⟩; have hb6' := hb6.trans ((below1 w6 (.cells (rqC V.kd V.lb V.lf c6 V.no p6) 33)).mono hb6.size); have HB6 := Lib.hid (HB5.out.trans (hb6'.mono HB5.out.size)); have HY6 := Lib.hid (Bk.new w6 33 (rqC V.kd V.lb V.lf c6 V.no p6)); have HQ6 := Lib.hid h6.out.1; have HM6 := Lib.hid (h6.out.2.on (below1 w6 (.cells (rqC V.kd V.lb V.lf c6 V.no p6) 33))); clear hb6 hb6' h6)
    | (go_at_call 10; refine (HS1.out _ c4 p4 (HA.out.on HB4.out) ⟨HQ4.out, HM4.out⟩).mono ?_; rintro e w5 ⟨rfl, hb5⟩; have HB5 := Lib.hid (HB4.out.trans (hb5.mono HB4.out.size)); clear hb5)
    | (go_at_call 7; refine (HP5.out _ (HE.out.on HB3.out)).mono ?_; rintro e w4 ⟨c4, p4, rfl, h4, hb4⟩; have hb4' := hb4.trans ((below1 w4 (.cells (rqC kd lb lf c4 no p4) 33)).mono hb4.size); have HB4 := Lib.hid (HB3.out.trans (hb4'.mono HB3.out.size)); have HX4 := Lib.hid (HX3.out.on hb4'); have HZ4 := Lib.hid (Bk.new w4 33 (rqC kd lb lf c4 no p4)); have HQ4 := Lib.hid h4.out.1; have HM4 := Lib.hid (h4.out.2.on (below1 w4 (.cells (rqC kd lb lf c4 no p4) 33))); clear hb4 hb4' h4)
    | (go_at_call 11; refine (HPR.out _ d2 l2 HD2.out (HE.out.on HB2.out)).mono ?_; rintro e w3 ⟨rfl, hb3⟩; have HB3 := Lib.hid (HB2.out.trans (hb3.mono HB2.out.size)); have HX3 := Lib.hid (HX2.out.on hb3); clear hb3)
    | (go_at_call 12; refine (HCP.out _ (HA.out.on HB1.out)).mono ?_; rintro e w2 ⟨d2, l2, rfl, HD2, hb2⟩; have HB2 := Lib.hid (HB1.out.trans (hb2.mono HB1.out.size)); have HX2 := Lib.hid (HX1.out.on hb2); clear hb2)
    | (go_at_call 9; refine (HF.out _ (HE.out.on HB0.out)).mono ?_; rintro e w1 ⟨rfl, hb1⟩; have HB1 := Lib.hid (HB0.out.trans (hb1.mono HB0.out.size)); have HX1 := Lib.hid (HX0.out.on hb1); clear hb1)
    | (refine wpL_load (by rfl) 33 (.tmp 15) rfl _ 0 rfl (rqC V.kd V.lb V.lf c8 V.no p8).toList dd HZ9.out.range hu hd (by rw [hz]; rfl) ?_; simp only [Array.toArray_toList])
    | (refine wpL_load (by rfl) 33 (.tmp 10) rfl _ 0 rfl (rqC V.kd V.lb V.lf c6 V.no p6).toList dd HY9.out.range hu hd (by rw [hz]; rfl) ?_; simp only [Array.toArray_toList])
    | (refine wpL_load (by rfl) 33 (.tmp 10) rfl _ 0 rfl (rqC V.kd V.lb V.lf c6 V.no p6).toList dd HY8.out.range hu hd (by rw [hz]; rfl) ?_; simp only [Array.toArray_toList])
    | (refine wpL_load (by rfl) 33 (.tmp 10) rfl _ 0 rfl (rqC V.kd V.lb V.lf c6 V.no p6).toList dd HY6.out.range hu hd (by rw [hz]; rfl) ?_; simp only [Array.toArray_toList])
    | (refine wpL_load (by rfl) 33 (.tmp 2) rfl _ 0 rfl (rqC kd lb lf k no l).toList dd HX4.out.range hu hd (by rw [hz]; rfl) ?_; simp only [Array.toArray_toList])
    | (refine wpL_load (by rfl) 33 (.tmp 7) rfl _ 0 rfl (rqC kd lb lf c4 no p4).toList dd HZ4.out.range hu hd (by rw [hz]; rfl) ?_; simp only [Array.toArray_toList])
    | (refine wpL_load (by rfl) 33 (.tmp 2) rfl _ 0 rfl (rqC kd lb lf k no l).toList dd HX1.out.range hu hd (by rw [hz]; rfl) ?_; simp only [Array.toArray_toList]))
  go_ret
  exact ⟨rfl, HB10.out⟩

set_option maxHeartbeats 16000000 in
set_option maxRecDepth 100000 in
theorem rbBe (kd : Int) (lb : ByteArray) (lf : Int) (k : Kp) (no : Int) (l : Lp) (s : ByteArray) (w : World) (he : Env w) (ha : RqArg kd lb lf k no l w) (hs : s.size ≤ 140737488351232)
    (n : Int) (hO : printV kd lb lf k no l = .tuple #[.string ⟨#[]⟩, .int .i64 n]) (hn : n = 1 ∨ n = 2)
    (m p : Int) (hr : reqR s = .error (m, p)) :
    Calls Tryz.prog 5 #[.agg (rqC kd lb lf k no l), .string s] w fun e w' => e = .returned (.bool true) ∧ Below w.heap.size w w' := by
  have HB0 := Lib.hid (below1 w (.cells (rqC kd lb lf k no l) 33))
  have HX0 := Lib.hid (Bk.new w 33 (rqC kd lb lf k no l))
  have HA := Lib.hid ha
  have HE := Lib.hid he
  have HF := Lib.hid (show ∀ wx, Env wx → _ from fun wx hx => rqfixed_any wx hx)
  have HCP := Lib.hid (show ∀ wx, RqArg kd lb lf k no l wx → Calls Tryz.prog 12 #[.agg (rqC kd lb lf k no l)] wx fun e w' => ∃ d l', e = .returned (.agg (rqC kd lb lf d no l')) ∧ Hid ((d.q = k.q ∧ l'.q = l.q) ∧ RqArg kd lb lf d no l' w') ∧ Below wx.heap.size wx w' from fun wx hx => (copyreq_any kd lb lf k no l wx hx).mono fun e w' ⟨d, l', h1, h2, h3, h4⟩ => ⟨d, l', h1, Lib.hid ⟨h2, h3⟩, h4⟩)
  have HPR := Lib.hid (show ∀ wx d l', (d.q = k.q ∧ l'.q = l.q) ∧ RqArg kd lb lf d no l' wx → Env wx → Calls Tryz.prog 11 #[.agg (rqC kd lb lf d no l')] wx fun e w' => e = .returned (.tuple #[.string ⟨#[]⟩, .int .i64 n]) ∧ Below wx.heap.size wx w' from fun wx d l' h1 h3 => (reqprint_arg h1.2 h3).mono fun e w' ⟨h4, h5⟩ => ⟨by rw [h4, printV_bareK h1.1.1 h1.1.2, hO], h5⟩)
  have hn0 : (n == 0) = false := by rcases hn with rfl | rfl <;> rfl
  have hm : (m != 0) = true := by rw [bne_iff_ne]; exact req_ne hr
  have HP8 := Lib.hid (show ∀ wx, Env wx → Calls Tryz.prog 7 #[.string s] wx fun e w' => e = .returned (.tuple #[.agg (rqC 0 ⟨#[]⟩ 0 kpZ 0 lpZ), .int .i64 p, .int .i64 m]) ∧ Below wx.heap.size wx w' from fun wx hx => (reqparse_any s wx hs hx).mono fun e w' h => by rw [hr] at h; exact h)
  obtain ⟨dd, hu, hd⟩ := rowReq
  have hz := sizeReq
  have hst := fun (w : World) (kd : Int) (lb : ByteArray) (lf : Int) (cl : Kp) (no : Int) (lp : Lp) => run_storeReq w kd lb lf cl no lp
  clear he ha hs hO hr hn
  go_enter Tryz.func5, Tryz.ntmps5
  go_wp2_with (first
    | (go_at_call 7; refine (HP8.out _ (HE.out.on HB3.out)).mono ?_; rintro e w6 ⟨rfl, hb6⟩; have HB6 := Lib.hid (HB3.out.trans ((hb6.trans ((below1 w6 (.cells (rqC 0 ⟨#[]⟩ 0 kpZ 0 lpZ) 33)).mono hb6.size)).mono HB3.out.size)); clear hb6)
    | (go_at_call 11; refine (HPR.out _ d2 l2 HD2.out (HE.out.on HB2.out)).mono ?_; rintro e w3 ⟨rfl, hb3⟩; have HB3 := Lib.hid (HB2.out.trans (hb3.mono HB2.out.size)); have HX3 := Lib.hid (HX2.out.on hb3); clear hb3)
    | (go_at_call 12; refine (HCP.out _ (HA.out.on HB1.out)).mono ?_; rintro e w2 ⟨d2, l2, rfl, HD2, hb2⟩; have HB2 := Lib.hid (HB1.out.trans (hb2.mono HB1.out.size)); have HX2 := Lib.hid (HX1.out.on hb2); clear hb2)
    | (go_at_call 9; refine (HF.out _ (HE.out.on HB0.out)).mono ?_; rintro e w1 ⟨rfl, hb1⟩; have HB1 := Lib.hid (HB0.out.trans (hb1.mono HB0.out.size)); have HX1 := Lib.hid (HX0.out.on hb1); clear hb1)
    | (refine wpL_load (by rfl) 33 (.tmp 2) rfl _ 0 rfl (rqC kd lb lf k no l).toList dd HX1.out.range hu hd (by rw [hz]; rfl) ?_; simp only [Array.toArray_toList]))
  go_ret
  exact ⟨rfl, HB6.out⟩

set_option maxHeartbeats 16000000 in
set_option maxRecDepth 100000 in
theorem rbBl (kd : Int) (lb : ByteArray) (lf : Int) (k : Kp) (no : Int) (l : Lp) (s : ByteArray) (w : World) (he : Env w) (ha : RqArg kd lb lf k no l w) (hs : s.size ≤ 140737488351232)
    (n : Int) (hO : printV kd lb lf k no l = .tuple #[.string ⟨#[]⟩, .int .i64 n]) (hn : n = 1 ∨ n = 2)
    (r : Req) (hr : reqR s = .ok r) (hu0 : printV r.v.kd r.v.lb r.v.lf r.v.c.at0 r.v.no (r.v.l.at none 0) = .tuple #[.string ⟨#[]⟩, .int .i64 2]) :
    Calls Tryz.prog 5 #[.agg (rqC kd lb lf k no l), .string s] w fun e w' => e = .returned (.bool true) ∧ Below w.heap.size w w' := by
  have HB0 := Lib.hid (below1 w (.cells (rqC kd lb lf k no l) 33))
  have HX0 := Lib.hid (Bk.new w 33 (rqC kd lb lf k no l))
  have HA := Lib.hid ha
  have HE := Lib.hid he
  have HF := Lib.hid (show ∀ wx, Env wx → _ from fun wx hx => rqfixed_any wx hx)
  have HCP := Lib.hid (show ∀ wx, RqArg kd lb lf k no l wx → Calls Tryz.prog 12 #[.agg (rqC kd lb lf k no l)] wx fun e w' => ∃ d l', e = .returned (.agg (rqC kd lb lf d no l')) ∧ Hid ((d.q = k.q ∧ l'.q = l.q) ∧ RqArg kd lb lf d no l' w') ∧ Below wx.heap.size wx w' from fun wx hx => (copyreq_any kd lb lf k no l wx hx).mono fun e w' ⟨d, l', h1, h2, h3, h4⟩ => ⟨d, l', h1, Lib.hid ⟨h2, h3⟩, h4⟩)
  have HPR := Lib.hid (show ∀ wx d l', (d.q = k.q ∧ l'.q = l.q) ∧ RqArg kd lb lf d no l' wx → Env wx → Calls Tryz.prog 11 #[.agg (rqC kd lb lf d no l')] wx fun e w' => e = .returned (.tuple #[.string ⟨#[]⟩, .int .i64 n]) ∧ Below wx.heap.size wx w' from fun wx d l' h1 h3 => (reqprint_arg h1.2 h3).mono fun e w' ⟨h4, h5⟩ => ⟨by rw [h4, printV_bareK h1.1.1 h1.1.2, hO], h5⟩)
  have hn0 : (n == 0) = false := by rcases hn with rfl | rfl <;> rfl
  have hsm := reqR_sm hr
  have HP8 := Lib.hid (show ∀ wx, Env wx → Calls Tryz.prog 7 #[.string s] wx fun e w' => ∃ cl lp, e = .returned (.tuple #[.agg (rqC r.v.kd r.v.lb r.v.lf cl r.v.no lp), .int .i64 0, .int .i64 0]) ∧ Hid ((cl.q = r.v.c ∧ lp.q = r.v.l) ∧ RqM w' cl lp) ∧ Below wx.heap.size wx w' from fun wx hx => (reqparse_any s wx hs hx).mono fun e w' h => by
    obtain ⟨cl, lp, h1, h2, h3, h4⟩ := rq_sum h
    rw [hr] at h1 h2
    exact ⟨cl, lp, h2, Lib.hid ⟨h1, h3⟩, h4⟩)
  have HPX := Lib.hid (show ∀ wx c p, (c.q = r.v.c ∧ p.q = r.v.l) ∧ RqM wx c p → Env wx → Calls Tryz.prog 11 #[.agg (rqC r.v.kd r.v.lb r.v.lf c r.v.no p)] wx fun e w' => e = .returned (.tuple #[.string ⟨#[]⟩, .int .i64 2]) ∧ Below wx.heap.size wx w' from fun wx c p h1 h3 => (reqprint_arg (rqarg_read hr h1.1.1 h1.1.2 h1.2) h3).mono fun e w' ⟨h4, h5⟩ => ⟨by rw [h4, printV_bareK (h1.1.1.trans (at0_q _).symm) (show p.q = (r.v.l.at none 0).q from h1.1.2), hu0], h5⟩)
  have HCK := Lib.hid (show ∀ wx c p, (c.q = r.v.c ∧ p.q = r.v.l) ∧ RqM wx c p → Env wx → Calls Tryz.prog 14 #[.agg (rqC r.v.kd r.v.lb r.v.lf c r.v.no p)] wx fun e w' => e = .returned (.bool true) ∧ Below wx.heap.size wx w' from fun wx c p h1 h3 => (reqcheck_arg (rqarg_read hr h1.1.1 h1.1.2 h1.2) h3).mono fun e w' ⟨h4, h5⟩ => ⟨by rw [h4, check_read hr h1.1.1 h1.1.2], h5⟩)
  have HPU := Lib.hid (show ∀ wx, Env wx → _ from fun wx hx => (reqparse_any ⟨#[]⟩ wx (by decide) hx).mono fun e w' h => rq_sum h)
  generalize reqQ (reqR ⟨#[]⟩) = Z at *
  generalize plQ (reqR ⟨#[]⟩) = zp at *
  generalize erQ (reqR ⟨#[]⟩) = ze at *
  generalize r.v = V at *
  obtain ⟨dd, hu, hd⟩ := rowReq
  have hz := sizeReq
  have hst := fun (w : World) (kd : Int) (lb : ByteArray) (lf : Int) (cl : Kp) (no : Int) (lp : Lp) => run_storeReq w kd lb lf cl no lp
  clear he ha hs hO hr hn hu0 hsm
  go_enter Tryz.func5, Tryz.ntmps5
  go_wp2_with (first
    | (go_at_call 14; refine (HCK.out _ c6 p6 ⟨HQ6.out, HM8.out⟩ (HE.out.on HB8.out)).mono ?_; rintro e w9 ⟨rfl, hb9⟩; have HB9 := Lib.hid (HB8.out.trans (hb9.mono HB8.out.size)); have HM9 := Lib.hid (HM8.out.on hb9); have HY9 := Lib.hid (HY8.out.on hb9); have HZ9 := Lib.hid (HZ8.out.on hb9); clear hb9)
    | (go_at_call 7; refine (HPU.out _ (HE.out.on HB7.out)).mono ?_; rintro e w8 ⟨c8, p8, h8, rfl, h9, hb8⟩; have hb8' := hb8.trans ((below1 w8 (.cells (rqC Z.kd Z.lb Z.lf c8 Z.no p8) 33)).mono hb8.size); have HB8 := Lib.hid (HB7.out.trans (hb8'.mono HB7.out.size)); have HM8 := Lib.hid (HM7.out.on hb8'); have HY8 := Lib.hid (HY7.out.on hb8'); have HZ8 := Lib.hid (Bk.new w8 33 (rqC Z.kd Z.lb Z.lf c8 Z.no p8)); clear hb8 hb8' h8 h9)
    | (go_at_call 11; refine (HPX.out _ c6 p6 ⟨HQ6.out, HM6.out⟩ (HE.out.on HB6.out)).mono ?_; rintro e w7 ⟨rfl, hb7⟩; have HB7 := Lib.hid (HB6.out.trans (hb7.mono HB6.out.size)); have HM7 := Lib.hid (HM6.out.on hb7); have HY7 := Lib.hid (HY6.out.on hb7); clear hb7)
    | (go_at_call 7; refine (HP8.out _ (HE.out.on HB3.out)).mono ?_; rintro e w6 ⟨c6, p6, rfl, h6, hb6⟩; have hb6' := hb6.trans ((below1 w6 (.cells (rqC V.kd V.lb V.lf c6 V.no p6) 33)).mono hb6.size); have HB6 := Lib.hid (HB3.out.trans (hb6'.mono HB3.out.size)); have HY6 := Lib.hid (Bk.new w6 33 (rqC V.kd V.lb V.lf c6 V.no p6)); have HQ6 := Lib.hid h6.out.1; have HM6 := Lib.hid (h6.out.2.on (below1 w6 (.cells (rqC V.kd V.lb V.lf c6 V.no p6) 33))); clear hb6 hb6' h6)
    | (go_at_call 11; refine (HPR.out _ d2 l2 HD2.out (HE.out.on HB2.out)).mono ?_; rintro e w3 ⟨rfl, hb3⟩; have HB3 := Lib.hid (HB2.out.trans (hb3.mono HB2.out.size)); have HX3 := Lib.hid (HX2.out.on hb3); clear hb3)
    | (go_at_call 12; refine (HCP.out _ (HA.out.on HB1.out)).mono ?_; rintro e w2 ⟨d2, l2, rfl, HD2, hb2⟩; have HB2 := Lib.hid (HB1.out.trans (hb2.mono HB1.out.size)); have HX2 := Lib.hid (HX1.out.on hb2); clear hb2)
    | (go_at_call 9; refine (HF.out _ (HE.out.on HB0.out)).mono ?_; rintro e w1 ⟨rfl, hb1⟩; have HB1 := Lib.hid (HB0.out.trans (hb1.mono HB0.out.size)); have HX1 := Lib.hid (HX0.out.on hb1); clear hb1)
    | (refine wpL_load (by rfl) 33 (.tmp 10) rfl _ 0 rfl (rqC V.kd V.lb V.lf c6 V.no p6).toList dd HY8.out.range hu hd (by rw [hz]; rfl) ?_; simp only [Array.toArray_toList])
    | (refine wpL_load (by rfl) 33 (.tmp 10) rfl _ 0 rfl (rqC V.kd V.lb V.lf c6 V.no p6).toList dd HY6.out.range hu hd (by rw [hz]; rfl) ?_; simp only [Array.toArray_toList])
    | (refine wpL_load (by rfl) 33 (.tmp 2) rfl _ 0 rfl (rqC kd lb lf k no l).toList dd HX1.out.range hu hd (by rw [hz]; rfl) ?_; simp only [Array.toArray_toList]))
  go_ret
  exact ⟨rfl, HB9.out⟩

set_option maxHeartbeats 16000000 in
set_option maxRecDepth 100000 in
theorem rbBs (kd : Int) (lb : ByteArray) (lf : Int) (k : Kp) (no : Int) (l : Lp) (s : ByteArray) (w : World) (he : Env w) (ha : RqArg kd lb lf k no l w) (hs : s.size ≤ 140737488351232)
    (n : Int) (hO : printV kd lb lf k no l = .tuple #[.string ⟨#[]⟩, .int .i64 n]) (hn : n = 1 ∨ n = 2)
    (r : Req) (hr : reqR s = .ok r) (U : ByteArray) (hu0 : printV r.v.kd r.v.lb r.v.lf r.v.c.at0 r.v.no (r.v.l.at none 0) = .tuple #[.string U, .int .i64 0]) (hU : ParsesAs U r.v) :
    Calls Tryz.prog 5 #[.agg (rqC kd lb lf k no l), .string s] w fun e w' => e = .returned (.bool true) ∧ Below w.heap.size w w' := by
  have HB0 := Lib.hid (below1 w (.cells (rqC kd lb lf k no l) 33))
  have HX0 := Lib.hid (Bk.new w 33 (rqC kd lb lf k no l))
  have HA := Lib.hid ha
  have HE := Lib.hid he
  have HF := Lib.hid (show ∀ wx, Env wx → _ from fun wx hx => rqfixed_any wx hx)
  have HCP := Lib.hid (show ∀ wx, RqArg kd lb lf k no l wx → Calls Tryz.prog 12 #[.agg (rqC kd lb lf k no l)] wx fun e w' => ∃ d l', e = .returned (.agg (rqC kd lb lf d no l')) ∧ Hid ((d.q = k.q ∧ l'.q = l.q) ∧ RqArg kd lb lf d no l' w') ∧ Below wx.heap.size wx w' from fun wx hx => (copyreq_any kd lb lf k no l wx hx).mono fun e w' ⟨d, l', h1, h2, h3, h4⟩ => ⟨d, l', h1, Lib.hid ⟨h2, h3⟩, h4⟩)
  have HPR := Lib.hid (show ∀ wx d l', (d.q = k.q ∧ l'.q = l.q) ∧ RqArg kd lb lf d no l' wx → Env wx → Calls Tryz.prog 11 #[.agg (rqC kd lb lf d no l')] wx fun e w' => e = .returned (.tuple #[.string ⟨#[]⟩, .int .i64 n]) ∧ Below wx.heap.size wx w' from fun wx d l' h1 h3 => (reqprint_arg h1.2 h3).mono fun e w' ⟨h4, h5⟩ => ⟨by rw [h4, printV_bareK h1.1.1 h1.1.2, hO], h5⟩)
  have hn0 : (n == 0) = false := by rcases hn with rfl | rfl <;> rfl
  have hsm := reqR_sm hr
  have HP8 := Lib.hid (show ∀ wx, Env wx → Calls Tryz.prog 7 #[.string s] wx fun e w' => ∃ cl lp, e = .returned (.tuple #[.agg (rqC r.v.kd r.v.lb r.v.lf cl r.v.no lp), .int .i64 0, .int .i64 0]) ∧ Hid ((cl.q = r.v.c ∧ lp.q = r.v.l) ∧ RqM w' cl lp) ∧ Below wx.heap.size wx w' from fun wx hx => (reqparse_any s wx hs hx).mono fun e w' h => by
    obtain ⟨cl, lp, h1, h2, h3, h4⟩ := rq_sum h
    rw [hr] at h1 h2
    exact ⟨cl, lp, h2, Lib.hid ⟨h1, h3⟩, h4⟩)
  have HPX := Lib.hid (show ∀ wx c p, (c.q = r.v.c ∧ p.q = r.v.l) ∧ RqM wx c p → Env wx → Calls Tryz.prog 11 #[.agg (rqC r.v.kd r.v.lb r.v.lf c r.v.no p)] wx fun e w' => e = .returned (.tuple #[.string U, .int .i64 0]) ∧ Below wx.heap.size wx w' from fun wx c p h1 h3 => (reqprint_arg (rqarg_read hr h1.1.1 h1.1.2 h1.2) h3).mono fun e w' ⟨h4, h5⟩ => ⟨by rw [h4, printV_bareK (h1.1.1.trans (at0_q _).symm) (show p.q = (r.v.l.at none 0).q from h1.1.2), hu0], h5⟩)
  have HCK := Lib.hid (show ∀ wx c p, (c.q = r.v.c ∧ p.q = r.v.l) ∧ RqM wx c p → Env wx → Calls Tryz.prog 14 #[.agg (rqC r.v.kd r.v.lb r.v.lf c r.v.no p)] wx fun e w' => e = .returned (.bool true) ∧ Below wx.heap.size wx w' from fun wx c p h1 h3 => (reqcheck_arg (rqarg_read hr h1.1.1 h1.1.2 h1.2) h3).mono fun e w' ⟨h4, h5⟩ => ⟨by rw [h4, check_read hr h1.1.1 h1.1.2], h5⟩)
  have HPU := Lib.hid (show ∀ wx, Env wx → _ from fun wx hx => parses_as hU wx hx)
  have HS2 := Lib.hid (show ∀ wx a b x y, (a.q = r.v.c ∧ x.q = r.v.l) ∧ RqM wx a x → (b.q = r.v.c ∧ y.q = r.v.l) ∧ RqM wx b y → _ from fun wx a b x y h1 h2 => samereq_yes r.v hsm.1 hsm.2 a b x y wx h1.2 h2.2 h1.1.1 h2.1.1 h1.1.2 h2.1.2)
  generalize r.v = V at *
  obtain ⟨dd, hu, hd⟩ := rowReq
  have hz := sizeReq
  have hst := fun (w : World) (kd : Int) (lb : ByteArray) (lf : Int) (cl : Kp) (no : Int) (lp : Lp) => run_storeReq w kd lb lf cl no lp
  clear he ha hs hO hr hn hu0 hsm hU
  go_enter Tryz.func5, Tryz.ntmps5
  go_wp2_with (first
    | (go_at_call 10; refine (HS2.out _ c6 c8 p6 p8 ⟨HQ6.out, HM9.out⟩ ⟨HQ8.out, HN9.out⟩).mono ?_; rintro e w10 ⟨rfl, hb10⟩; have HB10 := Lib.hid (HB9.out.trans (hb10.mono HB9.out.size)); clear hb10)
    | (go_at_call 14; refine (HCK.out _ c6 p6 ⟨HQ6.out, HM8.out⟩ (HE.out.on HB8.out)).mono ?_; rintro e w9 ⟨rfl, hb9⟩; have HB9 := Lib.hid (HB8.out.trans (hb9.mono HB8.out.size)); have HM9 := Lib.hid (HM8.out.on hb9); have HY9 := Lib.hid (HY8.out.on hb9); have HZ9 := Lib.hid (HZ8.out.on hb9); have HN9 := Lib.hid (HN8.out.on hb9); clear hb9)
    | (go_at_call 7; refine (HPU.out _ (HE.out.on HB7.out)).mono ?_; rintro e w8 ⟨c8, p8, rfl, h8, hb8⟩; have hb8' := hb8.trans ((below1 w8 (.cells (rqC V.kd V.lb V.lf c8 V.no p8) 33)).mono hb8.size); have HB8 := Lib.hid (HB7.out.trans (hb8'.mono HB7.out.size)); have HM8 := Lib.hid (HM7.out.on hb8'); have HY8 := Lib.hid (HY7.out.on hb8'); have HZ8 := Lib.hid (Bk.new w8 33 (rqC V.kd V.lb V.lf c8 V.no p8)); have HQ8 := Lib.hid h8.out.1; have HN8 := Lib.hid (h8.out.2.on (below1 w8 (.cells (rqC V.kd V.lb V.lf c8 V.no p8) 33))); clear hb8 hb8' h8)
    | (go_at_call 11; refine (HPX.out _ c6 p6 ⟨HQ6.out, HM6.out⟩ (HE.out.on HB6.out)).mono ?_; rintro e w7 ⟨rfl, hb7⟩; have HB7 := Lib.hid (HB6.out.trans (hb7.mono HB6.out.size)); have HM7 := Lib.hid (HM6.out.on hb7); have HY7 := Lib.hid (HY6.out.on hb7); clear hb7)
    | (go_at_call 7; refine (HP8.out _ (HE.out.on HB3.out)).mono ?_; rintro e w6 ⟨c6, p6, rfl, h6, hb6⟩; have hb6' := hb6.trans ((below1 w6 (.cells (rqC V.kd V.lb V.lf c6 V.no p6) 33)).mono hb6.size); have HB6 := Lib.hid (HB3.out.trans (hb6'.mono HB3.out.size)); have HY6 := Lib.hid (Bk.new w6 33 (rqC V.kd V.lb V.lf c6 V.no p6)); have HQ6 := Lib.hid h6.out.1; have HM6 := Lib.hid (h6.out.2.on (below1 w6 (.cells (rqC V.kd V.lb V.lf c6 V.no p6) 33))); clear hb6 hb6' h6)
    | (go_at_call 11; refine (HPR.out _ d2 l2 HD2.out (HE.out.on HB2.out)).mono ?_; rintro e w3 ⟨rfl, hb3⟩; have HB3 := Lib.hid (HB2.out.trans (hb3.mono HB2.out.size)); have HX3 := Lib.hid (HX2.out.on hb3); clear hb3)
    | (go_at_call 12; refine (HCP.out _ (HA.out.on HB1.out)).mono ?_; rintro e w2 ⟨d2, l2, rfl, HD2, hb2⟩; have HB2 := Lib.hid (HB1.out.trans (hb2.mono HB1.out.size)); have HX2 := Lib.hid (HX1.out.on hb2); clear hb2)
    | (go_at_call 9; refine (HF.out _ (HE.out.on HB0.out)).mono ?_; rintro e w1 ⟨rfl, hb1⟩; have HB1 := Lib.hid (HB0.out.trans (hb1.mono HB0.out.size)); have HX1 := Lib.hid (HX0.out.on hb1); clear hb1)
    | (refine wpL_load (by rfl) 33 (.tmp 15) rfl _ 0 rfl (rqC V.kd V.lb V.lf c8 V.no p8).toList dd HZ9.out.range hu hd (by rw [hz]; rfl) ?_; simp only [Array.toArray_toList])
    | (refine wpL_load (by rfl) 33 (.tmp 10) rfl _ 0 rfl (rqC V.kd V.lb V.lf c6 V.no p6).toList dd HY9.out.range hu hd (by rw [hz]; rfl) ?_; simp only [Array.toArray_toList])
    | (refine wpL_load (by rfl) 33 (.tmp 10) rfl _ 0 rfl (rqC V.kd V.lb V.lf c6 V.no p6).toList dd HY8.out.range hu hd (by rw [hz]; rfl) ?_; simp only [Array.toArray_toList])
    | (refine wpL_load (by rfl) 33 (.tmp 10) rfl _ 0 rfl (rqC V.kd V.lb V.lf c6 V.no p6).toList dd HY6.out.range hu hd (by rw [hz]; rfl) ?_; simp only [Array.toArray_toList])
    | (refine wpL_load (by rfl) 33 (.tmp 2) rfl _ 0 rfl (rqC kd lb lf k no l).toList dd HX1.out.range hu hd (by rw [hz]; rfl) ?_; simp only [Array.toArray_toList]))
  go_ret
  exact ⟨rfl, HB10.out⟩

theorem reqback_walk (kd : Int) (lb : ByteArray) (lf : Int) (k : Kp) (no : Int) (l : Lp) (s : ByteArray) (w : World) (he : Env w) (ha : RqArg kd lb lf k no l w) (hs : s.size ≤ 140737488351232) :
    Calls Tryz.prog 5 #[.agg (rqC kd lb lf k no l), .string s] w fun e w' => e = .returned (.bool true) ∧ Below w.heap.size w w' := by
  cases hr : reqR s with
  | error e =>
    obtain ⟨m, p⟩ := e
    rcases print_cases ha with ⟨O, h1, h2⟩ | ⟨n, h1, h2, _⟩
    · exact rbAe kd lb lf k no l s w he ha hs O h1 h2 m p hr
    · exact rbBe kd lb lf k no l s w he ha hs n h1 h2 m p hr
  | ok r =>
    have hq : r.v.c.at0.q = r.v.c := at0_q _
    have hx : RqArg r.v.kd r.v.lb r.v.lf r.v.c.at0 r.v.no (r.v.l.at none 0) w → True := fun _ => trivial
    have hck := check_read hr hq (show (r.v.l.at none 0).q = r.v.l from rfl)
    obtain ⟨sm1, sm2⟩ := reqR_sm hr
    have hc : (∃ U, printV r.v.kd r.v.lb r.v.lf r.v.c.at0 r.v.no (r.v.l.at none 0) = .tuple #[.string U, .int .i64 0] ∧ ParsesAs U r.v) ∨ printV r.v.kd r.v.lb r.v.lf r.v.c.at0 r.v.no (r.v.l.at none 0) = .tuple #[.string ⟨#[]⟩, .int .i64 2] := by
      unfold printV
      rw [if_pos hck]
      by_cases hz : 4096 < (outQ r.v.kd r.v.lb r.v.lf r.v.c.at0 r.v.no (r.v.l.at none 0)).size
      · rw [if_pos hz]; exact .inr rfl
      · rw [if_neg hz]
        obtain ⟨r', h1, h2⟩ := req_back hck (kp_nb (hq.symm ▸ sm1)) (lp_nb (l := r.v.l.at none 0) sm2)
        refine .inl ⟨_, rfl, by omega, r', h1, ?_⟩
        rw [h2, hq]
        rfl
    rcases hc with ⟨U, hu0, hU⟩ | hu0
    · rcases print_cases ha with ⟨O, h1, h2⟩ | ⟨n, h1, h2, _⟩
      · exact rbAs kd lb lf k no l s w he ha hs O h1 h2 r hr U hu0 hU
      · exact rbBs kd lb lf k no l s w he ha hs n h1 h2 r hr U hu0 hU
    · rcases print_cases ha with ⟨O, h1, h2⟩ | ⟨n, h1, h2, _⟩
      · exact rbAl kd lb lf k no l s w he ha hs O h1 h2 r hr hu0
      · exact rbBl kd lb lf k no l s w he ha hs n h1 h2 r hr hu0
end Go.Proofs.YtfmkfabbiifolaaGreatDoor
