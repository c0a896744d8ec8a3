/-
  Joined of: LrdR, PrsT, Rqp.
-/
import Derived.Test.YtfmkfabbiifolaaGreatDoorJa17
import Derived.Test.YtfmkfabbiifolaaGreatDoorJa03
set_option linter.unusedVariables false
set_option linter.unusedSimpArgs false
/-
  Contract: clause.read, of a clause: the text is read, or a fault is thrown and caught.
-/
namespace Go.Proofs.YtfmkfabbiifolaaGreatDoor
open Go.RowKit

theorem lread_put {w0 w : World} {x y : Int} (h : Rl w0 w x y) (u0 u1 u2 u3 u4 u5 : Value) (x' y' : Int) (W : World)
    (hW : W = ((((((((w.setCell ⟨w0.heap.size, 0, none⟩ u0).setCell ⟨w0.heap.size, 1, none⟩ u1).setCell ⟨w0.heap.size, 2, none⟩ u2).setCell ⟨w0.heap.size, 3, none⟩ u3).setCell ⟨w0.heap.size, 4, none⟩ u4).setCell ⟨w0.heap.size, 5, none⟩ u5).setCell ⟨w0.heap.size + 1, 0, none⟩ (.int .i64 x')).setCell ⟨w0.heap.size + 1 + 1, 0, none⟩ (.int .i64 y'))) :
    Bk W w0.heap.size 28 #[u0, u1, u2, u3, u4, u5] ∧ Boxed W (w0.heap.size + 1) 3 (.int .i64 x') ∧ Boxed W (w0.heap.size + 1 + 1) 34 (.int .i64 y') ∧ Below w0.heap.size w0 W ∧ Above (w0.heap.size + 3) w W ∧ w.heap.size ≤ W.heap.size := by
  have hr := load6 h.r u0 u1 u2 u3 u4 u5
  have hs := set6 (w := w) (b := w0.heap.size) (Nat.le_refl _) u0 u1 u2 u3 u4 u5
  have hv := (Above.refl (w0.heap.size + 3) w).set6 (b := w0.heap.size) (by omega) u0 u1 u2 u3 u4 u5
  have ha : Boxed (((((((w.setCell ⟨w0.heap.size, 0, none⟩ u0).setCell ⟨w0.heap.size, 1, none⟩ u1).setCell ⟨w0.heap.size, 2, none⟩ u2).setCell ⟨w0.heap.size, 3, none⟩ u3).setCell ⟨w0.heap.size, 4, none⟩ u4).setCell ⟨w0.heap.size, 5, none⟩ u5)) (w0.heap.size + 1) 3 (.int .i64 x) :=
    ((((((Bk.other h.a (by omega) 0 _).other (by omega) 1 _).other (by omega) 2 _).other (by omega) 3 _).other (by omega) 4 _).other (by omega) 5 _)
  have he : Boxed (((((((w.setCell ⟨w0.heap.size, 0, none⟩ u0).setCell ⟨w0.heap.size, 1, none⟩ u1).setCell ⟨w0.heap.size, 2, none⟩ u2).setCell ⟨w0.heap.size, 3, none⟩ u3).setCell ⟨w0.heap.size, 4, none⟩ u4).setCell ⟨w0.heap.size, 5, none⟩ u5)) (w0.heap.size + 1 + 1) 34 (.int .i64 y) :=
    ((((((Bk.other h.e (by omega) 0 _).other (by omega) 1 _).other (by omega) 2 _).other (by omega) 3 _).other (by omega) 4 _).other (by omega) 5 _)
  subst hW
  have hb := hs.trans ((setB (b := w0.heap.size + 1) (by omega) 0 (.int .i64 x')).trans (setB (b := w0.heap.size + 1 + 1) (by omega) 0 (.int .i64 y')))
  exact ⟨(hr.other (by omega) 0 _).other (by omega) 0 _, (Boxed.set _ ha).other (by omega) _, Boxed.set _ (he.other (by omega) _), h.below.trans hb, (hv.set (by omega) 0 _).set (by omega) 0 _, hb.size⟩
theorem lread_tell {w0 W : World} {u0 u1 u2 u3 u4 u5 : Value} {x y : Int} (hr : Bk W w0.heap.size 28 #[u0, u1, u2, u3, u4, u5]) (ha : Boxed W (w0.heap.size + 1) 3 (.int .i64 x)) (he : Boxed W (w0.heap.size + 1 + 1) 34 (.int .i64 y)) {tmps : Array Value} (h4 : tmps[4]? = some (.pointer (some ⟨w0.heap.size, 0, none⟩))) (h5 : tmps[5]? = some (.pointer (some ⟨w0.heap.size + 1, 0, none⟩))) (h6 : tmps[6]? = some (.pointer (some ⟨w0.heap.size + 1 + 1, 0, none⟩))) :
    (results Tryz.f87 tmps).run Tryz.prog W = .ok (.tuple #[.agg #[u0, u1, u2, u3, u4, u5], .int .i64 x, .int .i64 y]) W := by
  obtain ⟨q0, q1, q2, q3, q4, q5⟩ := hr.six
  have q7 := Boxed.cell ha
  have q8 := Boxed.cell he
  simp [results, Tryz.results87, go_sem, h4, h5, h6, q0, q1, q2, q3, q4, q5, q7, q8]

set_option maxHeartbeats 8000000 in
set_option maxRecDepth 100000 in
theorem lread_throws (s : ByteArray) (w : World) (n p : Int) (hm : s.size ≤ 140737488351232) (he : Env w) (hx : (allL s.data.toList).err = 0) (hR : saidR s (allL s.data.toList).toks 1 0 = .error (n, p)) :
    Calls Tryz.prog 87 #[.string s, .func (.func 88) #[] #[]] w (ParseLitPost w (.error (n, p))) := by
  have HA := Lib.hid (show ∀ wx, Env wx → Calls Tryz.prog 15 #[.string s] wx fun e w' => ∃ q c, e = .returned (.tuple #[.slice q (allL s.data.toList).toks.length c, .int .i64 0, .int .i64 0]) ∧ Rd encT 3 w' w'.heap.size q (allL s.data.toList).toks ∧ Below wx.heap.size wx w' from fun wx hx' => all_good s wx hm hx' hx)
  have HE := Lib.hid he
  have HS := Lib.hid (src_of s hx)
  have HC := Lib.hid (show ∀ wx pb q c, Ps wx pb s q c (allL s.data.toList).toks 0 → Calls Tryz.prog 88 #[.pointer (some ⟨pb, 0, none⟩)] wx fun e w' => e = .panicked (faultV n p) ∧ Only pb wx w' from fun wx pb q c hx' => (litOne_any wx pb s q c _ 0 hx').mono fun e w' h => by rw [hR] at h; exact h)
  generalize (allL s.data.toList).toks = ts at *
  have hmf : ∀ (fn : Fn) (first cap : Array Value) (w : World), (Instr.makeFunc fn first cap).run Tryz.prog w = .ok (.func fn first cap) w := fun _ _ _ _ => rfl
  clear he hx hR
  go_enter_defers Tryz.func87, Tryz.ntmps87
  go_wp2_with (first
    | (go_at_call 15; refine (HA.out _ (HE.out.on (below3 w _ _ _))).mono ?_; rintro e w1 ⟨q, c, rfl, hr1, hb1⟩; have HQ := Lib.hid (Rl.start rfl rfl rfl hb1 0 0); have x0 := Boxed.cell HQ.out.1.a; have x1 := Boxed.cell HQ.out.1.e; have f0 := Boxed.frozen HQ.out.1.a; have f1 := Boxed.frozen HQ.out.1.e; have y0 := Boxed.cell HQ.out.2.a; have y1 := Boxed.cell HQ.out.2.e; have HPS := Lib.hid (Rl.parser (c := c) HQ.out.1 HQ.out.2 hr1 HS.out HE.out); have hgt : w.heap.size + 1 + 1 < w1.heap.size := HQ.out.1.e.lt; clear hb1 hr1)
    | (go_at_call 88; refine (HC.out _ _ _ _ HPS.out).mono ?_; rintro e w2 ⟨rfl, ho2⟩))
  have HRS := (HQ.out.2.on (below1 _ _)).only ho2 hgt
  refine leaves_cons (f := 117) (args := #[.pointer (some ⟨w.heap.size + 1, 0, none⟩), .pointer (some ⟨w.heap.size + 1 + 1, 0, none⟩)]) (by simp) (by simp [go_sem]) ?_
  refine (lcatch_fault (w.heap.size + 1) (w.heap.size + 1 + 1) n p 0 0 [] _ HRS.a HRS.e (by omega)).mono ?_
  rintro e u' w'' ⟨rfl, rfl, ha, he, ht⟩
  have HF := HRS.two ht ha he
  exact ⟨_, HF.tell rfl rfl rfl, rfl, HF.below⟩
set_option maxHeartbeats 8000000 in
set_option maxRecDepth 100000 in
theorem lread_late (s : ByteArray) (w : World) (x : Lq) (k : Nat) (hm : s.size ≤ 140737488351232) (he : Env w) (hx : (allL s.data.toList).err = 0) (hR : saidR s (allL s.data.toList).toks 1 0 = .ok (x, k)) (hk : ¬ (allL s.data.toList).toks.length ≤ k) :
    Calls Tryz.prog 87 #[.string s, .func (.func 88) #[] #[]] w (ParseLitPost w (.error (6, placeAt s (allL s.data.toList).toks k))) := by
  have HA := Lib.hid (show ∀ wx, Env wx → Calls Tryz.prog 15 #[.string s] wx fun e w' => ∃ q c, e = .returned (.tuple #[.slice q (allL s.data.toList).toks.length c, .int .i64 0, .int .i64 0]) ∧ Rd encT 3 w' w'.heap.size q (allL s.data.toList).toks ∧ Below wx.heap.size wx w' from fun wx hx' => all_good s wx hm hx' hx)
  have HE := Lib.hid he
  have HS := Lib.hid (src_of s hx)
  have HC := Lib.hid (show ∀ wx pb q c, Ps wx pb s q c (allL s.data.toList).toks 0 → Calls Tryz.prog 88 #[.pointer (some ⟨pb, 0, none⟩)] wx (LitPost wx pb s q c (allL s.data.toList).toks (.ok (x, k))) from fun wx pb q c hx' => hR ▸ litOne_any wx pb s q c _ 0 hx')
  have HN := Lib.hid (show ∀ wx pb q c, Ps wx pb s q c (allL s.data.toList).toks k → Calls Tryz.prog 109 #[.pointer (some ⟨pb, 0, none⟩)] wx fun e w' => e = .panicked (faultV 6 (placeAt s (allL s.data.toList).toks k)) ∧ Below wx.heap.size wx w' from fun wx pb q c hx' => end_bad wx pb s q c _ k hx' hk)
  generalize (allL s.data.toList).toks = ts at *
  have hmf : ∀ (fn : Fn) (first cap : Array Value) (w : World), (Instr.makeFunc fn first cap).run Tryz.prog w = .ok (.func fn first cap) w := fun _ _ _ _ => rfl
  clear he hx hR hk
  go_enter_defers Tryz.func87, Tryz.ntmps87
  go_wp2_with (first
    | (go_at_call 15; refine (HA.out _ (HE.out.on (below3 w _ _ _))).mono ?_; rintro e w1 ⟨q, c, rfl, hr1, hb1⟩; have HQ := Lib.hid (Rl.start rfl rfl rfl hb1 0 0); have x0 := Boxed.cell HQ.out.1.a; have x1 := Boxed.cell HQ.out.1.e; have f0 := Boxed.frozen HQ.out.1.a; have f1 := Boxed.frozen HQ.out.1.e; have y0 := Boxed.cell HQ.out.2.a; have y1 := Boxed.cell HQ.out.2.e; have HPS := Lib.hid (Rl.parser (c := c) HQ.out.1 HQ.out.2 hr1 HS.out HE.out); have hgt : w.heap.size + 1 + 1 < w1.heap.size := HQ.out.1.e.lt; clear hb1 hr1)
    | (go_at_call 88; refine (HC.out _ _ _ _ HPS.out).mono ?_; rintro e w2 ⟨q2, c2, rfl, hcm, hcf, hp2, ho2⟩; have HP2 := Lib.hid hp2; have HRS2 := Lib.hid ((HQ.out.2.on (below1 _ _)).only ho2 hgt); have HCM2 := Lib.hid hcm; have HCF2 := Lib.hid hcf; unfold Lp.agg; clear hcm hcf hp2 ho2)
    | (go_at_call 109; refine (HN.out _ _ _ _ (HP2.out.on (below1 _ _))).mono ?_; rintro e w3 ⟨rfl, hb3⟩))
  have HRS := (HRS2.out.on (below1 _ _)).on hb3
  refine leaves_cons (f := 117) (args := #[.pointer (some ⟨w.heap.size + 1, 0, none⟩), .pointer (some ⟨w.heap.size + 1 + 1, 0, none⟩)]) (by simp) (by simp [go_sem]) ?_
  refine (lcatch_fault (w.heap.size + 1) (w.heap.size + 1 + 1) 6 _ 0 0 [] _ HRS.a HRS.e (by omega)).mono ?_
  rintro e u' w'' ⟨rfl, rfl, ha, he, ht⟩
  have HF := HRS.two ht ha he
  exact ⟨_, HF.tell rfl rfl rfl, rfl, HF.below⟩
set_option maxHeartbeats 8000000 in
set_option maxRecDepth 100000 in
theorem lread_ok (s : ByteArray) (w : World) (x : Lq) (k : Nat) (hm : s.size ≤ 140737488351232) (he : Env w) (hx : (allL s.data.toList).err = 0) (hR : saidR s (allL s.data.toList).toks 1 0 = .ok (x, k)) (hk : (allL s.data.toList).toks.length ≤ k) :
    Calls Tryz.prog 87 #[.string s, .func (.func 88) #[] #[]] w (ParseLitPost w (.ok x)) := by
  have HA := Lib.hid (show ∀ wx, Env wx → Calls Tryz.prog 15 #[.string s] wx fun e w' => ∃ q c, e = .returned (.tuple #[.slice q (allL s.data.toList).toks.length c, .int .i64 0, .int .i64 0]) ∧ Rd encT 3 w' w'.heap.size q (allL s.data.toList).toks ∧ Below wx.heap.size wx w' from fun wx hx' => all_good s wx hm hx' hx)
  have HE := Lib.hid he
  have HS := Lib.hid (src_of s hx)
  have HC := Lib.hid (show ∀ wx pb q c, Ps wx pb s q c (allL s.data.toList).toks 0 → Calls Tryz.prog 88 #[.pointer (some ⟨pb, 0, none⟩)] wx (LitPost wx pb s q c (allL s.data.toList).toks (.ok (x, k))) from fun wx pb q c hx' => hR ▸ litOne_any wx pb s q c _ 0 hx')
  have HN := Lib.hid (show ∀ wx pb q c, Ps wx pb s q c (allL s.data.toList).toks k → Calls Tryz.prog 109 #[.pointer (some ⟨pb, 0, none⟩)] wx fun e w' => e = .returned (.tuple #[]) ∧ Below wx.heap.size wx w' from fun wx pb q c hx' => end_ok wx pb s q c _ k hx' hk)
  generalize (allL s.data.toList).toks = ts at *
  have hmf : ∀ (fn : Fn) (first cap : Array Value) (w : World), (Instr.makeFunc fn first cap).run Tryz.prog w = .ok (.func fn first cap) w := fun _ _ _ _ => rfl
  clear he hx hR hk
  go_enter_defers Tryz.func87, Tryz.ntmps87
  go_wp2_with (first
    | (go_at_call 15; refine (HA.out _ (HE.out.on (below3 w _ _ _))).mono ?_; rintro e w1 ⟨q, c, rfl, hr1, hb1⟩; have HQ := Lib.hid (Rl.start rfl rfl rfl hb1 0 0); have x0 := Boxed.cell HQ.out.1.a; have x1 := Boxed.cell HQ.out.1.e; have f0 := Boxed.frozen HQ.out.1.a; have f1 := Boxed.frozen HQ.out.1.e; have y0 := Boxed.cell HQ.out.2.a; have y1 := Boxed.cell HQ.out.2.e; have HPS := Lib.hid (Rl.parser (c := c) HQ.out.1 HQ.out.2 hr1 HS.out HE.out); have hgt : w.heap.size + 1 + 1 < w1.heap.size := HQ.out.1.e.lt; clear hb1 hr1)
    | (go_at_call 88; refine (HC.out _ _ _ _ HPS.out).mono ?_; rintro e w2 ⟨q2, c2, rfl, hcm, hcf, hp2, ho2⟩; have HP2 := Lib.hid hp2; have HRS2 := Lib.hid ((HQ.out.2.on (below1 _ _)).only ho2 hgt); have HCM2 := Lib.hid hcm; have HCF2 := Lib.hid hcf; unfold Lp.agg; clear hcm hcf hp2 ho2)
    | (go_at_call 109; refine (HN.out _ _ _ _ (HP2.out.on (below1 _ _))).mono ?_; rintro e w3 ⟨rfl, hb3⟩; have HRS3 := Lib.hid ((HRS2.out.on (below1 _ _)).on hb3); have HCM3 := Lib.hid ((HCM2.out.grow (below1 _ _)).grow hb3); have HW3 := Lib.hid ((Bk.new w2 _ _).on hb3); obtain ⟨d0, d1, d2, d3, d4, d5⟩ := HW3.out.six; obtain ⟨r0, r1, r2, r3, r4, r5⟩ := HRS3.out.r.six; obtain ⟨z0, z1, z2, z3, z4, z5, z6⟩ := HRS3.out.r.softs; have a0 := Boxed.cell HRS3.out.a; have a1 := Boxed.cell HRS3.out.e; have a2 := Boxed.frozen HRS3.out.a; have a3 := Boxed.frozen HRS3.out.e; clear hb3))
  obtain ⟨gr, ga, ge, gb, gv, gs⟩ := lread_put HRS3.out (.int .u8 x.kind) (.string x.who.v) (.string x.who.s) (.int .i64 x.who.n) (.string x.pred) (.slice q2 x.args.length c2) 0 0 _ rfl
  refine leaves_cons (f := 117) (args := #[.pointer (some ⟨w.heap.size + 1, 0, none⟩), .pointer (some ⟨w.heap.size + 1 + 1, 0, none⟩)]) (by simp) (by simp [go_sem]) ?_
  refine (lcatch_idle (w.heap.size + 1) (w.heap.size + 1 + 1) _).mono ?_
  rintro e u' w'' ⟨rfl, rfl, rfl⟩
  have hf : ∀ b, q2 = some b → w.heap.size + 3 ≤ b.block := fun b hb => Nat.le_trans (by simp; omega) (HCF2.out b hb)
  exact ⟨_, lread_tell gr ga ge rfl rfl rfl, q2, c2, rfl, gv.rd HCM3.out hf gs, fun b hb => Nat.le_trans (by omega) (hf b hb), gb⟩

theorem lcread_any (s : ByteArray) (w : World) (hm : s.size ≤ 140737488351232) (he : Env w) :
    Calls Tryz.prog 87 #[.string s, .func (.func 88) #[] #[]] w (ParseLitPost w (parseLitR s)) := by
  unfold parseLitR
  by_cases hx : (allL s.data.toList).err = 0
  · rw [if_pos hx]
    cases hR : saidR s (allL s.data.toList).toks 1 0 with
    | error np =>
      obtain ⟨n, p⟩ := np
      exact lread_throws s w n p hm he hx hR
    | ok xk =>
      obtain ⟨x, k⟩ := xk
      unfold wholeR
      by_cases hk : (allL s.data.toList).toks.length ≤ k
      · simp only [if_pos hk]
        exact lread_ok s w x k hm he hx hR hk
      · simp only [if_neg hk]
        exact lread_late s w x k hm he hx hR hk
  · rw [if_neg hx]
    exact lread_bad s w _ hm he hx
end Go.Proofs.YtfmkfabbiifolaaGreatDoor

/-
  Contracts: clause.Parse, clause.ParseLit.
-/
namespace Go.Proofs.YtfmkfabbiifolaaGreatDoor
open Go.RowKit

set_option maxHeartbeats 8000000 in
set_option maxRecDepth 100000 in
theorem parse_any (s : ByteArray) (w : World) (hm : s.size ≤ 140737488351232) (he : Env w) :
    Calls Tryz.prog 47 #[.string s] w (ParsePost w (parseR s)) := by
  have HB := Lib.hid (below1 w)
  have HC := Lib.hid (show ∀ o, Calls Tryz.prog 84 #[.string s, .func (.func 85) #[] #[]] (w.alloc o) (ParsePost (w.alloc o) (parseR s)) from fun o => cread_any s _ hm (he.on (below1 w o)))
  generalize parseR s = R at *
  clear he
  match R, HC with
  | .error (n, p), HC =>
    go_enter Tryz.func47, Tryz.ntmps47
    go_wp2_with (go_at_call 84; refine (HC.out _).mono ?_; rintro e w1 ⟨rfl, hb1⟩; have HZ := Lib.hid ((Bk.new w _ _).on hb1); have HB1 := Lib.hid ((HB.out _).trans (hb1.mono (HB.out _).size)); obtain ⟨r0, r1, r2, r3, r4, r5, r6⟩ := HZ.out.seven; obtain ⟨z0, z1, z2, z3, z4, z5, z6⟩ := HZ.out.softs; unfold kpZ lpZ Kp.agg tmZ; clear hb1)
    obtain ⟨q0, q1, q2, q3, q4, q5, q6⟩ := (load7 HZ.out (.int .u8 0) (.string ⟨#[]⟩) (.string ⟨#[]⟩) (.int .i64 0) (.string ⟨#[]⟩) (.slice none 0 0) (.slice none 0 0)).seven
    refine bodyPost_ret (v := .tuple #[kpZ.agg, .int .i64 p, .int .i64 n]) ?_ rfl ?_
    · simp [results, Tryz.results47, go_sem, q0, q1, q2, q3, q4, q5, q6, kpZ, lpZ, Kp.agg, tmZ]
    · exact ⟨rfl, HB1.out.trans (set7 (Nat.le_refl _) _ _ _ _ _ _ _)⟩
  | .ok x, HC =>
    go_enter Tryz.func47, Tryz.ntmps47
    go_wp2_with (go_at_call 84; refine (HC.out _).mono ?_; rintro e w1 ⟨cl, hcl, rfl, hcm, hcf, hb1⟩; have HZ := Lib.hid ((Bk.new w _ _).on hb1); have HB1 := Lib.hid ((HB.out _).trans (hb1.mono (HB.out _).size)); have HCL := Lib.hid hcl; have HCM := Lib.hid hcm; have HCF := Lib.hid hcf; obtain ⟨r0, r1, r2, r3, r4, r5, r6⟩ := HZ.out.seven; obtain ⟨z0, z1, z2, z3, z4, z5, z6⟩ := HZ.out.softs; unfold Kp.agg; clear hb1 hcl hcm hcf)
    obtain ⟨q0, q1, q2, q3, q4, q5, q6⟩ := (load7 HZ.out (.int .u8 cl.head.kind) (.string cl.head.who.v) (.string cl.head.who.s) (.int .i64 cl.head.who.n) (.string cl.head.pred) (.slice cl.head.ptr cl.head.args.length cl.head.cap) (.slice cl.ptr cl.body.length cl.cap)).seven
    refine bodyPost_ret (v := .tuple #[cl.agg, .int .i64 0, .int .i64 0]) ?_ rfl ?_
    · simp [results, Tryz.results47, go_sem, q0, q1, q2, q3, q4, q5, q6, Kp.agg]
    · have hf := HCF.out.mono (B' := w.heap.size + 1) (by simp)
      exact ⟨cl, HCL.out, rfl, HCM.out.above hf ((Above.refl _ _).set7 (by omega) _ _ _ _ _ _ _) (set7 (Nat.le_refl w.heap.size) _ _ _ _ _ _ _).size, hf.mono (by omega), HB1.out.trans (set7 (Nat.le_refl _) _ _ _ _ _ _ _)⟩

set_option maxHeartbeats 8000000 in
set_option maxRecDepth 100000 in
theorem parseLit_any (s : ByteArray) (w : World) (hm : s.size ≤ 140737488351232) (he : Env w) :
    Calls Tryz.prog 53 #[.string s] w (ParseLitPost w (parseLitR s)) := by
  have HB := Lib.hid (below1 w)
  have HC := Lib.hid (show ∀ o, Calls Tryz.prog 87 #[.string s, .func (.func 88) #[] #[]] (w.alloc o) (ParseLitPost (w.alloc o) (parseLitR s)) from fun o => lcread_any s _ hm (he.on (below1 w o)))
  generalize parseLitR s = R at *
  clear he
  match R, HC with
  | .error (n, p), HC =>
    go_enter Tryz.func53, Tryz.ntmps53
    go_wp2_with (go_at_call 87; refine (HC.out _).mono ?_; rintro e w1 ⟨rfl, hb1⟩; have HZ := Lib.hid ((Bk.new w _ _).on hb1); have HB1 := Lib.hid ((HB.out _).trans (hb1.mono (HB.out _).size)); obtain ⟨r0, r1, r2, r3, r4, r5⟩ := HZ.out.six; obtain ⟨z0, z1, z2, z3, z4, z5, z6⟩ := HZ.out.softs; unfold lpZ Lp.agg tmZ; clear hb1)
    obtain ⟨q0, q1, q2, q3, q4, q5⟩ := (load6 HZ.out (.int .u8 0) (.string ⟨#[]⟩) (.string ⟨#[]⟩) (.int .i64 0) (.string ⟨#[]⟩) (.slice none 0 0)).six
    refine bodyPost_ret (v := .tuple #[lpZ.agg, .int .i64 p, .int .i64 n]) ?_ rfl ?_
    · simp [results, Tryz.results53, go_sem, q0, q1, q2, q3, q4, q5, lpZ, Lp.agg, tmZ]
    · exact ⟨rfl, HB1.out.trans (set6 (Nat.le_refl _) _ _ _ _ _ _)⟩
  | .ok x, HC =>
    go_enter Tryz.func53, Tryz.ntmps53
    go_wp2_with (go_at_call 87; refine (HC.out _).mono ?_; rintro e w1 ⟨q, c, rfl, hcm, hcf, hb1⟩; have HZ := Lib.hid ((Bk.new w _ _).on hb1); have HB1 := Lib.hid ((HB.out _).trans (hb1.mono (HB.out _).size)); have HCM := Lib.hid hcm; have HCF := Lib.hid hcf; obtain ⟨r0, r1, r2, r3, r4, r5⟩ := HZ.out.six; obtain ⟨z0, z1, z2, z3, z4, z5, z6⟩ := HZ.out.softs; unfold Lp.agg Lq.at; clear hb1 hcm hcf)
    obtain ⟨q0, q1, q2, q3, q4, q5⟩ := (load6 HZ.out (.int .u8 x.kind) (.string x.who.v) (.string x.who.s) (.int .i64 x.who.n) (.string x.pred) (.slice q x.args.length c)).six
    refine bodyPost_ret (v := .tuple #[(x.at q c).agg, .int .i64 0, .int .i64 0]) ?_ rfl ?_
    · simp [results, Tryz.results53, go_sem, q0, q1, q2, q3, q4, q5, Lp.agg, Lq.at]
    · have hf : ∀ b, q = some b → w.heap.size + 1 ≤ b.block := fun b hb => Nat.le_trans (by simp) (HCF.out b hb)
      exact ⟨q, c, rfl, ((Above.refl (w.heap.size + 1) w1).set6 (b := w.heap.size) (by omega) _ _ _ _ _ _).rd HCM.out hf (set6 (Nat.le_refl w.heap.size) _ _ _ _ _ _).size, fun b hb => Nat.le_trans (by omega) (hf b hb), HB1.out.trans (set6 (Nat.le_refl _) _ _ _ _ _ _)⟩
end Go.Proofs.YtfmkfabbiifolaaGreatDoor

/-
  Plain: what a text asks for; what a token's text tells of its kind.
-/
set_option linter.unusedVariables false
set_option linter.unusedSimpArgs false
namespace Go.Proofs.YtfmkfabbiifolaaGreatDoor
open Go.RowKit

def wdAssert : ByteArray := ⟨#[97, 115, 115, 101, 114, 116]⟩
def wdRevoke : ByteArray := ⟨#[114, 101, 118, 111, 107, 101]⟩
def wdQuery : ByteArray := ⟨#[113, 117, 101, 114, 121]⟩
def wdProve : ByteArray := ⟨#[112, 114, 111, 118, 101]⟩
def wdAudit : ByteArray := ⟨#[97, 117, 100, 105, 116]⟩
def wdFor : ByteArray := ⟨#[102, 111, 114]⟩
/-- what a user asks for -/
inductive Req where
  | ass (label : ByteArray) (life : Int) (c : Cq)
  | rev (n : Int)
  | ask (kind : Int) (l : Lq)
  | aud
/-- the number of a text, within its bounds; 0: none -/
def numR (t : ByteArray) : Int := if 1 ≤ (readP t).2 ∧ (readP t).2 ≤ 1099511627776 then (readP t).2 else 0
def tailS (s : ByteArray) (fr : Int) : ByteArray := s.extract fr.toNat s.size
def restC (s : ByteArray) (fr : Int) (f : Cq → Req) : Except (Int × Int) Req := match parseR (tailS s fr) with
  | .error (n, p) => .error (n, fr + p)
  | .ok c => .ok (f c)
def restL (s : ByteArray) (fr : Int) (f : Lq → Req) : Except (Int × Int) Req := match parseLitR (tailS s fr) with
  | .error (n, p) => .error (n, fr + p)
  | .ok c => .ok (f c)
def assR (s : ByteArray) (ts : List Tok) : Except (Int × Int) Req :=
  if kindAt ts 1 ≠ 1 then .error (6, placeAt s ts 1)
  else if textAt s ts 2 = wdFor ∧ kindAt ts 3 = 3 then
    if numR (textAt s ts 3) = 0 then .error (6, placeAt s ts 3) else restC s (placeAt s ts 4) (.ass (textAt s ts 1) (numR (textAt s ts 3)))
  else restC s (placeAt s ts 2) (.ass (textAt s ts 1) 0)
def revR (s : ByteArray) (ts : List Tok) : Except (Int × Int) Req :=
  if numR (textAt s ts 1) = 0 then .error (6, placeAt s ts 1) else if 2 < ts.length then .error (6, placeAt s ts 2) else .ok (.rev (numR (textAt s ts 1)))
def askR (kd : Int) (s : ByteArray) (ts : List Tok) : Except (Int × Int) Req := restL s (placeAt s ts 1) (.ask kd)
def audR (s : ByteArray) (ts : List Tok) : Except (Int × Int) Req := if 1 < ts.length then .error (6, placeAt s ts 1) else .ok .aud
def reqT (s : ByteArray) (ts : List Tok) : Except (Int × Int) Req :=
  if textAt s ts 0 = wdAssert then assR s ts
  else if textAt s ts 0 = wdRevoke then revR s ts
  else if textAt s ts 0 = wdQuery then askR 3 s ts
  else if textAt s ts 0 = wdProve then askR 4 s ts
  else if textAt s ts 0 = wdAudit then audR s ts
  else .error (6, placeAt s ts 0)
def reqR (s : ByteArray) : Except (Int × Int) Req :=
  if (allL s.data.toList).err = 0 then reqT s (allL s.data.toList).toks else .error ((allL s.data.toList).err, (allL s.data.toList).pl)

/-! What a token's text tells of its kind. -/
theorem one_low {c : UInt8} {r : List UInt8} {k : Int} {n : Nat} (h : oneL (c :: r) = ⟨0, k, n⟩) (hc : lowB (c.toNat : Int) = true) : kindL ((c :: r).take n) = k := by
  have hb : (48 ≤ c.toNat ∧ c.toNat ≤ 57) ∨ 95 ≤ c.toNat := by
    unfold lowB letB digB at hc
    simp at hc
    omega
  have hw : winB (c.toNat : Int) = true := by unfold winB; rw [hc]; rfl
  have e : ∀ m : Nat, m ≠ c.toNat → (c.toNat == m) = false := fun m hm => by rw [beq_eq_false_iff_ne]; exact fun e => hm e.symm
  rw [oneL, if_neg (by rw [e 32 (by omega), e 9 (by omega)]; decide), if_neg (by rw [e 40 (by omega), e 41 (by omega), e 44 (by omega), e 46 (by omega), e 60 (by omega)]; decide), if_neg (by rw [e 58 (by omega)]; decide), if_neg (by rw [e 33 (by omega)]; decide), if_neg (by rw [e 45 (by omega)]; decide), if_pos hw] at h
  unfold pieceL at h
  split at h
  · injection h with h; cases h
  · injection h with _ h2 h3
    rw [← h3]; exact h2
theorem chain_at (l : List UInt8) : ∀ (ts : List Tok) (k : Nat), ChainT l k ts → ∀ t ∈ ts, ∃ p n : Nat, t.fr = p ∧ t.to = (p + n : Nat) ∧ 0 < n ∧ p + n ≤ l.length ∧ oneL (l.drop p) = ⟨0, t.kind, n⟩
  | [], _, _, t, ht => by cases ht
  | x :: ts, k, h, t, ht => by
    obtain ⟨p, n, h1, h2, h3, h4, h5, h6, h7, h8, h9⟩ := h
    rcases List.mem_cons.1 ht with rfl | ht
    · exact ⟨p, n, h3, h6, h7, h8, h5⟩
    · exact chain_at l ts (p + n) h9 t ht
/-- what is known of the tokens of a text -/
structure TokS (s : ByteArray) (ts : List Tok) : Prop where
  src : Srcs s ts
  ne : ∀ k, k < ts.length → textAt s ts k ≠ ⟨#[]⟩
  low : ∀ k c r, (textAt s ts k).data.toList = c :: r → lowB (c.toNat : Int) = true → kindAt ts k = kindL (c :: r)
  nz : ∀ k, k < ts.length → kindAt ts k ≠ 0
theorem kindAt_eq {ts : List Tok} {k : Nat} (h : k < ts.length) : kindAt ts k = ts[k].kind := by
  unfold kindAt; rw [List.getElem?_eq_getElem h]; rfl
theorem one_kindQ {l : List UInt8} {k : Int} {n : Nat} (h : oneL l = ⟨0, k, n⟩) : k ≠ 0 := by
  intro e
  subst e
  cases l with
  | nil => rw [oneL] at h; injection h with h; cases h
  | cons c r =>
    have hp : ∀ m, pieceL (c :: r) m ≠ ⟨0, 0, n⟩ := fun m hm => by
      unfold pieceL at hm
      split at hm
      · injection hm with h; cases h
      · rename_i h0; injection hm with _ h2; exact h0 h2
    have h4 : ∀ m : Nat, (⟨0, 4, m⟩ : Tk) ≠ ⟨0, 0, n⟩ := fun m e => by injection e with _ e; cases e
    have h5 : (⟨5, 0, 0⟩ : Tk) ≠ ⟨0, 0, n⟩ := fun e => by injection e with e; cases e
    rw [oneL] at h
    split at h
    · injection h with h; cases h
    split at h
    · exact h4 _ h
    split at h
    · split at h
      · exact h4 _ h
      · exact h5 h
    split at h
    · split at h
      · exact h4 _ h
      · exact h5 h
    split at h
    · split at h
      · exact hp _ h
      · exact h5 h
    split at h
    · exact hp _ h
    · exact h5 h
theorem toks_of (s : ByteArray) (h : (allL s.data.toList).err = 0) : TokS s (allL s.data.toList).toks := by
  have hc := chain_all _ h
  generalize hts : (allL s.data.toList).toks = ts at *
  have hx : ∀ k (hk : k < ts.length), ∃ p n : Nat, 0 < n ∧ (textAt s ts k).data.toList = (s.data.toList.drop p).take n ∧ p + n ≤ s.data.toList.length ∧ oneL (s.data.toList.drop p) = ⟨0, kindAt ts k, n⟩ := fun k hk => by
    obtain ⟨p, n, h1, h2, h3, h4, h5⟩ := chain_at _ _ _ hc ts[k] (List.getElem_mem hk)
    refine ⟨p, n, h3, ?_, h4, by rw [kindAt_eq hk]; exact h5⟩
    rw [textAt_some hk, h1, h2]
    simp [ByteArray.data_extract]
    omega
  refine ⟨by have := src_of s h; rw [hts] at this; exact this, fun k hk e => ?_, fun k c r hr hl => ?_, fun k hk => ?_⟩
  · obtain ⟨p, n, h1, h2, h3, h4⟩ := hx k hk
    rw [e] at h2
    have := congrArg List.length h2
    rw [List.length_take, List.length_drop, show ((⟨#[]⟩ : ByteArray).data.toList).length = 0 from rfl] at this
    omega
  · have hk : k < ts.length := by
      rcases Nat.lt_or_ge k ts.length with h' | h'
      · exact h'
      · rw [textAt_none h'] at hr; cases hr
    obtain ⟨p, n, h1, h2, h3, h4⟩ := hx k hk
    rw [hr] at h2
    cases hd : s.data.toList.drop p with
    | nil => rw [hd] at h2; simp at h2
    | cons c' r' =>
      rw [hd] at h2 h4
      obtain ⟨m, rfl⟩ : ∃ m, n = m + 1 := ⟨n - 1, by omega⟩
      have h6 := h2
      rw [List.take_succ_cons] at h6
      injection h6 with e1 e2
      subst e1
      rw [h2]
      exact (one_low h4 hl).symm
  · obtain ⟨p, n, h1, h2, h3, h4⟩ := hx k hk
    exact one_kindQ h4
theorem text_eq {s : ByteArray} {ts : List Tok} {k : Nat} {l : List UInt8} (h : textAt s ts k = ⟨l.toArray⟩) : (textAt s ts k).data.toList = l := by rw [h]
theorem TokS.word {s : ByteArray} {ts : List Tok} (h : TokS s ts) {k : Nat} {c : UInt8} {r : List UInt8} (hk : textAt s ts k = ⟨(c :: r).toArray⟩) (hc : lowB (c.toNat : Int) = true) (h1 : kindL (c :: r) = 1) : kindAt ts k = 1 := by
  rw [h.low k c r (text_eq hk) hc]; exact h1
/-- a text that is a number within its bounds begins with a digit -/
theorem num_head {t : ByteArray} (h : numR t ≠ 0) : nameB t = false ∧ ∃ m, readN t = some m ∧ numR t = m ∧ 1 ≤ m := by
  unfold numR at h ⊢
  split at h
  · rename_i hb
    rw [if_pos hb]
    unfold readP at hb ⊢
    cases hn : nameB t with
    | true => rw [hn, if_pos rfl] at hb; simp at hb
    | false =>
      rw [hn, if_neg (by decide)] at hb
      rw [if_neg (by decide)]
      cases hr : readN t with
      | none => rw [hr] at hb; simp at hb
      | some m =>
        rw [hr] at hb
        exact ⟨rfl, m, rfl, rfl, hb.1⟩
  · exact absurd rfl h
theorem TokS.num {s : ByteArray} {ts : List Tok} (h : TokS s ts) {k : Nat} (hk : numR (textAt s ts k) ≠ 0) : kindAt ts k = 3 := by
  obtain ⟨h1, m, h2, _, h3⟩ := num_head hk
  obtain ⟨g1, g2, g3⟩ := readN_some _ _ h2
  obtain ⟨s1, s2, s3, s4, s5⟩ := shape _ m g1 g2 g3
  have ha : atB (textAt s ts k) = 0 := by omega
  have hd := s4 0 (by omega) (by omega)
  have hd9 : ((textAt s ts k)[0]'(by omega)).toNat = 48 + m.natAbs / 10 ^ ((textAt s ts k).size - 1 - 0) % 10 := hd
  cases hl : (textAt s ts k).data.toList with
  | nil =>
    have : (textAt s ts k).size = (textAt s ts k).data.toList.length := by simp
    rw [hl] at this
    have h0 : (textAt s ts k).size = 0 := this
    omega
  | cons c r =>
    have hc : (textAt s ts k)[0]'(by omega) = c := by
      have : (textAt s ts k).data.toList[0]? = some ((textAt s ts k)[0]'(by omega)) := by rw [List.getElem?_eq_getElem (by simp; omega)]; rfl
      rw [hl] at this
      simpa using this.symm
    rw [hc] at hd9
    have hc48 : 48 ≤ c.toNat ∧ c.toNat ≤ 57 := by
      generalize m.natAbs / 10 ^ ((textAt s ts k).size - 1 - 0) = z at hd9
      omega
    have hdig : digB (c.toNat : Int) = true := by unfold digB; rw [decide_eq_true (by omega), decide_eq_true (by omega)]; rfl
    have hlow : lowB (c.toNat : Int) = true := by unfold lowB; rw [hdig]; simp
    rw [h.low k c r hl hlow]
    have e : (⟨(c :: r).toArray⟩ : ByteArray) = textAt s ts k := by rw [← hl]
    unfold kindL
    rw [if_neg, if_neg, if_neg, if_pos]
    · rw [e, h2]; rfl
    · rw [← hl, ← nameB_eq, h1]; decide
    · simp only [List.headD_cons, Bool.and_eq_true, not_and]
      intro hu
      unfold upB at hu
      simp at hu
      omega
    · unfold wordL
      simp only [Bool.or_eq_true, beq_iff_eq, List.cons.injEq, not_or, not_and]
      refine ⟨fun e => ?_, fun e => ?_⟩ <;> (subst e; exact absurd hc48.2 (by decide))
end Go.Proofs.YtfmkfabbiifolaaGreatDoor
