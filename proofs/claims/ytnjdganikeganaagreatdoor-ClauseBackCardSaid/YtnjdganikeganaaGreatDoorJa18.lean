/-
  Joined of: LrdR, PrsT, Txt, Shelfb.
-/
import Derived.Test.YtnjdganikeganaaGreatDoorJa17
import Derived.Lib.ItoaLen
import Derived.Shelf.Strings.OnBuilder
import Derived.Shelf.Slices.Turned
import Derived.Test.YtnjdganikeganaaGreatDoorProg
set_option linter.unusedVariables false
set_option linter.unusedSimpArgs false
/-
  Contract: clause.read, of a clause: the text is read, or a fault is thrown and caught.
-/
namespace Go.Proofs.YtnjdganikeganaaGreatDoor
open Go.RowKit

theorem lread_put {w0 w : World} {x y : Int} (h : Rl w0 w x y) (u0 u1 u2 u3 u4 u5 : Value) (x' y' : Int) (W : World)
    (hW : W = ((((((((w.setCell ⟨w0.heap.size, 0, none⟩ u0).setCell ⟨w0.heap.size, 1, none⟩ u1).setCell ⟨w0.heap.size, 2, none⟩ u2).setCell ⟨w0.heap.size, 3, none⟩ u3).setCell ⟨w0.heap.size, 4, none⟩ u4).setCell ⟨w0.heap.size, 5, none⟩ u5).setCell ⟨w0.heap.size + 1, 0, none⟩ (.int .i64 x')).setCell ⟨w0.heap.size + 1 + 1, 0, none⟩ (.int .i64 y'))) :
    Bk W w0.heap.size 28 #[u0, u1, u2, u3, u4, u5] ∧ Boxed W (w0.heap.size + 1) 3 (.int .i64 x') ∧ Boxed W (w0.heap.size + 1 + 1) 32 (.int .i64 y') ∧ Below w0.heap.size w0 W ∧ Above (w0.heap.size + 3) w W ∧ w.heap.size ≤ W.heap.size := by
  have hr := load6 h.r u0 u1 u2 u3 u4 u5
  have hs := set6 (w := w) (b := w0.heap.size) (Nat.le_refl _) u0 u1 u2 u3 u4 u5
  have hv := (Above.refl (w0.heap.size + 3) w).set6 (b := w0.heap.size) (by omega) u0 u1 u2 u3 u4 u5
  have ha : Boxed (((((((w.setCell ⟨w0.heap.size, 0, none⟩ u0).setCell ⟨w0.heap.size, 1, none⟩ u1).setCell ⟨w0.heap.size, 2, none⟩ u2).setCell ⟨w0.heap.size, 3, none⟩ u3).setCell ⟨w0.heap.size, 4, none⟩ u4).setCell ⟨w0.heap.size, 5, none⟩ u5)) (w0.heap.size + 1) 3 (.int .i64 x) :=
    ((((((Bk.other h.a (by omega) 0 _).other (by omega) 1 _).other (by omega) 2 _).other (by omega) 3 _).other (by omega) 4 _).other (by omega) 5 _)
  have he : Boxed (((((((w.setCell ⟨w0.heap.size, 0, none⟩ u0).setCell ⟨w0.heap.size, 1, none⟩ u1).setCell ⟨w0.heap.size, 2, none⟩ u2).setCell ⟨w0.heap.size, 3, none⟩ u3).setCell ⟨w0.heap.size, 4, none⟩ u4).setCell ⟨w0.heap.size, 5, none⟩ u5)) (w0.heap.size + 1 + 1) 32 (.int .i64 y) :=
    ((((((Bk.other h.e (by omega) 0 _).other (by omega) 1 _).other (by omega) 2 _).other (by omega) 3 _).other (by omega) 4 _).other (by omega) 5 _)
  subst hW
  have hb := hs.trans ((setB (b := w0.heap.size + 1) (by omega) 0 (.int .i64 x')).trans (setB (b := w0.heap.size + 1 + 1) (by omega) 0 (.int .i64 y')))
  exact ⟨(hr.other (by omega) 0 _).other (by omega) 0 _, (Boxed.set _ ha).other (by omega) _, Boxed.set _ (he.other (by omega) _), h.below.trans hb, (hv.set (by omega) 0 _).set (by omega) 0 _, hb.size⟩
theorem lread_tell {w0 W : World} {u0 u1 u2 u3 u4 u5 : Value} {x y : Int} (hr : Bk W w0.heap.size 28 #[u0, u1, u2, u3, u4, u5]) (ha : Boxed W (w0.heap.size + 1) 3 (.int .i64 x)) (he : Boxed W (w0.heap.size + 1 + 1) 32 (.int .i64 y)) {tmps : Array Value} (h4 : tmps[4]? = some (.pointer (some ⟨w0.heap.size, 0, none⟩))) (h5 : tmps[5]? = some (.pointer (some ⟨w0.heap.size + 1, 0, none⟩))) (h6 : tmps[6]? = some (.pointer (some ⟨w0.heap.size + 1 + 1, 0, none⟩))) :
    (results Tryz.f39 tmps).run Tryz.prog W = .ok (.tuple #[.agg #[u0, u1, u2, u3, u4, u5], .int .i64 x, .int .i64 y]) W := by
  obtain ⟨q0, q1, q2, q3, q4, q5⟩ := hr.six
  have q7 := Boxed.cell ha
  have q8 := Boxed.cell he
  simp [results, Tryz.results39, go_sem, h4, h5, h6, q0, q1, q2, q3, q4, q5, q7, q8]

set_option maxHeartbeats 8000000 in
set_option maxRecDepth 100000 in
theorem lread_throws (s : ByteArray) (w : World) (n p : Int) (hm : s.size ≤ 140737488351232) (he : Env w) (hx : (allL s.data.toList).err = 0) (hR : saidR s (allL s.data.toList).toks 1 0 = .error (n, p)) :
    Calls Tryz.prog 39 #[.string s, .func (.func 40) #[] #[]] w (ParseLitPost w (.error (n, p))) := by
  have HA := Lib.hid (show ∀ wx, Env wx → Calls Tryz.prog 56 #[.string s] wx fun e w' => ∃ q c, e = .returned (.tuple #[.slice q (allL s.data.toList).toks.length c, .int .i64 0, .int .i64 0]) ∧ Rd encT 3 w' w'.heap.size q (allL s.data.toList).toks ∧ Below wx.heap.size wx w' from fun wx hx' => all_good s wx hm hx' hx)
  have HE := Lib.hid he
  have HS := Lib.hid (src_of s hx)
  have HC := Lib.hid (show ∀ wx pb q c, Ps wx pb s q c (allL s.data.toList).toks 0 → Calls Tryz.prog 40 #[.pointer (some ⟨pb, 0, none⟩)] wx fun e w' => e = .panicked (faultV n p) ∧ Only pb wx w' from fun wx pb q c hx' => (litOne_any wx pb s q c _ 0 hx').mono fun e w' h => by rw [hR] at h; exact h)
  generalize (allL s.data.toList).toks = ts at *
  have hmf : ∀ (fn : Fn) (first cap : Array Value) (w : World), (Instr.makeFunc fn first cap).run Tryz.prog w = .ok (.func fn first cap) w := fun _ _ _ _ => rfl
  clear he hx hR
  go_enter_defers Tryz.func39, Tryz.ntmps39
  go_wp2_with (first
    | (go_at_call 56; refine (HA.out _ (HE.out.on (below3 w _ _ _))).mono ?_; rintro e w1 ⟨q, c, rfl, hr1, hb1⟩; have HQ := Lib.hid (Rl.start rfl rfl rfl hb1 0 0); have x0 := Boxed.cell HQ.out.1.a; have x1 := Boxed.cell HQ.out.1.e; have f0 := Boxed.frozen HQ.out.1.a; have f1 := Boxed.frozen HQ.out.1.e; have y0 := Boxed.cell HQ.out.2.a; have y1 := Boxed.cell HQ.out.2.e; have HPS := Lib.hid (Rl.parser (c := c) HQ.out.1 HQ.out.2 hr1 HS.out HE.out); have hgt : w.heap.size + 1 + 1 < w1.heap.size := HQ.out.1.e.lt; clear hb1 hr1)
    | (go_at_call 40; refine (HC.out _ _ _ _ HPS.out).mono ?_; rintro e w2 ⟨rfl, ho2⟩))
  have HRS := (HQ.out.2.on (below1 _ _)).only ho2 hgt
  refine leaves_cons (f := 68) (args := #[.pointer (some ⟨w.heap.size + 1, 0, none⟩), .pointer (some ⟨w.heap.size + 1 + 1, 0, none⟩)]) (by simp) (by simp [go_sem]) ?_
  refine (lcatch_fault (w.heap.size + 1) (w.heap.size + 1 + 1) n p 0 0 [] _ HRS.a HRS.e (by omega)).mono ?_
  rintro e u' w'' ⟨rfl, rfl, ha, he, ht⟩
  have HF := HRS.two ht ha he
  exact ⟨_, HF.tell rfl rfl rfl, rfl, HF.below⟩
set_option maxHeartbeats 8000000 in
set_option maxRecDepth 100000 in
theorem lread_late (s : ByteArray) (w : World) (x : Lq) (k : Nat) (hm : s.size ≤ 140737488351232) (he : Env w) (hx : (allL s.data.toList).err = 0) (hR : saidR s (allL s.data.toList).toks 1 0 = .ok (x, k)) (hk : ¬ (allL s.data.toList).toks.length ≤ k) :
    Calls Tryz.prog 39 #[.string s, .func (.func 40) #[] #[]] w (ParseLitPost w (.error (6, placeAt s (allL s.data.toList).toks k))) := by
  have HA := Lib.hid (show ∀ wx, Env wx → Calls Tryz.prog 56 #[.string s] wx fun e w' => ∃ q c, e = .returned (.tuple #[.slice q (allL s.data.toList).toks.length c, .int .i64 0, .int .i64 0]) ∧ Rd encT 3 w' w'.heap.size q (allL s.data.toList).toks ∧ Below wx.heap.size wx w' from fun wx hx' => all_good s wx hm hx' hx)
  have HE := Lib.hid he
  have HS := Lib.hid (src_of s hx)
  have HC := Lib.hid (show ∀ wx pb q c, Ps wx pb s q c (allL s.data.toList).toks 0 → Calls Tryz.prog 40 #[.pointer (some ⟨pb, 0, none⟩)] wx (LitPost wx pb s q c (allL s.data.toList).toks (.ok (x, k))) from fun wx pb q c hx' => hR ▸ litOne_any wx pb s q c _ 0 hx')
  have HN := Lib.hid (show ∀ wx pb q c, Ps wx pb s q c (allL s.data.toList).toks k → Calls Tryz.prog 58 #[.pointer (some ⟨pb, 0, none⟩)] wx fun e w' => e = .panicked (faultV 6 (placeAt s (allL s.data.toList).toks k)) ∧ Below wx.heap.size wx w' from fun wx pb q c hx' => end_bad wx pb s q c _ k hx' hk)
  generalize (allL s.data.toList).toks = ts at *
  have hmf : ∀ (fn : Fn) (first cap : Array Value) (w : World), (Instr.makeFunc fn first cap).run Tryz.prog w = .ok (.func fn first cap) w := fun _ _ _ _ => rfl
  clear he hx hR hk
  go_enter_defers Tryz.func39, Tryz.ntmps39
  go_wp2_with (first
    | (go_at_call 56; refine (HA.out _ (HE.out.on (below3 w _ _ _))).mono ?_; rintro e w1 ⟨q, c, rfl, hr1, hb1⟩; have HQ := Lib.hid (Rl.start rfl rfl rfl hb1 0 0); have x0 := Boxed.cell HQ.out.1.a; have x1 := Boxed.cell HQ.out.1.e; have f0 := Boxed.frozen HQ.out.1.a; have f1 := Boxed.frozen HQ.out.1.e; have y0 := Boxed.cell HQ.out.2.a; have y1 := Boxed.cell HQ.out.2.e; have HPS := Lib.hid (Rl.parser (c := c) HQ.out.1 HQ.out.2 hr1 HS.out HE.out); have hgt : w.heap.size + 1 + 1 < w1.heap.size := HQ.out.1.e.lt; clear hb1 hr1)
    | (go_at_call 40; refine (HC.out _ _ _ _ HPS.out).mono ?_; rintro e w2 ⟨q2, c2, rfl, hcm, hcf, hp2, ho2⟩; have HP2 := Lib.hid hp2; have HRS2 := Lib.hid ((HQ.out.2.on (below1 _ _)).only ho2 hgt); have HCM2 := Lib.hid hcm; have HCF2 := Lib.hid hcf; unfold Lp.agg; clear hcm hcf hp2 ho2)
    | (go_at_call 58; refine (HN.out _ _ _ _ (HP2.out.on (below1 _ _))).mono ?_; rintro e w3 ⟨rfl, hb3⟩))
  have HRS := (HRS2.out.on (below1 _ _)).on hb3
  refine leaves_cons (f := 68) (args := #[.pointer (some ⟨w.heap.size + 1, 0, none⟩), .pointer (some ⟨w.heap.size + 1 + 1, 0, none⟩)]) (by simp) (by simp [go_sem]) ?_
  refine (lcatch_fault (w.heap.size + 1) (w.heap.size + 1 + 1) 6 _ 0 0 [] _ HRS.a HRS.e (by omega)).mono ?_
  rintro e u' w'' ⟨rfl, rfl, ha, he, ht⟩
  have HF := HRS.two ht ha he
  exact ⟨_, HF.tell rfl rfl rfl, rfl, HF.below⟩
set_option maxHeartbeats 8000000 in
set_option maxRecDepth 100000 in
theorem lread_ok (s : ByteArray) (w : World) (x : Lq) (k : Nat) (hm : s.size ≤ 140737488351232) (he : Env w) (hx : (allL s.data.toList).err = 0) (hR : saidR s (allL s.data.toList).toks 1 0 = .ok (x, k)) (hk : (allL s.data.toList).toks.length ≤ k) :
    Calls Tryz.prog 39 #[.string s, .func (.func 40) #[] #[]] w (ParseLitPost w (.ok x)) := by
  have HA := Lib.hid (show ∀ wx, Env wx → Calls Tryz.prog 56 #[.string s] wx fun e w' => ∃ q c, e = .returned (.tuple #[.slice q (allL s.data.toList).toks.length c, .int .i64 0, .int .i64 0]) ∧ Rd encT 3 w' w'.heap.size q (allL s.data.toList).toks ∧ Below wx.heap.size wx w' from fun wx hx' => all_good s wx hm hx' hx)
  have HE := Lib.hid he
  have HS := Lib.hid (src_of s hx)
  have HC := Lib.hid (show ∀ wx pb q c, Ps wx pb s q c (allL s.data.toList).toks 0 → Calls Tryz.prog 40 #[.pointer (some ⟨pb, 0, none⟩)] wx (LitPost wx pb s q c (allL s.data.toList).toks (.ok (x, k))) from fun wx pb q c hx' => hR ▸ litOne_any wx pb s q c _ 0 hx')
  have HN := Lib.hid (show ∀ wx pb q c, Ps wx pb s q c (allL s.data.toList).toks k → Calls Tryz.prog 58 #[.pointer (some ⟨pb, 0, none⟩)] wx fun e w' => e = .returned (.tuple #[]) ∧ Below wx.heap.size wx w' from fun wx pb q c hx' => end_ok wx pb s q c _ k hx' hk)
  generalize (allL s.data.toList).toks = ts at *
  have hmf : ∀ (fn : Fn) (first cap : Array Value) (w : World), (Instr.makeFunc fn first cap).run Tryz.prog w = .ok (.func fn first cap) w := fun _ _ _ _ => rfl
  clear he hx hR hk
  go_enter_defers Tryz.func39, Tryz.ntmps39
  go_wp2_with (first
    | (go_at_call 56; refine (HA.out _ (HE.out.on (below3 w _ _ _))).mono ?_; rintro e w1 ⟨q, c, rfl, hr1, hb1⟩; have HQ := Lib.hid (Rl.start rfl rfl rfl hb1 0 0); have x0 := Boxed.cell HQ.out.1.a; have x1 := Boxed.cell HQ.out.1.e; have f0 := Boxed.frozen HQ.out.1.a; have f1 := Boxed.frozen HQ.out.1.e; have y0 := Boxed.cell HQ.out.2.a; have y1 := Boxed.cell HQ.out.2.e; have HPS := Lib.hid (Rl.parser (c := c) HQ.out.1 HQ.out.2 hr1 HS.out HE.out); have hgt : w.heap.size + 1 + 1 < w1.heap.size := HQ.out.1.e.lt; clear hb1 hr1)
    | (go_at_call 40; refine (HC.out _ _ _ _ HPS.out).mono ?_; rintro e w2 ⟨q2, c2, rfl, hcm, hcf, hp2, ho2⟩; have HP2 := Lib.hid hp2; have HRS2 := Lib.hid ((HQ.out.2.on (below1 _ _)).only ho2 hgt); have HCM2 := Lib.hid hcm; have HCF2 := Lib.hid hcf; unfold Lp.agg; clear hcm hcf hp2 ho2)
    | (go_at_call 58; refine (HN.out _ _ _ _ (HP2.out.on (below1 _ _))).mono ?_; rintro e w3 ⟨rfl, hb3⟩; have HRS3 := Lib.hid ((HRS2.out.on (below1 _ _)).on hb3); have HCM3 := Lib.hid ((HCM2.out.grow (below1 _ _)).grow hb3); have HW3 := Lib.hid ((Bk.new w2 _ _).on hb3); obtain ⟨d0, d1, d2, d3, d4, d5⟩ := HW3.out.six; obtain ⟨r0, r1, r2, r3, r4, r5⟩ := HRS3.out.r.six; obtain ⟨z0, z1, z2, z3, z4, z5, z6⟩ := HRS3.out.r.softs; have a0 := Boxed.cell HRS3.out.a; have a1 := Boxed.cell HRS3.out.e; have a2 := Boxed.frozen HRS3.out.a; have a3 := Boxed.frozen HRS3.out.e; clear hb3))
  obtain ⟨gr, ga, ge, gb, gv, gs⟩ := lread_put HRS3.out (.int .u8 x.kind) (.string x.who.v) (.string x.who.s) (.int .i64 x.who.n) (.string x.pred) (.slice q2 x.args.length c2) 0 0 _ rfl
  refine leaves_cons (f := 68) (args := #[.pointer (some ⟨w.heap.size + 1, 0, none⟩), .pointer (some ⟨w.heap.size + 1 + 1, 0, none⟩)]) (by simp) (by simp [go_sem]) ?_
  refine (lcatch_idle (w.heap.size + 1) (w.heap.size + 1 + 1) _).mono ?_
  rintro e u' w'' ⟨rfl, rfl, rfl⟩
  have hf : ∀ b, q2 = some b → w.heap.size + 3 ≤ b.block := fun b hb => Nat.le_trans (by simp; omega) (HCF2.out b hb)
  exact ⟨_, lread_tell gr ga ge rfl rfl rfl, q2, c2, rfl, gv.rd HCM3.out hf gs, fun b hb => Nat.le_trans (by omega) (hf b hb), gb⟩

theorem lcread_any (s : ByteArray) (w : World) (hm : s.size ≤ 140737488351232) (he : Env w) :
    Calls Tryz.prog 39 #[.string s, .func (.func 40) #[] #[]] w (ParseLitPost w (parseLitR s)) := by
  unfold parseLitR
  by_cases hx : (allL s.data.toList).err = 0
  · rw [if_pos hx]
    cases hR : saidR s (allL s.data.toList).toks 1 0 with
    | error np =>
      obtain ⟨n, p⟩ := np
      exact lread_throws s w n p hm he hx hR
    | ok xk =>
      obtain ⟨x, k⟩ := xk
      unfold wholeR
      by_cases hk : (allL s.data.toList).toks.length ≤ k
      · simp only [if_pos hk]
        exact lread_ok s w x k hm he hx hR hk
      · simp only [if_neg hk]
        exact lread_late s w x k hm he hx hR hk
  · rw [if_neg hx]
    exact lread_bad s w _ hm he hx
end Go.Proofs.YtnjdganikeganaaGreatDoor

/-
  Contracts: clause.Parse, clause.ParseLit.
-/
namespace Go.Proofs.YtnjdganikeganaaGreatDoor
open Go.RowKit

set_option maxHeartbeats 8000000 in
set_option maxRecDepth 100000 in
theorem parse_any (s : ByteArray) (w : World) (hm : s.size ≤ 140737488351232) (he : Env w) :
    Calls Tryz.prog 11 #[.string s] w (ParsePost w (parseR s)) := by
  have HB := Lib.hid (below1 w)
  have HC := Lib.hid (show ∀ o, Calls Tryz.prog 30 #[.string s, .func (.func 31) #[] #[]] (w.alloc o) (ParsePost (w.alloc o) (parseR s)) from fun o => cread_any s _ hm (he.on (below1 w o)))
  generalize parseR s = R at *
  clear he
  match R, HC with
  | .error (n, p), HC =>
    go_enter Tryz.func11, Tryz.ntmps11
    go_wp2_with (go_at_call 30; refine (HC.out _).mono ?_; rintro e w1 ⟨rfl, hb1⟩; have HZ := Lib.hid ((Bk.new w _ _).on hb1); have HB1 := Lib.hid ((HB.out _).trans (hb1.mono (HB.out _).size)); obtain ⟨r0, r1, r2, r3, r4, r5, r6⟩ := HZ.out.seven; obtain ⟨z0, z1, z2, z3, z4, z5, z6⟩ := HZ.out.softs; unfold kpZ lpZ Kp.agg tmZ; clear hb1)
    obtain ⟨q0, q1, q2, q3, q4, q5, q6⟩ := (load7 HZ.out (.int .u8 0) (.string ⟨#[]⟩) (.string ⟨#[]⟩) (.int .i64 0) (.string ⟨#[]⟩) (.slice none 0 0) (.slice none 0 0)).seven
    refine bodyPost_ret (v := .tuple #[kpZ.agg, .int .i64 p, .int .i64 n]) ?_ rfl ?_
    · simp [results, Tryz.results11, go_sem, q0, q1, q2, q3, q4, q5, q6, kpZ, lpZ, Kp.agg, tmZ]
    · exact ⟨rfl, HB1.out.trans (set7 (Nat.le_refl _) _ _ _ _ _ _ _)⟩
  | .ok x, HC =>
    go_enter Tryz.func11, Tryz.ntmps11
    go_wp2_with (go_at_call 30; refine (HC.out _).mono ?_; rintro e w1 ⟨cl, hcl, rfl, hcm, hcf, hb1⟩; have HZ := Lib.hid ((Bk.new w _ _).on hb1); have HB1 := Lib.hid ((HB.out _).trans (hb1.mono (HB.out _).size)); have HCL := Lib.hid hcl; have HCM := Lib.hid hcm; have HCF := Lib.hid hcf; obtain ⟨r0, r1, r2, r3, r4, r5, r6⟩ := HZ.out.seven; obtain ⟨z0, z1, z2, z3, z4, z5, z6⟩ := HZ.out.softs; unfold Kp.agg; clear hb1 hcl hcm hcf)
    obtain ⟨q0, q1, q2, q3, q4, q5, q6⟩ := (load7 HZ.out (.int .u8 cl.head.kind) (.string cl.head.who.v) (.string cl.head.who.s) (.int .i64 cl.head.who.n) (.string cl.head.pred) (.slice cl.head.ptr cl.head.args.length cl.head.cap) (.slice cl.ptr cl.body.length cl.cap)).seven
    refine bodyPost_ret (v := .tuple #[cl.agg, .int .i64 0, .int .i64 0]) ?_ rfl ?_
    · simp [results, Tryz.results11, go_sem, q0, q1, q2, q3, q4, q5, q6, Kp.agg]
    · have hf := HCF.out.mono (B' := w.heap.size + 1) (by simp)
      exact ⟨cl, HCL.out, rfl, HCM.out.above hf ((Above.refl _ _).set7 (by omega) _ _ _ _ _ _ _) (set7 (Nat.le_refl w.heap.size) _ _ _ _ _ _ _).size, hf.mono (by omega), HB1.out.trans (set7 (Nat.le_refl _) _ _ _ _ _ _ _)⟩

set_option maxHeartbeats 8000000 in
set_option maxRecDepth 100000 in
theorem parseLit_any (s : ByteArray) (w : World) (hm : s.size ≤ 140737488351232) (he : Env w) :
    Calls Tryz.prog 15 #[.string s] w (ParseLitPost w (parseLitR s)) := by
  have HB := Lib.hid (below1 w)
  have HC := Lib.hid (show ∀ o, Calls Tryz.prog 39 #[.string s, .func (.func 40) #[] #[]] (w.alloc o) (ParseLitPost (w.alloc o) (parseLitR s)) from fun o => lcread_any s _ hm (he.on (below1 w o)))
  generalize parseLitR s = R at *
  clear he
  match R, HC with
  | .error (n, p), HC =>
    go_enter Tryz.func15, Tryz.ntmps15
    go_wp2_with (go_at_call 39; refine (HC.out _).mono ?_; rintro e w1 ⟨rfl, hb1⟩; have HZ := Lib.hid ((Bk.new w _ _).on hb1); have HB1 := Lib.hid ((HB.out _).trans (hb1.mono (HB.out _).size)); obtain ⟨r0, r1, r2, r3, r4, r5⟩ := HZ.out.six; obtain ⟨z0, z1, z2, z3, z4, z5, z6⟩ := HZ.out.softs; unfold lpZ Lp.agg tmZ; clear hb1)
    obtain ⟨q0, q1, q2, q3, q4, q5⟩ := (load6 HZ.out (.int .u8 0) (.string ⟨#[]⟩) (.string ⟨#[]⟩) (.int .i64 0) (.string ⟨#[]⟩) (.slice none 0 0)).six
    refine bodyPost_ret (v := .tuple #[lpZ.agg, .int .i64 p, .int .i64 n]) ?_ rfl ?_
    · simp [results, Tryz.results15, go_sem, q0, q1, q2, q3, q4, q5, lpZ, Lp.agg, tmZ]
    · exact ⟨rfl, HB1.out.trans (set6 (Nat.le_refl _) _ _ _ _ _ _)⟩
  | .ok x, HC =>
    go_enter Tryz.func15, Tryz.ntmps15
    go_wp2_with (go_at_call 39; refine (HC.out _).mono ?_; rintro e w1 ⟨q, c, rfl, hcm, hcf, hb1⟩; have HZ := Lib.hid ((Bk.new w _ _).on hb1); have HB1 := Lib.hid ((HB.out _).trans (hb1.mono (HB.out _).size)); have HCM := Lib.hid hcm; have HCF := Lib.hid hcf; obtain ⟨r0, r1, r2, r3, r4, r5⟩ := HZ.out.six; obtain ⟨z0, z1, z2, z3, z4, z5, z6⟩ := HZ.out.softs; unfold Lp.agg Lq.at; clear hb1 hcm hcf)
    obtain ⟨q0, q1, q2, q3, q4, q5⟩ := (load6 HZ.out (.int .u8 x.kind) (.string x.who.v) (.string x.who.s) (.int .i64 x.who.n) (.string x.pred) (.slice q x.args.length c)).six
    refine bodyPost_ret (v := .tuple #[(x.at q c).agg, .int .i64 0, .int .i64 0]) ?_ rfl ?_
    · simp [results, Tryz.results15, go_sem, q0, q1, q2, q3, q4, q5, Lp.agg, Lq.at]
    · have hf : ∀ b, q = some b → w.heap.size + 1 ≤ b.block := fun b hb => Nat.le_trans (by simp) (HCF.out b hb)
      exact ⟨q, c, rfl, ((Above.refl (w.heap.size + 1) w1).set6 (b := w.heap.size) (by omega) _ _ _ _ _ _).rd HCM.out hf (set6 (Nat.le_refl w.heap.size) _ _ _ _ _ _).size, fun b hb => Nat.le_trans (by omega) (hf b hb), HB1.out.trans (set6 (Nat.le_refl _) _ _ _ _ _ _)⟩
end Go.Proofs.YtnjdganikeganaaGreatDoor

/-
  Contracts: value.Text, clause.termText; how long the texts of terms are.
-/
namespace Go.Proofs.YtnjdganikeganaaGreatDoor
open Go.RowKit

set_option maxHeartbeats 1000000 in
theorem text_any (s : ByteArray) (n : Int) (w : World) (hs : s.size ≤ maxLen) (h0 : -9223372036854775808 ≤ n) (h1 : n ≤ 9223372036854775807) (he : Env w) :
    Calls Tryz.prog 92 #[.agg #[.string s, .int .i64 n]] w fun e w' => e = .returned (.tuple #[.string (textS s n), .bool (goodB s n)]) ∧ Below w.heap.size w w' := by
  have HE := Lib.hid he
  have HG := Lib.hid (fun wx => good_any s n wx hs)
  have HF := Lib.hid (fun wx hx => formatInt_any n wx h0 h1 hx)
  have HB := Lib.hid (below1 w)
  clear he
  cases hg : goodB s n with
  | true =>
    rw [hg] at HG
    cases h2 : s.toList.isEmpty with
    | true =>
      have H := Lib.hid (show textS s n = itoaS n by simp [textS, hg, h2])
      go_enter Tryz.func92, Tryz.ntmps92
      go_wp2_with (first
        | (go_at_call 111; refine (HG.out _).mono ?_; rintro e w1 ⟨rfl, hb1⟩; have e0 := box_cell hb1 0 _ rfl; have e1 := box_cell hb1 1 _ rfl; have HB1 := Lib.hid ((HB.out _).trans (hb1.mono (HB.out _).size)); clear hb1)
        | (go_at_call 110; refine (HF.out _ (HE.out.on HB1.out)).mono ?_; rintro e w2 ⟨rfl, hb2⟩))
      go_ret2
      exact ⟨by rw [H.out]; rfl, HB1.out.trans (hb2.mono HB1.out.size)⟩
    | false =>
      have H := Lib.hid (show textS s n = s by simp [textS, hg, h2])
      go_enter Tryz.func92, Tryz.ntmps92
      go_wp2_with (first
        | (go_at_call 111; refine (HG.out _).mono ?_; rintro e w1 ⟨rfl, hb1⟩; have e0 := box_cell hb1 0 _ rfl; have e1 := box_cell hb1 1 _ rfl; have HB1 := Lib.hid ((HB.out _).trans (hb1.mono (HB.out _).size)); clear hb1))
      go_ret2
      exact ⟨by rw [H.out]; rfl, HB1.out⟩
  | false =>
    rw [hg] at HG
    have H := Lib.hid (show textS s n = ⟨#[]⟩ by simp [textS, hg])
    go_enter Tryz.func92, Tryz.ntmps92
    go_wp2_with (go_at_call 111; refine (HG.out _).mono ?_; rintro e w1 ⟨rfl, hb1⟩; have HB1 := Lib.hid ((HB.out _).trans (hb1.mono (HB.out _).size)); clear hb1)
    go_ret2
    exact ⟨by rw [H.out]; rfl, HB1.out⟩

/-- a term's number can be one -/
def Tm.Nb (t : Tm) : Prop := -9223372036854775808 ≤ t.n ∧ t.n ≤ 9223372036854775807
structure Lp.Nb (l : Lp) : Prop where
  who : l.who.Nb
  args : ∀ t ∈ l.args, t.Nb
/-- a term's text -/
def Tm.txt (t : Tm) : ByteArray := if t.v.toList.isEmpty then textS t.s t.n else t.v
theorem kindL_two {l : List UInt8} (h : kindL l = 2) : l.length ≤ 16 := by
  unfold kindL at h
  split at h
  · exact absurd h (by decide)
  · split at h
    · rename_i h2; simp at h2; exact h2.2
    · split at h
      · exact absurd h (by decide)
      · split at h <;> exact absurd h (by decide)
theorem pieceL_two {l : List UInt8} {n : Nat} (hn : n ≤ l.length) (h : (pieceL l n).kind = 2) : (pieceL l n).len ≤ 16 := by
  unfold pieceL at h ⊢
  split at h
  · simp at h
  · rename_i hz
    rw [if_neg hz]
    have := kindL_two h
    rw [List.length_take] at this
    simp only; omega
theorem oneL_two {l : List UInt8} (h : (oneL l).kind = 2) : (oneL l).len ≤ 16 := by
  cases l with
  | nil => simp [oneL] at h
  | cons c r =>
    have hr := runL_le r
    have hp : ∀ h : (pieceL (c :: r) (1 + runL r)).kind = 2, (pieceL (c :: r) (1 + runL r)).len ≤ 16 := pieceL_two (by simp; omega)
    rw [oneL] at h ⊢
    split at h
    · simp at h
    rename_i h1; rw [if_neg h1]
    split at h
    · simp at h
    rename_i h2; rw [if_neg h2]
    split at h
    · split at h <;> simp at h
    rename_i h3; rw [if_neg h3]
    split at h
    · split at h <;> simp at h
    rename_i h4; rw [if_neg h4]
    split at h
    · rename_i h5; rw [if_pos h5]
      split at h
      · rename_i h6; rw [if_pos h6]; exact hp h
      · simp at h
    rename_i h5; rw [if_neg h5]
    split at h
    · rename_i h6; rw [if_pos h6]; exact hp h
    · simp at h
theorem var_size {s : ByteArray} (h : varB s = true) : s.size ≤ 16 := by
  unfold varB at h
  simp only [Bool.and_eq_true, beq_iff_eq] at h
  obtain ⟨⟨h1, h2⟩, h3⟩ := h
  rw [if_pos h1] at h3
  unfold oneA at h1 h2 h3
  split at h2
  · rename_i hl
    rw [if_pos hl] at h3
    have := oneL_two h2
    omega
  · simp at h2
theorem name_size {s : ByteArray} (h : nameB s = true) : s.size ≤ 16 := by
  rw [nameB_eq] at h
  unfold nameL at h
  simp only [Bool.and_eq_true, decide_eq_true_eq] at h
  have : s.data.toList.length = s.size := by simp
  omega
theorem txt_size {t : Tm} (h : t.ok = true) (hn : t.Nb) : t.txt.size ≤ 21 := by
  unfold Tm.ok termB at h
  unfold Tm.txt
  split
  · rename_i hv
    rw [if_pos hv] at h
    unfold textS
    rw [if_pos h]
    split
    · unfold itoaS
      have := Lib.itoa_length_le t.n hn.1 hn.2
      show (Lib.itoa t.n).toArray.size ≤ 21
      simpa using this
    · rename_i hs
      unfold goodB at h
      simp only [hs] at h
      have : nameB t.s = true := by simp at h; exact h.2
      have := name_size this
      omega
  · rename_i hv
    rw [if_neg hv] at h
    simp only [Bool.and_eq_true] at h
    have := var_size h.2
    omega

set_option maxHeartbeats 1000000 in
theorem termText_any (t : Tm) (w : World) (hs : t.Sz) (hn : t.Nb) (he : Env w) :
    Calls Tryz.prog 72 #[.agg #[.string t.v, .string t.s, .int .i64 t.n]] w fun e w' => e = .returned (.string t.txt) ∧ Below w.heap.size w w' := by
  have HE := Lib.hid he
  have HB := Lib.hid (below1 w)
  have HT := Lib.hid (show ∀ wx, Env wx → Calls Tryz.prog 92 #[.agg #[.string t.s, .int .i64 t.n]] wx fun e w' => e = .returned (.tuple #[.string (textS t.s t.n), .bool (goodB t.s t.n)]) ∧ Below wx.heap.size wx w' from fun wx hx => text_any t.s t.n wx (Nat.le_trans hs.s (by decide)) hn.1 hn.2 hx)
  have HX := Lib.hid (show t.txt = if t.v.toList.isEmpty then textS t.s t.n else t.v from rfl)
  generalize t.txt = tx at *
  generalize textS t.s t.n = ts at *
  generalize goodB t.s t.n = gd at *
  obtain ⟨v, s, n⟩ := t
  simp only at HX HT ⊢
  clear he hs hn
  cases h0 : v.toList.isEmpty with
  | true =>
    go_enter Tryz.func72, Tryz.ntmps72
    go_wp2_with (go_at_call 92; refine (HT.out _ (HE.out.on (HB.out _))).mono ?_; rintro e w1 ⟨rfl, hb1⟩)
    go_ret
    exact ⟨by rw [HX.out, h0]; rfl, (HB.out _).trans (hb1.mono (HB.out _).size)⟩
  | false =>
    go_enter Tryz.func72, Tryz.ntmps72
    go_wp2_with fail
    go_ret
    exact ⟨by rw [HX.out, h0]; rfl, HB.out _⟩
end Go.Proofs.YtnjdganikeganaaGreatDoor

/-
  The library's contracts at this program: strings.Join, slices.Contains and slices.Index of texts.
-/
namespace Go.Proofs
open Go.Shelf
def Tryz.lays156_ren : Go.Shelf.Ren := ⟨fun | 156 => 74 | 165 => 93 | 166 => 94 | 169 => 95 | 240 => 112 | 241 => 113 | 276 => 121 | 277 => 122 | n => n, fun | 31 => 56 | 9 => 9 | 3 => 3 | 4 => 4 | 0 => 0 | 20 => 20 | 72 => 120 | 76 => 123 | 70 => 117 | 37 => 118 | 75 => 122 | 127 => 132 | 164 => 134 | 5 => 5 | 80 => 110 | n => n, fun | n => n⟩
theorem Tryz.lays156 : Go.Proofs.Lays.n156 Tryz.prog Tryz.lays156_ren := {
  mixed := by kernel_rfl
  f156 := Tryz.func74.trans (congrArg some (by kernel_rfl))
  f165 := Tryz.func93.trans (congrArg some (by kernel_rfl))
  f166 := Tryz.func94.trans (congrArg some (by kernel_rfl))
  f169 := Tryz.func95.trans (congrArg some (by kernel_rfl))
  f240 := Tryz.func112.trans (congrArg some (by kernel_rfl))
  f241 := Tryz.func113.trans (congrArg some (by kernel_rfl))
  f276 := Tryz.func121.trans (congrArg some (by kernel_rfl))
  f277 := Tryz.func122.trans (congrArg some (by kernel_rfl))
  t0 := Tryz.underlying0
  a0 := Tryz.isAgg0
  z0 := Tryz.sizeOf0
  v0 := Tryz.zeroValue0
  t3 := Tryz.underlying3
  a3 := Tryz.isAgg3
  z3 := Tryz.sizeOf3
  v3 := Tryz.zeroValue3
  t4 := Tryz.underlying4
  a4 := Tryz.isAgg4
  z4 := Tryz.sizeOf4
  v4 := Tryz.zeroValue4
  t9 := Tryz.underlying9
  a9 := Tryz.isAgg9
  z9 := Tryz.sizeOf9
  v9 := Tryz.zeroValue9
  t20 := Tryz.underlying20
  a20 := Tryz.isAgg20
  z20 := Tryz.sizeOf20
  v20 := Tryz.zeroValue20
  t31 := Tryz.underlying56
  a31 := Tryz.isAgg56
  z31 := Tryz.sizeOf56
  v31 := Tryz.zeroValue56
  t37 := Tryz.underlying118
  a37 := Tryz.isAgg118
  z37 := Tryz.sizeOf118
  v37 := Tryz.zeroValue118
  t70 := Tryz.underlying117
  a70 := Tryz.isAgg117
  z70 := Tryz.sizeOf117
  v70 := Tryz.zeroValue117
  t72 := Tryz.underlying120
  a72 := Tryz.isAgg120
  z72 := Tryz.sizeOf120
  v72 := Tryz.zeroValue120
  t75 := Tryz.underlying122
  a75 := Tryz.isAgg122
  z75 := Tryz.sizeOf122
  v75 := Tryz.zeroValue122
  t76 := Tryz.underlying123
  a76 := Tryz.isAgg123
  z76 := Tryz.sizeOf123
  v76 := Tryz.zeroValue123
  t127 := Tryz.underlying132
  a127 := Tryz.isAgg132
  z127 := Tryz.sizeOf132
  v127 := Tryz.zeroValue132
  t164 := Tryz.underlying134
  a164 := Tryz.isAgg134
  z164 := Tryz.sizeOf134
  v164 := Tryz.zeroValue134 }
theorem Tryz.Builder_Extra_156 : Builder.Extra Tryz.prog Tryz.lays156_ren := {
  sizeBuilder := by kernel_rfl
  liesBuilder := by kernel_rfl
  t5 := Tryz.underlying5
  a5 := Tryz.isAgg5
  z5 := Tryz.sizeOf5
  v5 := Tryz.zeroValue5
  infoByte := by kernel_rfl
  cellsByte := by kernel_rfl
  sizeByte := by kernel_rfl
  neB5 := by decide }
open Go.RowKit in
theorem Tryz.strings_Join_none (a : Option Addr) (c : Nat) (sep : ByteArray) (w : World) :
    Calls Tryz.prog 74 #[.slice a 0 c, .string sep] w fun e w' => e = .returned (.string ⟨#[]⟩) ∧ w' = w := Any.strings_Join_none Tryz.lays156 Tryz.Builder_Extra_156 a c sep w
open Go.RowKit in
theorem Tryz.strings_Join (bk o c : Nat) (xs : List ByteArray) (sep : ByteArray) (w : World) (hcells : ∀ (j : Nat) x, xs[j]? = some x → w.cell? ⟨bk, o + j, none⟩ = some (.string x)) (hbk : bk < w.heap.size) (hN : xs.length ≤ 140737488355328) (hcap : xs.length ≤ c) (hlen : (Lib.join (xs.map (·.data.toList)) sep.data.toList).length ≤ 140737488355328) :
    Calls Tryz.prog 74 #[.slice (some ⟨bk, o, none⟩) xs.length c, .string sep] w fun e w' => e = .returned (.string ⟨(Lib.join (xs.map (·.data.toList)) sep.data.toList).toArray⟩) ∧ Below w.heap.size w w' := Any.strings_Join Tryz.lays156 Tryz.Builder_Extra_156 bk o c xs sep w hcells hbk hN hcap hlen
def Tryz.lays109_ren : Go.Shelf.Ren := ⟨fun | 109 => 81 | n => n, fun | 31 => 56 | 9 => 9 | 3 => 3 | 0 => 0 | 4 => 4 | n => n, fun | n => n⟩
theorem Tryz.lays109 : Go.Proofs.Lays.n109 Tryz.prog Tryz.lays109_ren := {
  mixed := by kernel_rfl
  f109 := Tryz.func81.trans (congrArg some (by kernel_rfl))
  t0 := Tryz.underlying0
  a0 := Tryz.isAgg0
  z0 := Tryz.sizeOf0
  v0 := Tryz.zeroValue0
  t3 := Tryz.underlying3
  a3 := Tryz.isAgg3
  z3 := Tryz.sizeOf3
  v3 := Tryz.zeroValue3
  t4 := Tryz.underlying4
  a4 := Tryz.isAgg4
  z4 := Tryz.sizeOf4
  v4 := Tryz.zeroValue4
  t9 := Tryz.underlying9
  a9 := Tryz.isAgg9
  z9 := Tryz.sizeOf9
  v9 := Tryz.zeroValue9
  t31 := Tryz.underlying56
  a31 := Tryz.isAgg56
  z31 := Tryz.sizeOf56
  v31 := Tryz.zeroValue56 }
open Go.Lib in
theorem Tryz.slices_Index_string (b off n c : Nat) (zs : List ByteArray) (x : ByteArray) (w : World) (hz : n ≤ zs.length) (hbig : n ≤ 9223372036854775807) (hc : ∀ j, j < zs.length → w.cell? ⟨b, off + j, none⟩ = some (.string (zs.getD j ByteArray.empty))) :
    Calls Tryz.prog 81 #[.slice (some ⟨b, off, none⟩) n c, .string x] w fun e w' => e = .returned (.int .i64 (Lib.idxOfS (zs.take n) x)) ∧ w' = w := Any.slices_Index_string Tryz.lays109 b off n c zs x w hz hbig hc
open Go.Lib in
theorem Tryz.slices_Index_string_empty (a : Option Addr) (c : Nat) (x : ByteArray) (w : World) :
    Calls Tryz.prog 81 #[.slice a 0 c, .string x] w fun e w' => e = .returned (.int .i64 (Lib.idxOfS [] x)) ∧ w' = w := Any.slices_Index_string_empty Tryz.lays109 a c x w
def Tryz.lays110_ren : Go.Shelf.Ren := ⟨fun | 110 => 51 | 109 => 81 | n => n, fun | 31 => 56 | 9 => 9 | 4 => 4 | 3 => 3 | 0 => 0 | n => n, fun | n => n⟩
theorem Tryz.lays110 : Go.Proofs.Lays.n110 Tryz.prog Tryz.lays110_ren := {
  mixed := by kernel_rfl
  f109 := Tryz.func81.trans (congrArg some (by kernel_rfl))
  f110 := Tryz.func51.trans (congrArg some (by kernel_rfl))
  t0 := Tryz.underlying0
  a0 := Tryz.isAgg0
  z0 := Tryz.sizeOf0
  v0 := Tryz.zeroValue0
  t3 := Tryz.underlying3
  a3 := Tryz.isAgg3
  z3 := Tryz.sizeOf3
  v3 := Tryz.zeroValue3
  t4 := Tryz.underlying4
  a4 := Tryz.isAgg4
  z4 := Tryz.sizeOf4
  v4 := Tryz.zeroValue4
  t9 := Tryz.underlying9
  a9 := Tryz.isAgg9
  z9 := Tryz.sizeOf9
  v9 := Tryz.zeroValue9
  t31 := Tryz.underlying56
  a31 := Tryz.isAgg56
  z31 := Tryz.sizeOf56
  v31 := Tryz.zeroValue56 }
open Go.Lib in
theorem Tryz.slices_Contains_string (b off n c : Nat) (zs : List ByteArray) (x : ByteArray) (w : World) (hz : n ≤ zs.length) (hbig : n ≤ 9223372036854775807) (hc : ∀ j, j < zs.length → w.cell? ⟨b, off + j, none⟩ = some (.string (zs.getD j ByteArray.empty))) :
    Calls Tryz.prog 51 #[.slice (some ⟨b, off, none⟩) n c, .string x] w fun e w' => e = .returned (.bool (Lib.containsS (zs.take n) x)) ∧ w' = w := Any.slices_Contains_string Tryz.lays110 b off n c zs x w hz hbig hc
open Go.Lib in
theorem Tryz.slices_Contains_string_empty (a : Option Addr) (c : Nat) (x : ByteArray) (w : World) :
    Calls Tryz.prog 51 #[.slice a 0 c, .string x] w fun e w' => e = .returned (.bool false) ∧ w' = w := Any.slices_Contains_string_empty Tryz.lays110 a c x w
end Go.Proofs
