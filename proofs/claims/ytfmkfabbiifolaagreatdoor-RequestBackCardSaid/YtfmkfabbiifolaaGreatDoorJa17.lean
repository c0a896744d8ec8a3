/-
  Joined of: PrsR, LrdO, LrdP, LrdQ.
-/
import Derived.Test.YtfmkfabbiifolaaGreatDoorJa16
import Derived.Recover
import Derived.Defers
import Derived.RangeFuncNested
set_option linter.unusedVariables false
set_option linter.unusedSimpArgs false
/-
  Contract: clause.read, of a clause: the text is read, or a fault is thrown and caught.
-/
namespace Go.Proofs.YtfmkfabbiifolaaGreatDoor
open Go.RowKit

theorem end_bad (w : World) (pb : Nat) (s : ByteArray) (q : Option Addr) (c : Nat) (ts : List Tok) (k : Nat) (h : Ps w pb s q c ts k) (hk : ¬ ts.length ≤ k) :
    Calls Tryz.prog 109 #[.pointer (some ⟨pb, 0, none⟩)] w fun e w' => e = .panicked (faultV 6 (placeAt s ts k)) ∧ Below w.heap.size w w' := end_no w pb s q c ts k h (by omega)
theorem end_ok (w : World) (pb : Nat) (s : ByteArray) (q : Option Addr) (c : Nat) (ts : List Tok) (k : Nat) (h : Ps w pb s q c ts k) (hk : ts.length ≤ k) :
    Calls Tryz.prog 109 #[.pointer (some ⟨pb, 0, none⟩)] w fun e w' => e = .returned (.tuple #[]) ∧ Below w.heap.size w w' := end_yes w pb s q c ts k h (by have := h.le; omega)
theorem all_good (s : ByteArray) (w : World) (hm : s.size ≤ 140737488351232) (he : Env w) (hx : (allL s.data.toList).err = 0) :
    Calls Tryz.prog 15 #[.string s] w fun e w' => ∃ q c, e = .returned (.tuple #[.slice q (allL s.data.toList).toks.length c, .int .i64 0, .int .i64 0]) ∧ Rd encT 3 w' w'.heap.size q (allL s.data.toList).toks ∧ Below w.heap.size w w' := by
  refine (all_any s w hm he).mono ?_
  rintro e w' ⟨v, rfl, h2, h3⟩
  obtain ⟨q, c, rfl, hr⟩ := tokrow_rd h2
  have hp : (allL s.data.toList).pl = 0 := by
    rcases Nat.lt_or_ge 4096 s.data.toList.length with h' | h'
    · rw [allL_long _ h'] at hx; exact absurd hx (by decide)
    · rw [allL_short _ h'] at hx ⊢; exact (allF_form _ _ _).1 hx
  exact ⟨q, c, by rw [hp, hx], hr, h3⟩

theorem read_put {w0 w : World} {x y : Int} (h : Rs w0 w x y) (u0 u1 u2 u3 u4 u5 u6 : Value) (x' y' : Int) (W : World)
    (hW : W = (((((((((w.setCell ⟨w0.heap.size, 0, none⟩ u0).setCell ⟨w0.heap.size, 1, none⟩ u1).setCell ⟨w0.heap.size, 2, none⟩ u2).setCell ⟨w0.heap.size, 3, none⟩ u3).setCell ⟨w0.heap.size, 4, none⟩ u4).setCell ⟨w0.heap.size, 5, none⟩ u5).setCell ⟨w0.heap.size, 6, none⟩ u6).setCell ⟨w0.heap.size + 1, 0, none⟩ (.int .i64 x')).setCell ⟨w0.heap.size + 1 + 1, 0, none⟩ (.int .i64 y'))) :
    Bk W w0.heap.size 31 #[u0, u1, u2, u3, u4, u5, u6] ∧ Boxed W (w0.heap.size + 1) 3 (.int .i64 x') ∧ Boxed W (w0.heap.size + 1 + 1) 34 (.int .i64 y') ∧ Below w0.heap.size w0 W ∧ Above (w0.heap.size + 3) w W ∧ w.heap.size ≤ W.heap.size := by
  have hr := load7 h.r u0 u1 u2 u3 u4 u5 u6
  have hs := set7 (w := w) (b := w0.heap.size) (Nat.le_refl _) u0 u1 u2 u3 u4 u5 u6
  have hv := (Above.refl (w0.heap.size + 3) w).set7 (b := w0.heap.size) (by omega) u0 u1 u2 u3 u4 u5 u6
  have ha : Boxed ((((((((w.setCell ⟨w0.heap.size, 0, none⟩ u0).setCell ⟨w0.heap.size, 1, none⟩ u1).setCell ⟨w0.heap.size, 2, none⟩ u2).setCell ⟨w0.heap.size, 3, none⟩ u3).setCell ⟨w0.heap.size, 4, none⟩ u4).setCell ⟨w0.heap.size, 5, none⟩ u5).setCell ⟨w0.heap.size, 6, none⟩ u6)) (w0.heap.size + 1) 3 (.int .i64 x) :=
    (((((((Bk.other h.a (by omega) 0 _).other (by omega) 1 _).other (by omega) 2 _).other (by omega) 3 _).other (by omega) 4 _).other (by omega) 5 _).other (by omega) 6 _)
  have he : Boxed ((((((((w.setCell ⟨w0.heap.size, 0, none⟩ u0).setCell ⟨w0.heap.size, 1, none⟩ u1).setCell ⟨w0.heap.size, 2, none⟩ u2).setCell ⟨w0.heap.size, 3, none⟩ u3).setCell ⟨w0.heap.size, 4, none⟩ u4).setCell ⟨w0.heap.size, 5, none⟩ u5).setCell ⟨w0.heap.size, 6, none⟩ u6)) (w0.heap.size + 1 + 1) 34 (.int .i64 y) :=
    (((((((Bk.other h.e (by omega) 0 _).other (by omega) 1 _).other (by omega) 2 _).other (by omega) 3 _).other (by omega) 4 _).other (by omega) 5 _).other (by omega) 6 _)
  subst hW
  have hb := hs.trans ((setB (b := w0.heap.size + 1) (by omega) 0 (.int .i64 x')).trans (setB (b := w0.heap.size + 1 + 1) (by omega) 0 (.int .i64 y')))
  exact ⟨(hr.other (by omega) 0 _).other (by omega) 0 _, (Boxed.set _ ha).other (by omega) _, Boxed.set _ (he.other (by omega) _), h.below.trans hb, (hv.set (by omega) 0 _).set (by omega) 0 _, hb.size⟩
theorem read_tell {w0 W : World} {u0 u1 u2 u3 u4 u5 u6 : Value} {x y : Int} (hr : Bk W w0.heap.size 31 #[u0, u1, u2, u3, u4, u5, u6]) (ha : Boxed W (w0.heap.size + 1) 3 (.int .i64 x)) (he : Boxed W (w0.heap.size + 1 + 1) 34 (.int .i64 y)) {tmps : Array Value} (h4 : tmps[4]? = some (.pointer (some ⟨w0.heap.size, 0, none⟩))) (h5 : tmps[5]? = some (.pointer (some ⟨w0.heap.size + 1, 0, none⟩))) (h6 : tmps[6]? = some (.pointer (some ⟨w0.heap.size + 1 + 1, 0, none⟩))) :
    (results Tryz.f84 tmps).run Tryz.prog W = .ok (.tuple #[.agg #[u0, u1, u2, u3, u4, u5, u6], .int .i64 x, .int .i64 y]) W := by
  obtain ⟨q0, q1, q2, q3, q4, q5, q6⟩ := hr.seven
  have q7 := Boxed.cell ha
  have q8 := Boxed.cell he
  simp [results, Tryz.results84, go_sem, h4, h5, h6, q0, q1, q2, q3, q4, q5, q6, q7, q8]

set_option maxHeartbeats 8000000 in
set_option maxRecDepth 100000 in
theorem read_throws (s : ByteArray) (w : World) (n p : Int) (hm : s.size ≤ 140737488351232) (he : Env w) (hx : (allL s.data.toList).err = 0) (hR : clauseR s (allL s.data.toList).toks 0 = .error (n, p)) :
    Calls Tryz.prog 84 #[.string s, .func (.func 85) #[] #[]] w (ParsePost w (.error (n, p))) := by
  have HA := Lib.hid (show ∀ wx, Env wx → Calls Tryz.prog 15 #[.string s] wx fun e w' => ∃ q c, e = .returned (.tuple #[.slice q (allL s.data.toList).toks.length c, .int .i64 0, .int .i64 0]) ∧ Rd encT 3 w' w'.heap.size q (allL s.data.toList).toks ∧ Below wx.heap.size wx w' from fun wx hx' => all_good s wx hm hx' hx)
  have HE := Lib.hid he
  have HS := Lib.hid (src_of s hx)
  have HC := Lib.hid (show ∀ wx pb q c, Ps wx pb s q c (allL s.data.toList).toks 0 → Calls Tryz.prog 85 #[.pointer (some ⟨pb, 0, none⟩)] wx fun e w' => e = .panicked (faultV n p) ∧ Only pb wx w' from fun wx pb q c hx' => (clause_any wx pb s q c _ 0 hx').mono fun e w' h => by rw [hR] at h; exact h)
  generalize (allL s.data.toList).toks = ts at *
  have hmf : ∀ (fn : Fn) (first cap : Array Value) (w : World), (Instr.makeFunc fn first cap).run Tryz.prog w = .ok (.func fn first cap) w := fun _ _ _ _ => rfl
  clear he hx hR
  go_enter_defers Tryz.func84, Tryz.ntmps84
  go_wp2_with (first
    | (go_at_call 15; refine (HA.out _ (HE.out.on (below3 w _ _ _))).mono ?_; rintro e w1 ⟨q, c, rfl, hr1, hb1⟩; have HQ := Lib.hid (Rs.start rfl rfl rfl hb1 0 0); have x0 := Boxed.cell HQ.out.1.a; have x1 := Boxed.cell HQ.out.1.e; have f0 := Boxed.frozen HQ.out.1.a; have f1 := Boxed.frozen HQ.out.1.e; have y0 := Boxed.cell HQ.out.2.a; have y1 := Boxed.cell HQ.out.2.e; have HPS := Lib.hid (Rs.parser (c := c) HQ.out.1 HQ.out.2 hr1 HS.out HE.out); have hgt : w.heap.size + 1 + 1 < w1.heap.size := HQ.out.1.e.lt; clear hb1 hr1)
    | (go_at_call 85; refine (HC.out _ _ _ _ HPS.out).mono ?_; rintro e w2 ⟨rfl, ho2⟩))
  have HRS := (HQ.out.2.on (below1 _ _)).only ho2 hgt
  refine leaves_cons (f := 108) (args := #[.pointer (some ⟨w.heap.size + 1, 0, none⟩), .pointer (some ⟨w.heap.size + 1 + 1, 0, none⟩)]) (by simp) (by simp [go_sem]) ?_
  refine (catch_fault (w.heap.size + 1) (w.heap.size + 1 + 1) n p 0 0 [] _ HRS.a HRS.e (by omega)).mono ?_
  rintro e u' w'' ⟨rfl, rfl, ha, he, ht⟩
  have HF := HRS.two ht ha he
  exact ⟨_, HF.tell rfl rfl rfl, rfl, HF.below⟩
set_option maxHeartbeats 8000000 in
set_option maxRecDepth 100000 in
theorem read_late (s : ByteArray) (w : World) (x : Cq) (k : Nat) (hm : s.size ≤ 140737488351232) (he : Env w) (hx : (allL s.data.toList).err = 0) (hR : clauseR s (allL s.data.toList).toks 0 = .ok (x, k)) (hk : ¬ (allL s.data.toList).toks.length ≤ k) :
    Calls Tryz.prog 84 #[.string s, .func (.func 85) #[] #[]] w (ParsePost w (.error (6, placeAt s (allL s.data.toList).toks k))) := by
  have HA := Lib.hid (show ∀ wx, Env wx → Calls Tryz.prog 15 #[.string s] wx fun e w' => ∃ q c, e = .returned (.tuple #[.slice q (allL s.data.toList).toks.length c, .int .i64 0, .int .i64 0]) ∧ Rd encT 3 w' w'.heap.size q (allL s.data.toList).toks ∧ Below wx.heap.size wx w' from fun wx hx' => all_good s wx hm hx' hx)
  have HE := Lib.hid he
  have HS := Lib.hid (src_of s hx)
  have HC := Lib.hid (show ∀ wx pb q c, Ps wx pb s q c (allL s.data.toList).toks 0 → Calls Tryz.prog 85 #[.pointer (some ⟨pb, 0, none⟩)] wx (ClausePost wx pb s q c (allL s.data.toList).toks (.ok (x, k))) from fun wx pb q c hx' => hR ▸ clause_any wx pb s q c _ 0 hx')
  have HN := Lib.hid (show ∀ wx pb q c, Ps wx pb s q c (allL s.data.toList).toks k → Calls Tryz.prog 109 #[.pointer (some ⟨pb, 0, none⟩)] wx fun e w' => e = .panicked (faultV 6 (placeAt s (allL s.data.toList).toks k)) ∧ Below wx.heap.size wx w' from fun wx pb q c hx' => end_bad wx pb s q c _ k hx' hk)
  generalize (allL s.data.toList).toks = ts at *
  have hmf : ∀ (fn : Fn) (first cap : Array Value) (w : World), (Instr.makeFunc fn first cap).run Tryz.prog w = .ok (.func fn first cap) w := fun _ _ _ _ => rfl
  clear he hx hR hk
  go_enter_defers Tryz.func84, Tryz.ntmps84
  go_wp2_with (first
    | (go_at_call 15; refine (HA.out _ (HE.out.on (below3 w _ _ _))).mono ?_; rintro e w1 ⟨q, c, rfl, hr1, hb1⟩; have HQ := Lib.hid (Rs.start rfl rfl rfl hb1 0 0); have x0 := Boxed.cell HQ.out.1.a; have x1 := Boxed.cell HQ.out.1.e; have f0 := Boxed.frozen HQ.out.1.a; have f1 := Boxed.frozen HQ.out.1.e; have y0 := Boxed.cell HQ.out.2.a; have y1 := Boxed.cell HQ.out.2.e; have HPS := Lib.hid (Rs.parser (c := c) HQ.out.1 HQ.out.2 hr1 HS.out HE.out); have hgt : w.heap.size + 1 + 1 < w1.heap.size := HQ.out.1.e.lt; clear hb1 hr1)
    | (go_at_call 85; refine (HC.out _ _ _ _ HPS.out).mono ?_; rintro e w2 ⟨cl, hcl, rfl, hcm, hcf, hp2, ho2⟩; have HP2 := Lib.hid hp2; have HRS2 := Lib.hid ((HQ.out.2.on (below1 _ _)).only ho2 hgt); have HCM2 := Lib.hid hcm; have HCF2 := Lib.hid hcf; have HCL := Lib.hid hcl; unfold Kp.agg; clear hcl hcm hcf hp2 ho2)
    | (go_at_call 109; refine (HN.out _ _ _ _ (HP2.out.on (below1 _ _))).mono ?_; rintro e w3 ⟨rfl, hb3⟩))
  have HRS := (HRS2.out.on (below1 _ _)).on hb3
  refine leaves_cons (f := 108) (args := #[.pointer (some ⟨w.heap.size + 1, 0, none⟩), .pointer (some ⟨w.heap.size + 1 + 1, 0, none⟩)]) (by simp) (by simp [go_sem]) ?_
  refine (catch_fault (w.heap.size + 1) (w.heap.size + 1 + 1) 6 _ 0 0 [] _ HRS.a HRS.e (by omega)).mono ?_
  rintro e u' w'' ⟨rfl, rfl, ha, he, ht⟩
  have HF := HRS.two ht ha he
  exact ⟨_, HF.tell rfl rfl rfl, rfl, HF.below⟩
set_option maxHeartbeats 8000000 in
set_option maxRecDepth 100000 in
theorem read_ok (s : ByteArray) (w : World) (x : Cq) (k : Nat) (hm : s.size ≤ 140737488351232) (he : Env w) (hx : (allL s.data.toList).err = 0) (hR : clauseR s (allL s.data.toList).toks 0 = .ok (x, k)) (hk : (allL s.data.toList).toks.length ≤ k) :
    Calls Tryz.prog 84 #[.string s, .func (.func 85) #[] #[]] w (ParsePost w (.ok x)) := by
  have HA := Lib.hid (show ∀ wx, Env wx → Calls Tryz.prog 15 #[.string s] wx fun e w' => ∃ q c, e = .returned (.tuple #[.slice q (allL s.data.toList).toks.length c, .int .i64 0, .int .i64 0]) ∧ Rd encT 3 w' w'.heap.size q (allL s.data.toList).toks ∧ Below wx.heap.size wx w' from fun wx hx' => all_good s wx hm hx' hx)
  have HE := Lib.hid he
  have HS := Lib.hid (src_of s hx)
  have HC := Lib.hid (show ∀ wx pb q c, Ps wx pb s q c (allL s.data.toList).toks 0 → Calls Tryz.prog 85 #[.pointer (some ⟨pb, 0, none⟩)] wx (ClausePost wx pb s q c (allL s.data.toList).toks (.ok (x, k))) from fun wx pb q c hx' => hR ▸ clause_any wx pb s q c _ 0 hx')
  have HN := Lib.hid (show ∀ wx pb q c, Ps wx pb s q c (allL s.data.toList).toks k → Calls Tryz.prog 109 #[.pointer (some ⟨pb, 0, none⟩)] wx fun e w' => e = .returned (.tuple #[]) ∧ Below wx.heap.size wx w' from fun wx pb q c hx' => end_ok wx pb s q c _ k hx' hk)
  generalize (allL s.data.toList).toks = ts at *
  have hmf : ∀ (fn : Fn) (first cap : Array Value) (w : World), (Instr.makeFunc fn first cap).run Tryz.prog w = .ok (.func fn first cap) w := fun _ _ _ _ => rfl
  clear he hx hR hk
  go_enter_defers Tryz.func84, Tryz.ntmps84
  go_wp2_with (first
    | (go_at_call 15; refine (HA.out _ (HE.out.on (below3 w _ _ _))).mono ?_; rintro e w1 ⟨q, c, rfl, hr1, hb1⟩; have HQ := Lib.hid (Rs.start rfl rfl rfl hb1 0 0); have x0 := Boxed.cell HQ.out.1.a; have x1 := Boxed.cell HQ.out.1.e; have f0 := Boxed.frozen HQ.out.1.a; have f1 := Boxed.frozen HQ.out.1.e; have y0 := Boxed.cell HQ.out.2.a; have y1 := Boxed.cell HQ.out.2.e; have HPS := Lib.hid (Rs.parser (c := c) HQ.out.1 HQ.out.2 hr1 HS.out HE.out); have hgt : w.heap.size + 1 + 1 < w1.heap.size := HQ.out.1.e.lt; clear hb1 hr1)
    | (go_at_call 85; refine (HC.out _ _ _ _ HPS.out).mono ?_; rintro e w2 ⟨cl, hcl, rfl, hcm, hcf, hp2, ho2⟩; have HP2 := Lib.hid hp2; have HRS2 := Lib.hid ((HQ.out.2.on (below1 _ _)).only ho2 hgt); have HCM2 := Lib.hid hcm; have HCF2 := Lib.hid hcf; have HCL := Lib.hid hcl; unfold Kp.agg; clear hcl hcm hcf hp2 ho2)
    | (go_at_call 109; refine (HN.out _ _ _ _ (HP2.out.on (below1 _ _))).mono ?_; rintro e w3 ⟨rfl, hb3⟩; have HRS3 := Lib.hid ((HRS2.out.on (below1 _ _)).on hb3); have HCM3 := Lib.hid ((HCM2.out.on (below1 _ _)).on hb3); have HW3 := Lib.hid ((Bk.new w2 _ _).on hb3); obtain ⟨d0, d1, d2, d3, d4, d5, d6⟩ := HW3.out.seven; obtain ⟨r0, r1, r2, r3, r4, r5, r6⟩ := HRS3.out.r.seven; obtain ⟨z0, z1, z2, z3, z4, z5, z6⟩ := HRS3.out.r.softs; have a0 := Boxed.cell HRS3.out.a; have a1 := Boxed.cell HRS3.out.e; have a2 := Boxed.frozen HRS3.out.a; have a3 := Boxed.frozen HRS3.out.e; clear hb3))
  obtain ⟨gr, ga, ge, gb, gv, gs⟩ := read_put HRS3.out (.int .u8 cl.head.kind) (.string cl.head.who.v) (.string cl.head.who.s) (.int .i64 cl.head.who.n) (.string cl.head.pred) (.slice cl.head.ptr cl.head.args.length cl.head.cap) (.slice cl.ptr cl.body.length cl.cap) 0 0 _ rfl
  refine leaves_cons (f := 108) (args := #[.pointer (some ⟨w.heap.size + 1, 0, none⟩), .pointer (some ⟨w.heap.size + 1 + 1, 0, none⟩)]) (by simp) (by simp [go_sem]) ?_
  refine (catch_idle (w.heap.size + 1) (w.heap.size + 1 + 1) _).mono ?_
  rintro e u' w'' ⟨rfl, rfl, rfl⟩
  have hf := HCF2.out.mono (B' := w.heap.size + 3) (by simp; omega)
  exact ⟨_, read_tell gr ga ge rfl rfl rfl, cl, HCL.out, rfl, HCM3.out.above hf gv gs, hf.mono (by omega), gb⟩

theorem cread_any (s : ByteArray) (w : World) (hm : s.size ≤ 140737488351232) (he : Env w) :
    Calls Tryz.prog 84 #[.string s, .func (.func 85) #[] #[]] w (ParsePost w (parseR s)) := by
  unfold parseR
  by_cases hx : (allL s.data.toList).err = 0
  · rw [if_pos hx]
    cases hR : clauseR s (allL s.data.toList).toks 0 with
    | error np =>
      obtain ⟨n, p⟩ := np
      exact read_throws s w n p hm he hx hR
    | ok xk =>
      obtain ⟨x, k⟩ := xk
      unfold wholeR
      by_cases hk : (allL s.data.toList).toks.length ≤ k
      · simp only [if_pos hk]
        exact read_ok s w x k hm he hx hR hk
      · simp only [if_neg hk]
        exact read_late s w x k hm he hx hR hk
  · rw [if_neg hx]
    exact read_bad s w _ hm he hx
end Go.Proofs.YtfmkfabbiifolaaGreatDoor

/-
  Contract: what ParseLit hands to read.
-/
namespace Go.Proofs.YtfmkfabbiifolaaGreatDoor
open Go.RowKit

set_option maxHeartbeats 8000000 in
set_option maxRecDepth 100000 in
theorem litOne_any (w : World) (pb : Nat) (s : ByteArray) (q : Option Addr) (c : Nat) (ts : List Tok) (k : Nat) (h : Ps w pb s q c ts k) :
    Calls Tryz.prog 88 #[.pointer (some ⟨pb, 0, none⟩)] w (LitPost w pb s q c ts (saidR s ts 1 k)) := by
  have HR := Lib.hid (rfl : saidR s ts 1 k = saidR s ts 1 k)
  generalize hRR : saidR s ts 1 k = R at HR ⊢
  have HP := Lib.hid h
  have hpb := h.lt
  have HB := Lib.hid (below1 w)
  have HS := Lib.hid (show ∀ wx, Ps wx pb s q c ts k → Calls Tryz.prog 89 #[.pointer (some ⟨pb, 0, none⟩), .int .u8 1] wx (LitPost wx pb s q c ts R) from fun wx hx => hRR ▸ psaid_any wx pb s q c ts k 1 hx)
  clear h hRR
  go_enter Tryz.func88, Tryz.ntmps88
  go_wp2_with (go_at_call 89; refine (HS.out _ (HP.out.on (HB.out _))).mono ?_; intro e w9 h9; rcases h9.sum with ⟨n, p, hR9, rfl, ho9⟩ | ⟨L, k', q', c', hR9, rfl, ht9, hf9, hp9, ho9⟩; (exact ⟨rfl, by rw [hR9]; exact ⟨rfl, (Only.of (HB.out _)).trans ho9⟩⟩); have HR9 := Lib.hid hR9; have HT9 := Lib.hid ht9; have HF9 := Lib.hid hf9; have HP9 := Lib.hid hp9; have HO9 := Lib.hid ho9; have HZ9 := Lib.hid ((Bk.new w _ _).only ho9 (by omega)); obtain ⟨r0, r1, r2, r3, r4, r5⟩ := HZ9.out.six; obtain ⟨z0, z1, z2, z3, z4, z5, z6⟩ := HZ9.out.softs; unfold Lp.agg; clear h9 ht9 hf9 hp9 ho9 hR9)
  obtain ⟨q0, q1, q2, q3, q4, q5⟩ := (load6 HZ9.out (.int .u8 L.kind) (.string L.who.v) (.string L.who.s) (.int .i64 L.who.n) (.string L.pred) (.slice q' L.args.length c')).six
  refine bodyPost_ret (v := Lp.agg ⟨L.kind, L.who, L.pred, q', c', L.args⟩) ?_ rfl ?_
  · simp [results, Tryz.results88, go_sem, q0, q1, q2, q3, q4, q5, Lp.agg]
  · rw [HR9.out]
    exact lit_close (w2 := (w.alloc _)) (w3 := w9) (G := w.heap.size + 1) (L := L) (set6 (Nat.le_refl _) _ _ _ _ _ _) ((Above.refl _ _).set6 (by omega) _ _ _ _ _ _) (by simp) (by omega) hpb (Only.of (HB.out _)) HT9.out HF9.out HP9.out HO9.out
end Go.Proofs.YtfmkfabbiifolaaGreatDoor

/-
  Contract: what read defers, of a literal: it recovers a parser's fault.
-/
namespace Go.Proofs.YtfmkfabbiifolaaGreatDoor
open Go.RowKit

set_option maxHeartbeats 2000000 in
set_option maxRecDepth 100000 in
theorem lcatch_idle (ab eb : Nat) (w : World) :
    CallsD Tryz.prog 117 #[.pointer (some ⟨ab, 0, none⟩), .pointer (some ⟨eb, 0, none⟩)] .returning w fun e u' w' => e = .returned (.tuple #[]) ∧ u' = .returning ∧ w' = w := by
  refine callsD_of_wpS Tryz.func117 rfl fun c₀ cs hu => ?_
  apply wpS_seq
  apply wpS_region
  simp [wpOpsS, go_sem, recoverD, hu, Tryz.ntmps117, Exit.thenS]
  apply wpS_seq
  apply wpS_region
  simp [wpOpsS, go_sem, Exit.thenS]
  refine wpS_cond (t := false) (by simp [Act.eval, Array.replicate]) ?_
  simp only [Bool.false_eq_true, if_false]
  refine wpS_of_wp (wp_skip ?_)
  cases c₀
  simp_all [bodyPostS, results, Tryz.results117]

set_option maxHeartbeats 2000000 in
set_option maxRecDepth 100000 in
theorem lcatch_fault (ab eb : Nat) (n p x y : Int) (older : List PanicEntry) (w : World) (ha : Boxed w ab 3 (.int .i64 x)) (he : Boxed w eb 34 (.int .i64 y)) (hne : ab ≠ eb) :
    CallsD Tryz.prog 117 #[.pointer (some ⟨ab, 0, none⟩), .pointer (some ⟨eb, 0, none⟩)] (.panicking ({ v := .iface 141 (.agg #[.int .i64 n, .int .i64 p]), recovered := false } :: older)) w fun e u' w' =>
      e = .returned (.tuple #[]) ∧ u' = .panicking ({ v := .iface 141 (.agg #[.int .i64 n, .int .i64 p]), recovered := true } :: older) ∧ Boxed w' ab 3 (.int .i64 p) ∧ Boxed w' eb 34 (.int .i64 n) ∧ Two ab eb w w' := by
  refine callsD_of_wpS Tryz.func117 rfl fun c₀ cs hu => ?_
  apply wpS_seq
  apply wpS_region
  simp [wpOpsS, go_sem, recoverD, hu, Tryz.ntmps117, Exit.thenS]
  apply wpS_seq
  apply wpS_region
  simp [wpOpsS, go_sem, Exit.thenS]
  refine wpS_cond (t := true) (by simp [Act.eval, Array.replicate]) ?_
  simp only [if_true]
  refine wpS_of_wp ?_
  have hta : ∀ (w : World), (Instr.typeAssert (.iface 141 (.agg #[.int .i64 n, .int .i64 p])) 20 141 false).run Tryz.prog w = .ok (.agg #[.int .i64 n, .int .i64 p]) w := fun _ => by kernel_rfl
  have x0 := Boxed.cell ha
  have x1 := Boxed.cell he
  have f0 := Boxed.frozen ha
  have f1 := Boxed.frozen he
  have hla := Boxed.lt ha
  have hle := Boxed.lt he
  have z0 := fun o => Boxed.cell (Boxed.below ha (below1 w o) hla)
  have z1 := fun o => Boxed.cell (Boxed.below he (below1 w o) hle)
  have g0 := fun o => Boxed.frozen (Boxed.below ha (below1 w o) hla)
  have g1 := fun o => Boxed.frozen (Boxed.below he (below1 w o) hle)
  change Code.wp _ _ _ { tmps := #[.pointer (some ⟨ab, 0, none⟩), .pointer (some ⟨eb, 0, none⟩), .iface 141 (.agg #[.int .i64 n, .int .i64 p]), undef, .iface 141 (.agg #[.int .i64 n, .int .i64 p]), .iface 141 (.agg #[.int .i64 n, .int .i64 p]), .bool true, undef, undef, undef, undef, undef, undef], defers := [] } _
  go_wp2_with fail
  go_region_law (fail)
  all_goals
    have hW : Two ab eb w ((((w.setCell ⟨ab, 0, none⟩ (.int .i64 p)).setCell ⟨eb, 0, none⟩ (.int .i64 n)).alloc (.cells #[.int .i64 n, .int .i64 p] 141)).drew) := ((((Two.refl ab eb w).seta _).sete _).alloc _).drew
    have hA : Boxed ((((w.setCell ⟨ab, 0, none⟩ (.int .i64 p)).setCell ⟨eb, 0, none⟩ (.int .i64 n)).alloc (.cells #[.int .i64 n, .int .i64 p] 141)).drew) ab 3 (.int .i64 p) := ((Boxed.set _ ha).other hne _).alloc _
    have hE : Boxed ((((w.setCell ⟨ab, 0, none⟩ (.int .i64 p)).setCell ⟨eb, 0, none⟩ (.int .i64 n)).alloc (.cells #[.int .i64 n, .int .i64 p] 141)).drew) eb 34 (.int .i64 n) := (Boxed.set _ (he.other (Ne.symm hne) _)).alloc _
    exact ⟨rfl, _, rfl, _, results_none rfl _ _ _, rfl, rfl, hA, hE, hW⟩
end Go.Proofs.YtfmkfabbiifolaaGreatDoor

/-
  Contract: clause.read, of a clause.
-/
namespace Go.Proofs.YtfmkfabbiifolaaGreatDoor
open Go.RowKit

/-- read's three results' blocks -/
structure Rl (w0 w : World) (x y : Int) : Prop where
  below : Below w0.heap.size w0 w
  r : Bk w w0.heap.size 28 #[.int .u8 0, .string ⟨#[]⟩, .string ⟨#[]⟩, .int .i64 0, .string ⟨#[]⟩, .slice none 0 0]
  a : Boxed w (w0.heap.size + 1) 3 (.int .i64 x)
  e : Boxed w (w0.heap.size + 1 + 1) 34 (.int .i64 y)
theorem Rl.start {w w1 : World} {o1 o2 o3 : Obj} (h1 : o1 = .cells #[.int .u8 0, .string ⟨#[]⟩, .string ⟨#[]⟩, .int .i64 0, .string ⟨#[]⟩, .slice none 0 0] 28) (h2 : o2 = .cells #[.int .i64 0] 3) (h3 : o3 = .cells #[.int .i64 0] 34)
    (hb : Below (((w.alloc o1).alloc o2).alloc o3).heap.size (((w.alloc o1).alloc o2).alloc o3) w1) (x y : Int) :
    Rl w w1 0 0 ∧ Rl w ((w1.setCell ⟨w.heap.size + 1, 0, none⟩ (.int .i64 x)).setCell ⟨w.heap.size + 1 + 1, 0, none⟩ (.int .i64 y)) x y := by
  subst h1 h2 h3
  have hB : Below w.heap.size w w1 := (below3 w _ _ _).trans (hb.mono (below3 w _ _ _).size)
  have hr := (Bk.new3a w _ _ _ _).on hb
  have ha : Boxed w1 (w.heap.size + 1) 3 (.int .i64 0) := (Bk.new3b w _ _ _ _).on hb
  have he : Boxed w1 (w.heap.size + 1 + 1) 34 (.int .i64 0) := (Bk.new3 w _ _ _ _).on hb
  exact ⟨⟨hB, hr, ha, he⟩, ⟨hB.trans ((setB (by omega) 0 _).trans (setB (by omega) 0 _)), (hr.other (by omega) 0 _).other (by omega) 0 _, (Boxed.set _ ha).other (by omega) _, Boxed.set _ (he.other (by omega) _)⟩⟩

theorem Rl.again {w0 w : World} {x y : Int} (h : Rl w0 w x y) : Rl w0 (((((((((w.setCell ⟨w0.heap.size, 0, none⟩ (.int .u8 0)).setCell ⟨w0.heap.size, 1, none⟩ (.string ⟨#[]⟩)).setCell ⟨w0.heap.size, 2, none⟩ (.string ⟨#[]⟩)).setCell ⟨w0.heap.size, 3, none⟩ (.int .i64 0)).setCell ⟨w0.heap.size, 4, none⟩ (.string ⟨#[]⟩)).setCell ⟨w0.heap.size, 5, none⟩ (.slice none 0 0)).setCell ⟨w0.heap.size + 1, 0, none⟩ (.int .i64 x)).setCell ⟨w0.heap.size + 1 + 1, 0, none⟩ (.int .i64 y))) x y := by
  have hr := load6 h.r (.int .u8 0) (.string ⟨#[]⟩) (.string ⟨#[]⟩) (.int .i64 0) (.string ⟨#[]⟩) (.slice none 0 0)
  have hs : Below w0.heap.size w _ := set6 (w := w) (b := w0.heap.size) (Nat.le_refl _) (.int .u8 0) (.string ⟨#[]⟩) (.string ⟨#[]⟩) (.int .i64 0) (.string ⟨#[]⟩) (.slice none 0 0)
  have ha : Boxed (((((((w.setCell ⟨w0.heap.size, 0, none⟩ (.int .u8 0)).setCell ⟨w0.heap.size, 1, none⟩ (.string ⟨#[]⟩)).setCell ⟨w0.heap.size, 2, none⟩ (.string ⟨#[]⟩)).setCell ⟨w0.heap.size, 3, none⟩ (.int .i64 0)).setCell ⟨w0.heap.size, 4, none⟩ (.string ⟨#[]⟩)).setCell ⟨w0.heap.size, 5, none⟩ (.slice none 0 0))) (w0.heap.size + 1) 3 (.int .i64 x) :=
    ((((((Bk.other h.a (by omega) 0 _).other (by omega) 1 _).other (by omega) 2 _).other (by omega) 3 _).other (by omega) 4 _).other (by omega) 5 _)
  have he : Boxed (((((((w.setCell ⟨w0.heap.size, 0, none⟩ (.int .u8 0)).setCell ⟨w0.heap.size, 1, none⟩ (.string ⟨#[]⟩)).setCell ⟨w0.heap.size, 2, none⟩ (.string ⟨#[]⟩)).setCell ⟨w0.heap.size, 3, none⟩ (.int .i64 0)).setCell ⟨w0.heap.size, 4, none⟩ (.string ⟨#[]⟩)).setCell ⟨w0.heap.size, 5, none⟩ (.slice none 0 0))) (w0.heap.size + 1 + 1) 34 (.int .i64 y) :=
    ((((((Bk.other h.e (by omega) 0 _).other (by omega) 1 _).other (by omega) 2 _).other (by omega) 3 _).other (by omega) 4 _).other (by omega) 5 _)
  exact ⟨(h.below.trans hs).trans ((setB (by omega) 0 _).trans (setB (by omega) 0 _)), (hr.other (by omega) 0 _).other (by omega) 0 _, (Boxed.set _ ha).other (by omega) _, Boxed.set _ (he.other (by omega) _)⟩

set_option maxHeartbeats 8000000 in
set_option maxRecDepth 100000 in
theorem lread_bad (s : ByteArray) (w : World) (thing : Value) (hm : s.size ≤ 140737488351232) (he : Env w) (hx : (allL s.data.toList).err ≠ 0) :
    Calls Tryz.prog 87 #[.string s, thing] w (ParseLitPost w (.error ((allL s.data.toList).err, (allL s.data.toList).pl))) := by
  have HA := Lib.hid (show ∀ wx, Env wx → Calls Tryz.prog 15 #[.string s] wx fun e w' => ∃ v, e = .returned (.tuple #[v, .int .i64 (allL s.data.toList).pl, .int .i64 (allL s.data.toList).err]) ∧ Below wx.heap.size wx w' from fun wx hx => (all_any s wx hm hx).mono fun e w' ⟨v, h1, _, h3⟩ => ⟨v, h1, h3⟩)
  have HE := Lib.hid he
  have g0 : ((allL s.data.toList).err == 0) = false := by simpa using hx
  have g1 : ((allL s.data.toList).err != 0) = true := by simpa using hx
  generalize (allL s.data.toList).err = er at *
  generalize (allL s.data.toList).pl = pl at *
  have hmf : ∀ (fn : Fn) (first cap : Array Value) (w : World), (Instr.makeFunc fn first cap).run Tryz.prog w = .ok (.func fn first cap) w := fun _ _ _ _ => rfl
  clear he hx
  go_enter_defers Tryz.func87, Tryz.ntmps87
  go_wp2_with (go_at_call 15; refine (HA.out _ (HE.out.on (below3 w _ _ _))).mono ?_; rintro e w1 ⟨v, rfl, hb1⟩; have HS := Lib.hid (Rl.start rfl rfl rfl hb1 pl er); have x0 := Boxed.cell HS.out.1.a; have x1 := Boxed.cell HS.out.1.e; have f0 := Boxed.frozen HS.out.1.a; have f1 := Boxed.frozen HS.out.1.e; have y0 := Boxed.cell HS.out.2.a; have y1 := Boxed.cell HS.out.2.e; have HZ := Lib.hid (HS.out.2); obtain ⟨r0, r1, r2, r3, r4, r5⟩ := HS.out.2.r.six; obtain ⟨z0, z1, z2, z3, z4, z5, z6⟩ := HS.out.2.r.softs; have f2 := Boxed.frozen HS.out.2.a; have f3 := Boxed.frozen HS.out.2.e; clear hb1)
  generalize (w1.setCell ⟨w.heap.size + 1, 0, none⟩ (.int .i64 pl)).setCell ⟨w.heap.size + 1 + 1, 0, none⟩ (.int .i64 er) = w2 at *
  go_region_law (fail)
  all_goals
    go_wp2_with fail
    have HG := HZ.out.again
    obtain ⟨q0, q1, q2, q3, q4, q5⟩ := HG.r.six
    have q7 := Boxed.cell HG.a
    have q8 := Boxed.cell HG.e
    refine ⟨.tuple #[lpZ.agg, .int .i64 pl, .int .i64 er], ?_, rfl, HG.below.drew⟩
    simp [results, Tryz.results87, go_sem, q0, q1, q2, q3, q4, q5, q7, q8, lpZ, Lp.agg, tmZ]

theorem Rl.only {w0 w w' : World} {x y : Int} {pb : Nat} (h : Rl w0 w x y) (ho : Only pb w w') (hp : w0.heap.size + 1 + 1 < pb) : Rl w0 w' x y := by
  have he := h.e.lt
  exact ⟨⟨ho.os.trans h.below.os, ho.tape.trans h.below.tape, ho.output.trans h.below.output, Nat.le_trans h.below.size ho.size, fun k hk => (ho.block k (by omega) (by omega)).trans (h.below.block k hk)⟩, h.r.only ho (by omega), Boxed.only h.a ho (by omega), Boxed.only h.e ho (by omega)⟩
theorem Rl.on {w0 w w' : World} {x y : Int} (h : Rl w0 w x y) (hb : Below w.heap.size w w') : Rl w0 w' x y :=
  ⟨h.below.trans (hb.mono h.below.size), h.r.on hb, Boxed.below h.a hb h.a.lt, Boxed.below h.e hb h.e.lt⟩
theorem Rl.two {w0 w w' : World} {x y n p : Int} (h : Rl w0 w x y) (ht : Two (w0.heap.size + 1) (w0.heap.size + 1 + 1) w w') (ha : Boxed w' (w0.heap.size + 1) 3 (.int .i64 p)) (he : Boxed w' (w0.heap.size + 1 + 1) 34 (.int .i64 n)) : Rl w0 w' p n := by
  have hr := h.r.lt
  have hz := h.below.size
  exact ⟨⟨ht.os.trans h.below.os, ht.tape.trans h.below.tape, ht.output.trans h.below.output, Nat.le_trans h.below.size ht.size, fun k hk => (ht.block k (by omega) (by omega) (by omega)).trans (h.below.block k hk)⟩, (ht.block _ hr (by omega) (by omega)).trans h.r, ha, he⟩
/-- the results as they are told -/
theorem Rl.tell {w0 w : World} {x y : Int} (h : Rl w0 w x y) {tmps : Array Value} (h4 : tmps[4]? = some (.pointer (some ⟨w0.heap.size, 0, none⟩))) (h5 : tmps[5]? = some (.pointer (some ⟨w0.heap.size + 1, 0, none⟩))) (h6 : tmps[6]? = some (.pointer (some ⟨w0.heap.size + 1 + 1, 0, none⟩))) :
    (results Tryz.f87 tmps).run Tryz.prog w = .ok (.tuple #[lpZ.agg, .int .i64 x, .int .i64 y]) w := by
  obtain ⟨q0, q1, q2, q3, q4, q5⟩ := h.r.six
  have q7 := Boxed.cell h.a
  have q8 := Boxed.cell h.e
  simp [results, Tryz.results87, go_sem, h4, h5, h6, q0, q1, q2, q3, q4, q5, q7, q8, lpZ, Lp.agg, tmZ]

/-- a parser is laid behind the two boxes -/
theorem Rl.parser {w w1 : World} {s : ByteArray} {q : Option Addr} {c : Nat} {ts : List Tok} {x y : Int} (h1 : Rl w w1 0 0) (h : Rl w ((w1.setCell ⟨w.heap.size + 1, 0, none⟩ (.int .i64 x)).setCell ⟨w.heap.size + 1 + 1, 0, none⟩ (.int .i64 y)) x y) (hr : Rd encT 3 w1 w1.heap.size q ts) (hs : Srcs s ts) (he : Env w) :
    Ps (((w1.setCell ⟨w.heap.size + 1, 0, none⟩ (.int .i64 x)).setCell ⟨w.heap.size + 1 + 1, 0, none⟩ (.int .i64 y)).alloc (.cells #[.string s, .slice q ts.length c, .int .i64 0] 143)) w1.heap.size s q c ts 0 := by
  have hz : ((w1.setCell ⟨w.heap.size + 1, 0, none⟩ (.int .i64 x)).setCell ⟨w.heap.size + 1 + 1, 0, none⟩ (.int .i64 y)).heap.size = w1.heap.size := by simp
  have hr' : Rd encT 3 ((w1.setCell ⟨w.heap.size + 1, 0, none⟩ (.int .i64 x)).setCell ⟨w.heap.size + 1 + 1, 0, none⟩ (.int .i64 y)) ((w1.setCell ⟨w.heap.size + 1, 0, none⟩ (.int .i64 x)).setCell ⟨w.heap.size + 1 + 1, 0, none⟩ (.int .i64 y)).heap.size q ts := by
    cases ts with
    | nil => exact .inl rfl
    | cons t r =>
      refine rd_kept hr (fun b hb => ?_) (Nat.le_of_eq hz.symm)
      obtain ⟨b', o, e, _, x0, _, _⟩ := rdT_at hr 0 (by simp)
      rw [hb] at e; cases e
      have n1 : b' ≠ w.heap.size + 1 := fun e => Boxed.no_u8 h1.a _ (by rw [← e]; exact x0)
      have n2 : b' ≠ w.heap.size + 1 + 1 := fun e => Boxed.no_u8 h1.e _ (by rw [← e]; exact x0)
      exact (Below.heap_setCell _ ⟨w.heap.size + 1 + 1, 0, none⟩ _ b' n2).trans (Below.heap_setCell w1 ⟨w.heap.size + 1, 0, none⟩ _ b' n1)
  have := Ps.start (c := c) hr' hs (he.on h.below) rfl
  rw [hz] at this
  exact this
end Go.Proofs.YtfmkfabbiifolaaGreatDoor
