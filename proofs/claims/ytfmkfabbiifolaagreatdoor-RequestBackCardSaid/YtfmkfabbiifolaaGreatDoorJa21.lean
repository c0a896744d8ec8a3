/-
  Joined of: Rqd.
-/
import Derived.Test.YtfmkfabbiifolaaGreatDoorJa20
set_option linter.unusedVariables false
set_option linter.unusedSimpArgs false
/-
  Contracts: the closures of leads. (Made by tools/mk_rqd.py.)
-/
set_option linter.unusedVariables false
set_option linter.unusedSimpArgs false
namespace Go.Proofs.YtfmkfabbiifolaaGreatDoor
open Go.RowKit

/-- a request's cells -/
def rqC (kd : Int) (lb : ByteArray) (lf : Int) (cl : Kp) (no : Int) (lp : Lp) : Array Value := #[.int .u8 kd, .string lb, .int .i64 lf, .int .u8 cl.head.kind, .string cl.head.who.v, .string cl.head.who.s, .int .i64 cl.head.who.n, .string cl.head.pred, .slice cl.head.ptr cl.head.args.length cl.head.cap, .slice cl.ptr cl.body.length cl.cap, .int .i64 no, .int .u8 lp.kind, .string lp.who.v, .string lp.who.s, .int .i64 lp.who.n, .string lp.pred, .slice lp.ptr lp.args.length lp.cap]
theorem Two.only {ab eb : Nat} {w a b : World} (h : Two ab eb w a) (k : Only ab a b) : Two ab eb w b :=
  ⟨k.os.trans h.os, k.tape.trans h.tape, k.output.trans h.output, Nat.le_trans h.size k.size, fun i hi h1 h2 => (k.block i (Nat.lt_of_lt_of_le hi h.size) h1).trans (h.block i hi h1 h2)⟩
theorem Two.set {ab eb : Nat} {w a : World} (h : Two ab eb w a) (i : Nat) (v : Value) : Two ab eb w (a.setCell ⟨eb, i, none⟩ v) :=
  ⟨h.os, h.tape, h.output, Nat.le_trans h.size (by simp [World.setCell]), fun k hk h1 h2 => (Below.heap_setCell a ⟨eb, i, none⟩ v k h2).trans (h.block k hk h1 h2)⟩
theorem Two.on {ab eb : Nat} {w a b : World} (h : Two ab eb w a) (k : Below a.heap.size a b) : Two ab eb w b :=
  ⟨k.os.trans h.os, k.tape.trans h.tape, k.output.trans h.output, Nat.le_trans h.size k.size, fun i hi h1 h2 => (k.block i (Nat.lt_of_lt_of_le hi h.size)).trans (h.block i hi h1 h2)⟩
/-- where reader, request and the two boxes lie -/
structure Lay (rb qb xr xq : Nat) : Prop where
  a : rb < qb
  b : qb < xr
  c : xr < xq
/-- the reader, the request, the boxes that a closure has of them -/
structure LD (X0 : World) (rb qb xr xq : Nat) (s : ByteArray) (q : Option Addr) (c : Nat) (ts : List Tok) (k : Nat) (a e : Int) (cs : Array Value) (W : World) : Prop where
  r : Rb W rb s q c ts k a e
  m : Bk W qb 33 cs
  br : Bk W xr 53 #[.pointer (some ⟨rb, 0, none⟩)]
  bq : Bk W xq 59 #[.pointer (some ⟨qb, 0, none⟩)]
  t : Two rb qb X0 W
  l : Lay rb qb xr xq
section
variable {X0 W W' : World} {rb qb xr xq : Nat} {s : ByteArray} {q : Option Addr} {c : Nat} {ts : List Tok} {k k' : Nat} {a e a' e' : Int} {cs : Array Value}
theorem LD.on (h : LD X0 rb qb xr xq s q c ts k a e cs W) (hb : Below W.heap.size W W') : LD X0 rb qb xr xq s q c ts k a e cs W' :=
  ⟨h.r.on hb, h.m.on hb, h.br.on hb, h.bq.on hb, h.t.on hb, h.l⟩
theorem LD.call (h : LD X0 rb qb xr xq s q c ts k a e cs W) (ho : Only rb W W') (hr : Rb W' rb s q c ts k' a' e') : LD X0 rb qb xr xq s q c ts k' a' e' cs W' := by
  obtain ⟨l1, l2, l3⟩ := h.l
  exact ⟨hr, h.m.only ho (by omega), h.br.only ho (by omega), h.bq.only ho (by omega), h.t.only ho, h.l⟩
theorem LD.store (h : LD X0 rb qb xr xq s q c ts k a e cs W) (i : Nat) (v : Value) : LD X0 rb qb xr xq s q c ts k a e (cs.setIfInBounds i v) (W.setCell ⟨qb, i, none⟩ v) := by
  obtain ⟨l1, l2, l3⟩ := h.l
  exact ⟨h.r.low ((Below.refl qb W).setCell (p := ⟨qb, i, none⟩) (Nat.le_refl _) v) (by omega), h.m.set i v, h.br.other (by omega) i v, h.bq.other (by omega) i v, h.t.set i v, h.l⟩
end
set_option maxHeartbeats 8000000 in
set_option maxRecDepth 100000 in
theorem lead1_walk (X : World) (rb qb xr xq : Nat) (s : ByteArray) (q : Option Addr) (c : Nat) (ts : List Tok) (hL : LD X rb qb xr xq s q c ts 1 0 0 (rqC 0 ⟨#[]⟩ 0 kpZ 0 lpZ) X) (lb : ByteArray) (k1 : Nat) (a1 e1 a2 e2 a3 e3 : Int) (LP : Int → Nat → Prop) (CP : World → Kp → World → Prop)
    (hN : ∀ W, Rb W rb s q c ts 1 0 0 → Calls Tryz.prog 44 #[.pointer (some ⟨rb, 0, none⟩)] W fun e w' => e = .returned (.string lb) ∧ Rb w' rb s q c ts k1 a1 e1 ∧ Only rb W w')
    (hF : ∀ W, Rb W rb s q c ts k1 a1 e1 → Calls Tryz.prog 45 #[.pointer (some ⟨rb, 0, none⟩)] W fun e w' => ∃ lf k2, e = .returned (.int .i64 lf) ∧ LP lf k2 ∧ Rb w' rb s q c ts k2 a2 e2 ∧ Only rb W w')
    (hR : ∀ W lf k2, LP lf k2 → Rb W rb s q c ts k2 a2 e2 → Calls Tryz.prog 46 #[.pointer (some ⟨rb, 0, none⟩), .func (.func 47) #[] #[]] W fun e w' => ∃ cl : Kp, e = .returned cl.agg ∧ CP W cl w' ∧ Rb w' rb s q c ts k2 a3 e3 ∧ Only rb W w') :
    Calls Tryz.prog 43 #[.pointer (some ⟨xq, 0, none⟩), .pointer (some ⟨xr, 0, none⟩)] X fun e w' => e = .returned (.tuple #[]) ∧ ∃ lf k2 cl W7 W8, LP lf k2 ∧ X.heap.size ≤ W7.heap.size ∧ CP W7 cl W8 ∧ Above (qb + 1) W8 w' ∧ W8.heap.size ≤ w'.heap.size ∧ LD X rb qb xr xq s q c ts k2 a3 e3 (rqC 1 lb lf cl 0 lpZ) w' := by
  have HL := Lib.hid hL
  have HN := Lib.hid hN
  have HF := Lib.hid hF
  have HR := Lib.hid hR
  clear hL hN hF hR
  have gq := HL.out.bq.cell 0 _ rfl
  have m0 := HL.out.m.cell 0 _ rfl
  have s0 := HL.out.m.soft 0
  go_enter Tryz.func43, Tryz.ntmps43
  go_upto_region 1 with fail
  have HL1 := Lib.hid (HL.out.store 0 (.int .u8 1))
  generalize X.setCell ⟨qb, 0, none⟩ (.int .u8 1) = W1 at *
  clear gq m0 s0
  have gq := HL1.out.bq.cell 0 _ rfl
  have gr := HL1.out.br.cell 0 _ rfl
  refine wp_region_held_drew (S := fun X => X.cell? ⟨xq, 0, none⟩ = some (.pointer (some ⟨qb, 0, none⟩)) ∧ X.cell? ⟨xr, 0, none⟩ = some (.pointer (some ⟨rb, 0, none⟩))) (by kernel_rfl) ⟨gq, gr⟩ (fun hHeld => ?_)
  refine wpAnyH_take (i := 0) (v := ?_) rfl (by kernel_rfl) (by kernel_rfl) (by kernel_rfl) (fun _ _ _ h => h) (Or.inl ⟨by rfl, ?hy⟩) (by assumption) ?_
  case hy =>
    intro wx hSw
    obtain ⟨q0, q1⟩ := hSw
    go_simp
    all_goals with_reducible rfl
  (try simp only [Act.put, List.getElem_toArray, List.getElem_cons_succ, List.getElem_cons_zero, List.setIfInBounds_toArray, List.set_cons_zero, List.set_cons_succ])
  refine wpAnyH_take (i := 1) (v := ?_) rfl (by kernel_rfl) (by kernel_rfl) (by kernel_rfl) (fun _ _ _ h => h) (Or.inl ⟨by rfl, ?hy⟩) (by assumption) ?_
  case hy =>
    intro wx hSw
    obtain ⟨q0, q1⟩ := hSw
    go_simp
    all_goals with_reducible rfl
  (try simp only [Act.put, List.getElem_toArray, List.getElem_cons_succ, List.getElem_cons_zero, List.setIfInBounds_toArray, List.set_cons_zero, List.set_cons_succ])
  refine wpAnyH_ready (rs := [2]) (by kernel_rfl) (by simp) ?_
  refine AllReadyH.cons rfl (fun K hK => ?_) AllReadyH.nil
  go_simp
  go_at_call 44
  refine (HN.out _ (HL1.out.on (Below.refl W1.heap.size W1).drew).r).mono ?_
  rintro e w2 ⟨rfl, hr2, ho2⟩
  have HL2 := Lib.hid ((HL1.out.on (Below.refl W1.heap.size W1).drew).call ho2 hr2)
  have m1 := HL2.out.m.cell 1 _ rfl
  have s1 := HL2.out.m.soft 1
  clear hr2 ho2
  refine hK.out _ _ (⟨HL2.out.bq.cell 0 _ rfl, HL2.out.br.cell 0 _ rfl⟩) (fun hHeld => ?_)
  clear hK K
  (try simp only [Act.put, List.getElem_toArray, List.getElem_cons_succ, List.getElem_cons_zero, List.setIfInBounds_toArray, List.set_cons_zero, List.set_cons_succ])
  refine wpAnyH_take (i := 3) (v := ?_) rfl (by kernel_rfl) (by kernel_rfl) (by kernel_rfl) (fun _ _ _ h => h) (Or.inl ⟨by rfl, ?hy⟩) (by assumption) ?_
  case hy =>
    intro wx hSw
    obtain ⟨q0, q1⟩ := hSw
    go_simp
    all_goals with_reducible rfl
  (try simp only [Act.put, List.getElem_toArray, List.getElem_cons_succ, List.getElem_cons_zero, List.setIfInBounds_toArray, List.set_cons_zero, List.set_cons_succ])
  refine wpAnyH_take (i := 4) (v := ?_) rfl (by kernel_rfl) (by kernel_rfl) (by kernel_rfl) (fun _ _ _ h => h) (Or.inl ⟨by rfl, ?hy⟩) (by assumption) ?_
  case hy =>
    intro wx hSw
    obtain ⟨q0, q1⟩ := hSw
    go_simp
    all_goals with_reducible rfl
  (try simp only [Act.put, List.getElem_toArray, List.getElem_cons_succ, List.getElem_cons_zero, List.setIfInBounds_toArray, List.set_cons_zero, List.set_cons_succ])
  refine wpAnyH_ready (rs := [5]) (by kernel_rfl) (by simp) ?_
  refine AllReadyH.cons rfl (fun K hK => ?_) AllReadyH.nil
  go_simp
  have HL3 := Lib.hid (HL2.out.store 1 (.string lb))
  refine hK.out _ _ (⟨HL3.out.bq.cell 0 _ rfl, HL3.out.br.cell 0 _ rfl⟩) (fun hHeld => ?_)
  clear hK K
  (try simp only [Act.put, List.getElem_toArray, List.getElem_cons_succ, List.getElem_cons_zero, List.setIfInBounds_toArray, List.set_cons_zero, List.set_cons_succ])
  refine wpAnyH_done (by kernel_rfl) ?_ _
  clear hHeld HL1 HL2 m1 s1 gq gr
  generalize w2.setCell ⟨qb, 1, none⟩ (.string lb) = W3 at *
  have gq := HL3.out.bq.cell 0 _ rfl
  have gr := HL3.out.br.cell 0 _ rfl
  go_upto_region 2 with fail
  refine wp_region_held_drew (S := fun X => X.cell? ⟨xq, 0, none⟩ = some (.pointer (some ⟨qb, 0, none⟩)) ∧ X.cell? ⟨xr, 0, none⟩ = some (.pointer (some ⟨rb, 0, none⟩))) (by kernel_rfl) ⟨gq, gr⟩ (fun hHeld => ?_)
  refine wpAnyH_take (i := 0) (v := ?_) rfl (by kernel_rfl) (by kernel_rfl) (by kernel_rfl) (fun _ _ _ h => h) (Or.inl ⟨by rfl, ?hy⟩) (by assumption) ?_
  case hy =>
    intro wx hSw
    obtain ⟨q0, q1⟩ := hSw
    go_simp
    all_goals with_reducible rfl
  (try simp only [Act.put, List.getElem_toArray, List.getElem_cons_succ, List.getElem_cons_zero, List.setIfInBounds_toArray, List.set_cons_zero, List.set_cons_succ])
  refine wpAnyH_take (i := 1) (v := ?_) rfl (by kernel_rfl) (by kernel_rfl) (by kernel_rfl) (fun _ _ _ h => h) (Or.inl ⟨by rfl, ?hy⟩) (by assumption) ?_
  case hy =>
    intro wx hSw
    obtain ⟨q0, q1⟩ := hSw
    go_simp
    all_goals with_reducible rfl
  (try simp only [Act.put, List.getElem_toArray, List.getElem_cons_succ, List.getElem_cons_zero, List.setIfInBounds_toArray, List.set_cons_zero, List.set_cons_succ])
  refine wpAnyH_ready (rs := [2]) (by kernel_rfl) (by simp) ?_
  refine AllReadyH.cons rfl (fun K hK => ?_) AllReadyH.nil
  go_simp
  go_at_call 45
  refine (HF.out _ (HL3.out.on (Below.refl W3.heap.size W3).drew).r).mono ?_
  rintro e w4 ⟨lf, k2, rfl, hlp, hr4, ho4⟩
  have HL4 := Lib.hid ((HL3.out.on (Below.refl W3.heap.size W3).drew).call ho4 hr4)
  have HLP := Lib.hid hlp
  have m2 := HL4.out.m.cell 2 _ rfl
  have s2 := HL4.out.m.soft 2
  clear hr4 ho4 hlp
  refine hK.out _ _ (⟨HL4.out.bq.cell 0 _ rfl, HL4.out.br.cell 0 _ rfl⟩) (fun hHeld => ?_)
  clear hK K
  (try simp only [Act.put, List.getElem_toArray, List.getElem_cons_succ, List.getElem_cons_zero, List.setIfInBounds_toArray, List.set_cons_zero, List.set_cons_succ])
  refine wpAnyH_take (i := 3) (v := ?_) rfl (by kernel_rfl) (by kernel_rfl) (by kernel_rfl) (fun _ _ _ h => h) (Or.inl ⟨by rfl, ?hy⟩) (by assumption) ?_
  case hy =>
    intro wx hSw
    obtain ⟨q0, q1⟩ := hSw
    go_simp
    all_goals with_reducible rfl
  (try simp only [Act.put, List.getElem_toArray, List.getElem_cons_succ, List.getElem_cons_zero, List.setIfInBounds_toArray, List.set_cons_zero, List.set_cons_succ])
  refine wpAnyH_take (i := 4) (v := ?_) rfl (by kernel_rfl) (by kernel_rfl) (by kernel_rfl) (fun _ _ _ h => h) (Or.inl ⟨by rfl, ?hy⟩) (by assumption) ?_
  case hy =>
    intro wx hSw
    obtain ⟨q0, q1⟩ := hSw
    go_simp
    all_goals with_reducible rfl
  (try simp only [Act.put, List.getElem_toArray, List.getElem_cons_succ, List.getElem_cons_zero, List.setIfInBounds_toArray, List.set_cons_zero, List.set_cons_succ])
  refine wpAnyH_ready (rs := [5]) (by kernel_rfl) (by simp) ?_
  refine AllReadyH.cons rfl (fun K hK => ?_) AllReadyH.nil
  go_simp
  have HL5 := Lib.hid (HL4.out.store 2 (.int .i64 lf))
  refine hK.out _ _ (⟨HL5.out.bq.cell 0 _ rfl, HL5.out.br.cell 0 _ rfl⟩) (fun hHeld => ?_)
  clear hK K
  (try simp only [Act.put, List.getElem_toArray, List.getElem_cons_succ, List.getElem_cons_zero, List.setIfInBounds_toArray, List.set_cons_zero, List.set_cons_succ])
  refine wpAnyH_done (by kernel_rfl) ?_ _
  clear hHeld HL3 HL4 m2 s2 gq gr
  generalize w4.setCell ⟨qb, 2, none⟩ (.int .i64 lf) = W5 at *
  have gq := HL5.out.bq.cell 0 _ rfl
  have gr := HL5.out.br.cell 0 _ rfl
  go_upto_region 3 with fail
  refine wp_region_held_drew (S := fun X => X.cell? ⟨xq, 0, none⟩ = some (.pointer (some ⟨qb, 0, none⟩)) ∧ X.cell? ⟨xr, 0, none⟩ = some (.pointer (some ⟨rb, 0, none⟩))) (by kernel_rfl) ⟨gq, gr⟩ (fun hHeld => ?_)
  refine wpAnyH_take (i := 0) (v := ?_) rfl (by kernel_rfl) (by kernel_rfl) (by kernel_rfl) (fun _ _ _ h => h) (Or.inl ⟨by rfl, ?hy⟩) (by assumption) ?_
  case hy =>
    intro wx hSw
    obtain ⟨q0, q1⟩ := hSw
    go_simp
    all_goals with_reducible rfl
  (try simp only [Act.put, List.getElem_toArray, List.getElem_cons_succ, List.getElem_cons_zero, List.setIfInBounds_toArray, List.set_cons_zero, List.set_cons_succ])
  refine wpAnyH_take (i := 1) (v := ?_) rfl (by kernel_rfl) (by kernel_rfl) (by kernel_rfl) (fun _ _ _ h => h) (Or.inl ⟨by rfl, ?hy⟩) (by assumption) ?_
  case hy =>
    intro wx hSw
    obtain ⟨q0, q1⟩ := hSw
    go_simp
    all_goals with_reducible rfl
  (try simp only [Act.put, List.getElem_toArray, List.getElem_cons_succ, List.getElem_cons_zero, List.setIfInBounds_toArray, List.set_cons_zero, List.set_cons_succ])
  refine wpAnyH_ready (rs := [2]) (by kernel_rfl) (by simp) ?_
  refine AllReadyH.cons rfl (fun K hK => ?_) AllReadyH.nil
  go_simp
  go_at_call 46
  refine (HR.out _ lf k2 HLP.out (HL5.out.on (Below.refl W5.heap.size W5).drew).r).mono ?_
  rintro e w6 ⟨cl, rfl, hcp, hr6, ho6⟩
  have HL6 := Lib.hid ((HL5.out.on (Below.refl W5.heap.size W5).drew).call ho6 hr6)
  have HCP := Lib.hid hcp
  have m3 := HL6.out.m.cell 3 _ rfl
  have s3 := HL6.out.m.soft 3
  have m4 := HL6.out.m.cell 4 _ rfl
  have s4 := HL6.out.m.soft 4
  have m5 := HL6.out.m.cell 5 _ rfl
  have s5 := HL6.out.m.soft 5
  have m6 := HL6.out.m.cell 6 _ rfl
  have s6 := HL6.out.m.soft 6
  have m7 := HL6.out.m.cell 7 _ rfl
  have s7 := HL6.out.m.soft 7
  have m8 := HL6.out.m.cell 8 _ rfl
  have s8 := HL6.out.m.soft 8
  have m9 := HL6.out.m.cell 9 _ rfl
  have s9 := HL6.out.m.soft 9
  unfold Kp.agg
  clear hr6 ho6 hcp
  refine hK.out _ _ (⟨HL6.out.bq.cell 0 _ rfl, HL6.out.br.cell 0 _ rfl⟩) (fun hHeld => ?_)
  clear hK K
  (try simp only [Act.put, List.getElem_toArray, List.getElem_cons_succ, List.getElem_cons_zero, List.setIfInBounds_toArray, List.set_cons_zero, List.set_cons_succ])
  refine wpAnyH_take (i := 3) (v := ?_) rfl (by kernel_rfl) (by kernel_rfl) (by kernel_rfl) (fun _ _ _ h => h) (Or.inl ⟨by rfl, ?hy⟩) (by assumption) ?_
  case hy =>
    intro wx hSw
    obtain ⟨q0, q1⟩ := hSw
    go_simp
    all_goals with_reducible rfl
  (try simp only [Act.put, List.getElem_toArray, List.getElem_cons_succ, List.getElem_cons_zero, List.setIfInBounds_toArray, List.set_cons_zero, List.set_cons_succ])
  refine wpAnyH_take (i := 4) (v := ?_) rfl (by kernel_rfl) (by kernel_rfl) (by kernel_rfl) (fun _ _ _ h => h) (Or.inl ⟨by rfl, ?hy⟩) (by assumption) ?_
  case hy =>
    intro wx hSw
    obtain ⟨q0, q1⟩ := hSw
    go_simp
    all_goals with_reducible rfl
  (try simp only [Act.put, List.getElem_toArray, List.getElem_cons_succ, List.getElem_cons_zero, List.setIfInBounds_toArray, List.set_cons_zero, List.set_cons_succ])
  refine wpAnyH_ready (rs := [5]) (by kernel_rfl) (by simp) ?_
  refine AllReadyH.cons rfl (fun K hK => ?_) AllReadyH.nil
  go_simp
  have HL7 := Lib.hid (((((((((((((HL6.out.store 3 (.int .u8 cl.head.kind))).store 4 (.string cl.head.who.v))).store 5 (.string cl.head.who.s))).store 6 (.int .i64 cl.head.who.n))).store 7 (.string cl.head.pred))).store 8 (.slice cl.head.ptr cl.head.args.length cl.head.cap))).store 9 (.slice cl.ptr cl.body.length cl.cap))
  have HA7 := Lib.hid ((((((((Above.refl (qb + 1) w6).set (b := qb) (Nat.lt_succ_self qb) 3 (.int .u8 cl.head.kind)).set (b := qb) (Nat.lt_succ_self qb) 4 (.string cl.head.who.v)).set (b := qb) (Nat.lt_succ_self qb) 5 (.string cl.head.who.s)).set (b := qb) (Nat.lt_succ_self qb) 6 (.int .i64 cl.head.who.n)).set (b := qb) (Nat.lt_succ_self qb) 7 (.string cl.head.pred)).set (b := qb) (Nat.lt_succ_self qb) 8 (.slice cl.head.ptr cl.head.args.length cl.head.cap)).set (b := qb) (Nat.lt_succ_self qb) 9 (.slice cl.ptr cl.body.length cl.cap))
  refine hK.out _ _ (⟨HL7.out.bq.cell 0 _ rfl, HL7.out.br.cell 0 _ rfl⟩) (fun hHeld => ?_)
  clear hK K
  (try simp only [Act.put, List.getElem_toArray, List.getElem_cons_succ, List.getElem_cons_zero, List.setIfInBounds_toArray, List.set_cons_zero, List.set_cons_succ])
  refine wpAnyH_done (by kernel_rfl) ?_ _
  refine bodyPost_end (v := .tuple #[]) (results_none rfl _ _ _) rfl ?_
  exact ⟨rfl, lf, k2, cl, _, w6, HLP.out, (HL5.out.on (Below.refl W5.heap.size W5).drew).t.size, HCP.out, HA7.out, by simp [World.setCell], HL7.out⟩
set_option maxHeartbeats 8000000 in
set_option maxRecDepth 100000 in
theorem lead2_walk (X : World) (rb qb xr xq : Nat) (s : ByteArray) (q : Option Addr) (c : Nat) (ts : List Tok) (hL : LD X rb qb xr xq s q c ts 1 0 0 (rqC 0 ⟨#[]⟩ 0 kpZ 0 lpZ) X) (n : Int) (k1 : Nat) (a1 e1 a2 e2 : Int)
    (hN : ∀ W, Rb W rb s q c ts 1 0 0 → Calls Tryz.prog 49 #[.pointer (some ⟨rb, 0, none⟩)] W fun e w' => e = .returned (.int .i64 n) ∧ Rb w' rb s q c ts k1 a1 e1 ∧ Only rb W w')
    (hE : ∀ W, Rb W rb s q c ts k1 a1 e1 → Calls Tryz.prog 50 #[.pointer (some ⟨rb, 0, none⟩)] W fun e w' => e = .returned (.tuple #[]) ∧ Rb w' rb s q c ts k1 a2 e2 ∧ Only rb W w') :
    Calls Tryz.prog 48 #[.pointer (some ⟨xq, 0, none⟩), .pointer (some ⟨xr, 0, none⟩)] X fun e w' => e = .returned (.tuple #[]) ∧ LD X rb qb xr xq s q c ts k1 a2 e2 (rqC 2 ⟨#[]⟩ 0 kpZ n lpZ) w' := by
  have HL := Lib.hid hL
  have HN := Lib.hid hN
  have HE := Lib.hid hE
  clear hL hN hE
  have gq := HL.out.bq.cell 0 _ rfl
  have m0 := HL.out.m.cell 0 _ rfl
  have s0 := HL.out.m.soft 0
  go_enter Tryz.func48, Tryz.ntmps48
  go_upto_region 1 with fail
  have HL1 := Lib.hid (HL.out.store 0 (.int .u8 2))
  generalize X.setCell ⟨qb, 0, none⟩ (.int .u8 2) = W1 at *
  clear gq m0 s0
  have gq := HL1.out.bq.cell 0 _ rfl
  have gr := HL1.out.br.cell 0 _ rfl
  refine wp_region_held_drew (S := fun X => X.cell? ⟨xq, 0, none⟩ = some (.pointer (some ⟨qb, 0, none⟩)) ∧ X.cell? ⟨xr, 0, none⟩ = some (.pointer (some ⟨rb, 0, none⟩))) (by kernel_rfl) ⟨gq, gr⟩ (fun hHeld => ?_)
  refine wpAnyH_take (i := 0) (v := ?_) rfl (by kernel_rfl) (by kernel_rfl) (by kernel_rfl) (fun _ _ _ h => h) (Or.inl ⟨by rfl, ?hy⟩) (by assumption) ?_
  case hy =>
    intro wx hSw
    obtain ⟨q0, q1⟩ := hSw
    go_simp
    all_goals with_reducible rfl
  (try simp only [Act.put, List.getElem_toArray, List.getElem_cons_succ, List.getElem_cons_zero, List.setIfInBounds_toArray, List.set_cons_zero, List.set_cons_succ])
  refine wpAnyH_take (i := 1) (v := ?_) rfl (by kernel_rfl) (by kernel_rfl) (by kernel_rfl) (fun _ _ _ h => h) (Or.inl ⟨by rfl, ?hy⟩) (by assumption) ?_
  case hy =>
    intro wx hSw
    obtain ⟨q0, q1⟩ := hSw
    go_simp
    all_goals with_reducible rfl
  (try simp only [Act.put, List.getElem_toArray, List.getElem_cons_succ, List.getElem_cons_zero, List.setIfInBounds_toArray, List.set_cons_zero, List.set_cons_succ])
  refine wpAnyH_ready (rs := [2]) (by kernel_rfl) (by simp) ?_
  refine AllReadyH.cons rfl (fun K hK => ?_) AllReadyH.nil
  go_simp
  go_at_call 49
  refine (HN.out _ (HL1.out.on (Below.refl W1.heap.size W1).drew).r).mono ?_
  rintro e w2 ⟨rfl, hr2, ho2⟩
  have HL2 := Lib.hid ((HL1.out.on (Below.refl W1.heap.size W1).drew).call ho2 hr2)
  have m1 := HL2.out.m.cell 10 _ rfl
  have s1 := HL2.out.m.soft 10
  clear hr2 ho2
  refine hK.out _ _ (⟨HL2.out.bq.cell 0 _ rfl, HL2.out.br.cell 0 _ rfl⟩) (fun hHeld => ?_)
  clear hK K
  (try simp only [Act.put, List.getElem_toArray, List.getElem_cons_succ, List.getElem_cons_zero, List.setIfInBounds_toArray, List.set_cons_zero, List.set_cons_succ])
  refine wpAnyH_take (i := 3) (v := ?_) rfl (by kernel_rfl) (by kernel_rfl) (by kernel_rfl) (fun _ _ _ h => h) (Or.inl ⟨by rfl, ?hy⟩) (by assumption) ?_
  case hy =>
    intro wx hSw
    obtain ⟨q0, q1⟩ := hSw
    go_simp
    all_goals with_reducible rfl
  (try simp only [Act.put, List.getElem_toArray, List.getElem_cons_succ, List.getElem_cons_zero, List.setIfInBounds_toArray, List.set_cons_zero, List.set_cons_succ])
  refine wpAnyH_take (i := 4) (v := ?_) rfl (by kernel_rfl) (by kernel_rfl) (by kernel_rfl) (fun _ _ _ h => h) (Or.inl ⟨by rfl, ?hy⟩) (by assumption) ?_
  case hy =>
    intro wx hSw
    obtain ⟨q0, q1⟩ := hSw
    go_simp
    all_goals with_reducible rfl
  (try simp only [Act.put, List.getElem_toArray, List.getElem_cons_succ, List.getElem_cons_zero, List.setIfInBounds_toArray, List.set_cons_zero, List.set_cons_succ])
  refine wpAnyH_ready (rs := [5]) (by kernel_rfl) (by simp) ?_
  refine AllReadyH.cons rfl (fun K hK => ?_) AllReadyH.nil
  go_simp
  have HL3 := Lib.hid (HL2.out.store 10 (.int .i64 n))
  refine hK.out _ _ (⟨HL3.out.bq.cell 0 _ rfl, HL3.out.br.cell 0 _ rfl⟩) (fun hHeld => ?_)
  clear hK K
  (try simp only [Act.put, List.getElem_toArray, List.getElem_cons_succ, List.getElem_cons_zero, List.setIfInBounds_toArray, List.set_cons_zero, List.set_cons_succ])
  refine wpAnyH_done (by kernel_rfl) ?_ _
  clear hHeld HL1 HL2 m1 s1 gq gr
  generalize w2.setCell ⟨qb, 10, none⟩ (.int .i64 n) = W3 at *
  have gr := HL3.out.br.cell 0 _ rfl
  go_wp2_with (go_at_call 50; refine (HE.out _ HL3.out.r).mono ?_; rintro e w4 ⟨rfl, hr4, ho4⟩; have HL4 := Lib.hid (HL3.out.call ho4 hr4); clear hr4 ho4)
  refine bodyPost_end (v := .tuple #[]) (results_none rfl _ _ _) rfl ?_
  exact ⟨rfl, HL4.out⟩
set_option maxHeartbeats 8000000 in
set_option maxRecDepth 100000 in
theorem lead3_walk (X : World) (rb qb xr xq : Nat) (s : ByteArray) (q : Option Addr) (c : Nat) (ts : List Tok) (hL : LD X rb qb xr xq s q c ts 1 0 0 (rqC 0 ⟨#[]⟩ 0 kpZ 0 lpZ) X) (a3 e3 : Int) (CP : World → Lp → World → Prop)
    (hR : ∀ W, Rb W rb s q c ts 1 0 0 → Calls Tryz.prog 52 #[.pointer (some ⟨rb, 0, none⟩), .func (.func 53) #[] #[]] W fun e w' => ∃ lp : Lp, e = .returned lp.agg ∧ CP W lp w' ∧ Rb w' rb s q c ts 1 a3 e3 ∧ Only rb W w') :
    Calls Tryz.prog 51 #[.pointer (some ⟨xq, 0, none⟩), .pointer (some ⟨xr, 0, none⟩)] X fun e w' => e = .returned (.tuple #[]) ∧ ∃ lp W7 W8, X.heap.size ≤ W7.heap.size ∧ CP W7 lp W8 ∧ Above (qb + 1) W8 w' ∧ W8.heap.size ≤ w'.heap.size ∧ LD X rb qb xr xq s q c ts 1 a3 e3 (rqC 3 ⟨#[]⟩ 0 kpZ 0 lp) w' := by
  have HL := Lib.hid hL
  have HR := Lib.hid hR
  clear hL hR
  have gq := HL.out.bq.cell 0 _ rfl
  have m0 := HL.out.m.cell 0 _ rfl
  have s0 := HL.out.m.soft 0
  go_enter Tryz.func51, Tryz.ntmps51
  go_upto_region 1 with fail
  have HL1 := Lib.hid (HL.out.store 0 (.int .u8 3))
  generalize X.setCell ⟨qb, 0, none⟩ (.int .u8 3) = W1 at *
  clear gq m0 s0
  have gq := HL1.out.bq.cell 0 _ rfl
  have gr := HL1.out.br.cell 0 _ rfl
  refine wp_region_held_drew (S := fun X => X.cell? ⟨xq, 0, none⟩ = some (.pointer (some ⟨qb, 0, none⟩)) ∧ X.cell? ⟨xr, 0, none⟩ = some (.pointer (some ⟨rb, 0, none⟩))) (by kernel_rfl) ⟨gq, gr⟩ (fun hHeld => ?_)
  refine wpAnyH_take (i := 0) (v := ?_) rfl (by kernel_rfl) (by kernel_rfl) (by kernel_rfl) (fun _ _ _ h => h) (Or.inl ⟨by rfl, ?hy⟩) (by assumption) ?_
  case hy =>
    intro wx hSw
    obtain ⟨q0, q1⟩ := hSw
    go_simp
    all_goals with_reducible rfl
  (try simp only [Act.put, List.getElem_toArray, List.getElem_cons_succ, List.getElem_cons_zero, List.setIfInBounds_toArray, List.set_cons_zero, List.set_cons_succ])
  refine wpAnyH_take (i := 1) (v := ?_) rfl (by kernel_rfl) (by kernel_rfl) (by kernel_rfl) (fun _ _ _ h => h) (Or.inl ⟨by rfl, ?hy⟩) (by assumption) ?_
  case hy =>
    intro wx hSw
    obtain ⟨q0, q1⟩ := hSw
    go_simp
    all_goals with_reducible rfl
  (try simp only [Act.put, List.getElem_toArray, List.getElem_cons_succ, List.getElem_cons_zero, List.setIfInBounds_toArray, List.set_cons_zero, List.set_cons_succ])
  refine wpAnyH_ready (rs := [2]) (by kernel_rfl) (by simp) ?_
  refine AllReadyH.cons rfl (fun K hK => ?_) AllReadyH.nil
  go_simp
  go_at_call 52
  refine (HR.out _ (HL1.out.on (Below.refl W1.heap.size W1).drew).r).mono ?_
  rintro e w2 ⟨lp, rfl, hcp, hr2, ho2⟩
  have HL2 := Lib.hid ((HL1.out.on (Below.refl W1.heap.size W1).drew).call ho2 hr2)
  have HCP := Lib.hid hcp
  have m11 := HL2.out.m.cell 11 _ rfl
  have s11 := HL2.out.m.soft 11
  have m12 := HL2.out.m.cell 12 _ rfl
  have s12 := HL2.out.m.soft 12
  have m13 := HL2.out.m.cell 13 _ rfl
  have s13 := HL2.out.m.soft 13
  have m14 := HL2.out.m.cell 14 _ rfl
  have s14 := HL2.out.m.soft 14
  have m15 := HL2.out.m.cell 15 _ rfl
  have s15 := HL2.out.m.soft 15
  have m16 := HL2.out.m.cell 16 _ rfl
  have s16 := HL2.out.m.soft 16
  unfold Lp.agg
  clear hr2 ho2 hcp
  refine hK.out _ _ (⟨HL2.out.bq.cell 0 _ rfl, HL2.out.br.cell 0 _ rfl⟩) (fun hHeld => ?_)
  clear hK K
  (try simp only [Act.put, List.getElem_toArray, List.getElem_cons_succ, List.getElem_cons_zero, List.setIfInBounds_toArray, List.set_cons_zero, List.set_cons_succ])
  refine wpAnyH_take (i := 3) (v := ?_) rfl (by kernel_rfl) (by kernel_rfl) (by kernel_rfl) (fun _ _ _ h => h) (Or.inl ⟨by rfl, ?hy⟩) (by assumption) ?_
  case hy =>
    intro wx hSw
    obtain ⟨q0, q1⟩ := hSw
    go_simp
    all_goals with_reducible rfl
  (try simp only [Act.put, List.getElem_toArray, List.getElem_cons_succ, List.getElem_cons_zero, List.setIfInBounds_toArray, List.set_cons_zero, List.set_cons_succ])
  refine wpAnyH_take (i := 4) (v := ?_) rfl (by kernel_rfl) (by kernel_rfl) (by kernel_rfl) (fun _ _ _ h => h) (Or.inl ⟨by rfl, ?hy⟩) (by assumption) ?_
  case hy =>
    intro wx hSw
    obtain ⟨q0, q1⟩ := hSw
    go_simp
    all_goals with_reducible rfl
  (try simp only [Act.put, List.getElem_toArray, List.getElem_cons_succ, List.getElem_cons_zero, List.setIfInBounds_toArray, List.set_cons_zero, List.set_cons_succ])
  refine wpAnyH_ready (rs := [5]) (by kernel_rfl) (by simp) ?_
  refine AllReadyH.cons rfl (fun K hK => ?_) AllReadyH.nil
  go_simp
  have HL3 := Lib.hid ((((((HL2.out.store 11 (.int .u8 lp.kind)).store 12 (.string lp.who.v)).store 13 (.string lp.who.s)).store 14 (.int .i64 lp.who.n)).store 15 (.string lp.pred)).store 16 (.slice lp.ptr lp.args.length lp.cap))
  have HA3 := Lib.hid (((((((Above.refl (qb + 1) w2).set (b := qb) (Nat.lt_succ_self qb) 11 (.int .u8 lp.kind)).set (b := qb) (Nat.lt_succ_self qb) 12 (.string lp.who.v)).set (b := qb) (Nat.lt_succ_self qb) 13 (.string lp.who.s)).set (b := qb) (Nat.lt_succ_self qb) 14 (.int .i64 lp.who.n)).set (b := qb) (Nat.lt_succ_self qb) 15 (.string lp.pred)).set (b := qb) (Nat.lt_succ_self qb) 16 (.slice lp.ptr lp.args.length lp.cap))
  refine hK.out _ _ (⟨HL3.out.bq.cell 0 _ rfl, HL3.out.br.cell 0 _ rfl⟩) (fun hHeld => ?_)
  clear hK K
  (try simp only [Act.put, List.getElem_toArray, List.getElem_cons_succ, List.getElem_cons_zero, List.setIfInBounds_toArray, List.set_cons_zero, List.set_cons_succ])
  refine wpAnyH_done (by kernel_rfl) ?_ _
  refine bodyPost_end (v := .tuple #[]) (results_none rfl _ _ _) rfl ?_
  exact ⟨rfl, lp, _, w2, (HL1.out.on (Below.refl W1.heap.size W1).drew).t.size, HCP.out, HA3.out, by simp [World.setCell], HL3.out⟩
set_option maxHeartbeats 8000000 in
set_option maxRecDepth 100000 in
theorem lead4_walk (X : World) (rb qb xr xq : Nat) (s : ByteArray) (q : Option Addr) (c : Nat) (ts : List Tok) (hL : LD X rb qb xr xq s q c ts 1 0 0 (rqC 0 ⟨#[]⟩ 0 kpZ 0 lpZ) X) (a3 e3 : Int) (CP : World → Lp → World → Prop)
    (hR : ∀ W, Rb W rb s q c ts 1 0 0 → Calls Tryz.prog 52 #[.pointer (some ⟨rb, 0, none⟩), .func (.func 53) #[] #[]] W fun e w' => ∃ lp : Lp, e = .returned lp.agg ∧ CP W lp w' ∧ Rb w' rb s q c ts 1 a3 e3 ∧ Only rb W w') :
    Calls Tryz.prog 54 #[.pointer (some ⟨xq, 0, none⟩), .pointer (some ⟨xr, 0, none⟩)] X fun e w' => e = .returned (.tuple #[]) ∧ ∃ lp W7 W8, X.heap.size ≤ W7.heap.size ∧ CP W7 lp W8 ∧ Above (qb + 1) W8 w' ∧ W8.heap.size ≤ w'.heap.size ∧ LD X rb qb xr xq s q c ts 1 a3 e3 (rqC 4 ⟨#[]⟩ 0 kpZ 0 lp) w' := by
  have HL := Lib.hid hL
  have HR := Lib.hid hR
  clear hL hR
  have gq := HL.out.bq.cell 0 _ rfl
  have m0 := HL.out.m.cell 0 _ rfl
  have s0 := HL.out.m.soft 0
  go_enter Tryz.func54, Tryz.ntmps54
  go_upto_region 1 with fail
  have HL1 := Lib.hid (HL.out.store 0 (.int .u8 4))
  generalize X.setCell ⟨qb, 0, none⟩ (.int .u8 4) = W1 at *
  clear gq m0 s0
  have gq := HL1.out.bq.cell 0 _ rfl
  have gr := HL1.out.br.cell 0 _ rfl
  refine wp_region_held_drew (S := fun X => X.cell? ⟨xq, 0, none⟩ = some (.pointer (some ⟨qb, 0, none⟩)) ∧ X.cell? ⟨xr, 0, none⟩ = some (.pointer (some ⟨rb, 0, none⟩))) (by kernel_rfl) ⟨gq, gr⟩ (fun hHeld => ?_)
  refine wpAnyH_take (i := 0) (v := ?_) rfl (by kernel_rfl) (by kernel_rfl) (by kernel_rfl) (fun _ _ _ h => h) (Or.inl ⟨by rfl, ?hy⟩) (by assumption) ?_
  case hy =>
    intro wx hSw
    obtain ⟨q0, q1⟩ := hSw
    go_simp
    all_goals with_reducible rfl
  (try simp only [Act.put, List.getElem_toArray, List.getElem_cons_succ, List.getElem_cons_zero, List.setIfInBounds_toArray, List.set_cons_zero, List.set_cons_succ])
  refine wpAnyH_take (i := 1) (v := ?_) rfl (by kernel_rfl) (by kernel_rfl) (by kernel_rfl) (fun _ _ _ h => h) (Or.inl ⟨by rfl, ?hy⟩) (by assumption) ?_
  case hy =>
    intro wx hSw
    obtain ⟨q0, q1⟩ := hSw
    go_simp
    all_goals with_reducible rfl
  (try simp only [Act.put, List.getElem_toArray, List.getElem_cons_succ, List.getElem_cons_zero, List.setIfInBounds_toArray, List.set_cons_zero, List.set_cons_succ])
  refine wpAnyH_ready (rs := [2]) (by kernel_rfl) (by simp) ?_
  refine AllReadyH.cons rfl (fun K hK => ?_) AllReadyH.nil
  go_simp
  go_at_call 52
  refine (HR.out _ (HL1.out.on (Below.refl W1.heap.size W1).drew).r).mono ?_
  rintro e w2 ⟨lp, rfl, hcp, hr2, ho2⟩
  have HL2 := Lib.hid ((HL1.out.on (Below.refl W1.heap.size W1).drew).call ho2 hr2)
  have HCP := Lib.hid hcp
  have m11 := HL2.out.m.cell 11 _ rfl
  have s11 := HL2.out.m.soft 11
  have m12 := HL2.out.m.cell 12 _ rfl
  have s12 := HL2.out.m.soft 12
  have m13 := HL2.out.m.cell 13 _ rfl
  have s13 := HL2.out.m.soft 13
  have m14 := HL2.out.m.cell 14 _ rfl
  have s14 := HL2.out.m.soft 14
  have m15 := HL2.out.m.cell 15 _ rfl
  have s15 := HL2.out.m.soft 15
  have m16 := HL2.out.m.cell 16 _ rfl
  have s16 := HL2.out.m.soft 16
  unfold Lp.agg
  clear hr2 ho2 hcp
  refine hK.out _ _ (⟨HL2.out.bq.cell 0 _ rfl, HL2.out.br.cell 0 _ rfl⟩) (fun hHeld => ?_)
  clear hK K
  (try simp only [Act.put, List.getElem_toArray, List.getElem_cons_succ, List.getElem_cons_zero, List.setIfInBounds_toArray, List.set_cons_zero, List.set_cons_succ])
  refine wpAnyH_take (i := 3) (v := ?_) rfl (by kernel_rfl) (by kernel_rfl) (by kernel_rfl) (fun _ _ _ h => h) (Or.inl ⟨by rfl, ?hy⟩) (by assumption) ?_
  case hy =>
    intro wx hSw
    obtain ⟨q0, q1⟩ := hSw
    go_simp
    all_goals with_reducible rfl
  (try simp only [Act.put, List.getElem_toArray, List.getElem_cons_succ, List.getElem_cons_zero, List.setIfInBounds_toArray, List.set_cons_zero, List.set_cons_succ])
  refine wpAnyH_take (i := 4) (v := ?_) rfl (by kernel_rfl) (by kernel_rfl) (by kernel_rfl) (fun _ _ _ h => h) (Or.inl ⟨by rfl, ?hy⟩) (by assumption) ?_
  case hy =>
    intro wx hSw
    obtain ⟨q0, q1⟩ := hSw
    go_simp
    all_goals with_reducible rfl
  (try simp only [Act.put, List.getElem_toArray, List.getElem_cons_succ, List.getElem_cons_zero, List.setIfInBounds_toArray, List.set_cons_zero, List.set_cons_succ])
  refine wpAnyH_ready (rs := [5]) (by kernel_rfl) (by simp) ?_
  refine AllReadyH.cons rfl (fun K hK => ?_) AllReadyH.nil
  go_simp
  have HL3 := Lib.hid ((((((HL2.out.store 11 (.int .u8 lp.kind)).store 12 (.string lp.who.v)).store 13 (.string lp.who.s)).store 14 (.int .i64 lp.who.n)).store 15 (.string lp.pred)).store 16 (.slice lp.ptr lp.args.length lp.cap))
  have HA3 := Lib.hid (((((((Above.refl (qb + 1) w2).set (b := qb) (Nat.lt_succ_self qb) 11 (.int .u8 lp.kind)).set (b := qb) (Nat.lt_succ_self qb) 12 (.string lp.who.v)).set (b := qb) (Nat.lt_succ_self qb) 13 (.string lp.who.s)).set (b := qb) (Nat.lt_succ_self qb) 14 (.int .i64 lp.who.n)).set (b := qb) (Nat.lt_succ_self qb) 15 (.string lp.pred)).set (b := qb) (Nat.lt_succ_self qb) 16 (.slice lp.ptr lp.args.length lp.cap))
  refine hK.out _ _ (⟨HL3.out.bq.cell 0 _ rfl, HL3.out.br.cell 0 _ rfl⟩) (fun hHeld => ?_)
  clear hK K
  (try simp only [Act.put, List.getElem_toArray, List.getElem_cons_succ, List.getElem_cons_zero, List.setIfInBounds_toArray, List.set_cons_zero, List.set_cons_succ])
  refine wpAnyH_done (by kernel_rfl) ?_ _
  refine bodyPost_end (v := .tuple #[]) (results_none rfl _ _ _) rfl ?_
  exact ⟨rfl, lp, _, w2, (HL1.out.on (Below.refl W1.heap.size W1).drew).t.size, HCP.out, HA3.out, by simp [World.setCell], HL3.out⟩
set_option maxHeartbeats 8000000 in
set_option maxRecDepth 100000 in
theorem lead5_walk (X : World) (rb qb xr xq : Nat) (s : ByteArray) (q : Option Addr) (c : Nat) (ts : List Tok) (hL : LD X rb qb xr xq s q c ts 1 0 0 (rqC 0 ⟨#[]⟩ 0 kpZ 0 lpZ) X) (a2 e2 : Int)
    (hE : ∀ W, Rb W rb s q c ts 1 0 0 → Calls Tryz.prog 50 #[.pointer (some ⟨rb, 0, none⟩)] W fun e w' => e = .returned (.tuple #[]) ∧ Rb w' rb s q c ts 1 a2 e2 ∧ Only rb W w') :
    Calls Tryz.prog 55 #[.pointer (some ⟨xq, 0, none⟩), .pointer (some ⟨xr, 0, none⟩)] X fun e w' => e = .returned (.tuple #[]) ∧ LD X rb qb xr xq s q c ts 1 a2 e2 (rqC 5 ⟨#[]⟩ 0 kpZ 0 lpZ) w' := by
  have HL := Lib.hid hL
  have HE := Lib.hid hE
  clear hL hE
  have gq := HL.out.bq.cell 0 _ rfl
  have m0 := HL.out.m.cell 0 _ rfl
  have s0 := HL.out.m.soft 0
  go_enter Tryz.func55, Tryz.ntmps55
  go_upto_region 1 with fail
  have HL1 := Lib.hid (HL.out.store 0 (.int .u8 5))
  generalize X.setCell ⟨qb, 0, none⟩ (.int .u8 5) = W1 at *
  clear gq m0 s0
  have gq := HL1.out.bq.cell 0 _ rfl
  have gr := HL1.out.br.cell 0 _ rfl
  go_wp2_with (go_at_call 50; refine (HE.out _ HL1.out.r).mono ?_; rintro e w4 ⟨rfl, hr4, ho4⟩; have HL4 := Lib.hid (HL1.out.call ho4 hr4); clear hr4 ho4)
  refine bodyPost_end (v := .tuple #[]) (results_none rfl _ _ _) rfl ?_
  exact ⟨rfl, HL4.out⟩
end Go.Proofs.YtfmkfabbiifolaaGreatDoor
