/-
  Joined of: RdrI, RdrJ, RdrK, RdrL, RdrM.
-/
import Derived.Test.YtfmkfabbiifolaaGreatDoorJb06
import Derived.Test.YtfmkfabbiifolaaGreatDoorJa26
set_option linter.unusedVariables false
set_option linter.unusedSimpArgs false
/-
  The reference's Parse: what its loop keeps.
-/
namespace Go.Proofs.YtfmkfabbiifolaaGreatDoor
open Go.RowKit

/-- The literals that were read lie in a row of the call's own, which the clause's block holds; the reader's block holds where it is. -/
structure RJ (w1 : World) (B rb cb : Nat) (a0 a1 a2 a3 a4 a5 : Value) (s : ByteArray) (q : Option Addr) (c : Nat) (ts : List Tok) (k : Nat) (er fr : Int) (acc : List Lp) (w : World) : Prop where
  io : w.os = w1.os ∧ w.tape = w1.tape ∧ w.output = w1.output
  old : ∀ g, g < B → g ≠ rb → g ≠ cb → w.heap[g]? = w1.heap[g]?
  rr : Rr w rb s q c ts k er fr
  own : ∃ v, Bk w cb 31 #[a0, a1, a2, a3, a4, a5, v] ∧ w.ownsRow B 28 6 v acc.length (flatE encL acc) ∧ ∀ l ∈ acc, Far w B v.ownBlock l
  hrb : rb < B
  hcb : cb < B
  n2 : rb < cb
  hi : B ≤ w.heap.size
section
variable {w1 : World} {B rb cb : Nat} {a0 a1 a2 a3 a4 a5 : Value} {s : ByteArray} {q : Option Addr} {c : Nat} {ts : List Tok} {k : Nat} {er fr : Int} {acc : List Lp} {w : World}
theorem RJ.on {w' : World} (h : RJ w1 B rb cb a0 a1 a2 a3 a4 a5 s q c ts k er fr acc w) (hb : Below w.heap.size w w') : RJ w1 B rb cb a0 a1 a2 a3 a4 a5 s q c ts k er fr acc w' := by
  obtain ⟨v, h1, h2, h3⟩ := h.own
  have hi := h.hi
  exact ⟨⟨hb.os.trans h.io.1, hb.tape.trans h.io.2.1, hb.output.trans h.io.2.2⟩, fun g hg x y => (hb.block g (by omega)).trans (h.old g hg x y), h.rr.on hb, ⟨v, h1.on hb, own_below h2 hb, fun l hl => (h3 l hl).keep hb.size fun b _ hlt hne => ⟨hb.block b hlt, hne⟩⟩, h.hrb, h.hcb, h.n2, Nat.le_trans h.hi hb.size⟩
theorem RJ.step {w' : World} {k' : Nat} {er' fr' : Int} (h : RJ w1 B rb cb a0 a1 a2 a3 a4 a5 s q c ts k er fr acc w) (ho : Only rb w w') (hp : Rr w' rb s q c ts k' er' fr') : RJ w1 B rb cb a0 a1 a2 a3 a4 a5 s q c ts k' er' fr' acc w' := by
  obtain ⟨v, h1, h2, h3⟩ := h.own
  have hi := h.hi
  have hrb := h.hrb
  refine ⟨⟨ho.os.trans h.io.1, ho.tape.trans h.io.2.1, ho.output.trans h.io.2.2⟩, fun g hg x y => (ho.block g (by omega) x).trans (h.old g hg x y), hp, ⟨v, h1.only ho (Nat.ne_of_gt h.n2), ?_, fun l hl => (h3 l hl).keep ho.size fun b hB hlt hne => ⟨ho.block b hlt (by omega), hne⟩⟩, h.hrb, h.hcb, h.n2, Nat.le_trans h.hi ho.size⟩
  refine h2.kept (row := some rb) ⟨ho.os, ho.tape, ho.output, ho.size, fun i hi hn => ho.block i hi (fun e => hn (by rw [e]))⟩ ?_
  cases hv : v.ownBlock with
  | none => simp
  | some g =>
    have := (h2.lt g hv).1
    simp; omega
end
theorem RJ.push {w1 : World} {B rb cb : Nat} {a0 a1 a2 a3 a4 a5 : Value} {s : ByteArray} {q : Option Addr} {c : Nat} {ts : List Tok} {k : Nat} {er fr : Int} {acc : List Lp} {w6 w7 : World} {l : Lp} {g cap : Nat} {v : Value}
    (h : RJ w1 B rb cb a0 a1 a2 a3 a4 a5 s q c ts k er fr acc w6) (hv : Bk w6 cb 31 #[a0, a1, a2, a3, a4, a5, v]) (hf : ∀ x ∈ acc, Far w6 B v.ownBlock x) (hr : w6.ownsRow B 28 6 v acc.length (flatE encL acc)) (hl : Far w6 B v.ownBlock l)
    (ho : w7.ownsRow B 28 6 (.slice (some ⟨g, 0, none⟩) (acc.length + 1) cap) (acc.length + 1) (flatE encL acc ++ encL l)) (hg : w6.grownBy w7 v.ownBlock) (hat : v.ownBlock = some g ∨ g = w6.heap.size) :
    RJ w1 B rb cb a0 a1 a2 a3 a4 a5 s q c ts k er fr (acc ++ [l]) (w7.setCell ⟨cb, 6, none⟩ (.slice (some ⟨g, 0, none⟩) (acc.length + 1) cap)) ∧ w7.cell? ⟨cb, 6, none⟩ = some v ∧ w7.frozen? ⟨cb, 6, none⟩ = false := by
  have h1 := h.hcb
  have h4 := h.hrb
  have h6 := h.hi
  have h2 := h.n2
  have hb : Below B w6 w7 := (Below.refl B w6).grown hg h6 (fun k hk => (hr.lt k hk).1)
  have hb7 : Bk w7 cb 31 #[a0, a1, a2, a3, a4, a5, v] := hv.below hb h1
  have hs' : Below (rb + 1) w7 (w7.setCell ⟨cb, 6, none⟩ (.slice (some ⟨g, 0, none⟩) (acc.length + 1) cap)) := setB (by omega) 6 _
  have hs : Below 0 w7 (w7.setCell ⟨cb, 6, none⟩ (.slice (some ⟨g, 0, none⟩) (acc.length + 1) cap)) := setB (Nat.zero_le _) 6 _
  have hkeep : ∀ b, B ≤ b → b < w6.heap.size → v.ownBlock ≠ some b → (w7.setCell ⟨cb, 6, none⟩ (.slice (some ⟨g, 0, none⟩) (acc.length + 1) cap)).heap[b]? = w6.heap[b]? ∧ (Value.slice (some ⟨g, 0, none⟩) (acc.length + 1) cap).ownBlock ≠ some b := by
    intro b hB hlt hne
    refine ⟨(Below.heap_setCell w7 ⟨cb, 6, none⟩ _ b (by show b ≠ cb; omega)).trans (hg.block b hlt (fun e => hne e.symm)), ?_⟩
    show some g ≠ some b
    rcases hat with e | e
    · rw [← e]; exact hne
    · intro e'; injection e' with e'; omega
  refine ⟨⟨⟨(hs.os.trans hb.os).trans h.io.1, (hs.tape.trans hb.tape).trans h.io.2.1, (hs.output.trans hb.output).trans h.io.2.2⟩, fun i hi x y => (Below.heap_setCell w7 ⟨cb, 6, none⟩ _ i (by show i ≠ cb; exact y)).trans ((hb.block i hi).trans (h.old i hi x y)), (h.rr.on' (hb.mono (by omega))).on' hs', ⟨_, hb7.set 6 _, ?_, ?_⟩, h.hrb, h.hcb, h.n2, Nat.le_trans h.hi (Nat.le_trans hb.size hs.size)⟩, hb7.cell 6 _ rfl, hb7.soft 6⟩
  · rw [List.length_append, flatE_snoc]
    exact ownsRow_setCell_below ho (a := ⟨cb, 6, none⟩) h1 _
  · intro x hx
    have hsz : w6.heap.size ≤ (w7.setCell ⟨cb, 6, none⟩ (.slice (some ⟨g, 0, none⟩) (acc.length + 1) cap)).heap.size := Nat.le_trans hb.size hs.size
    rcases List.mem_append.1 hx with hx | hx
    · exact (hf x hx).keep hsz hkeep
    · rw [List.mem_singleton.1 hx]; exact hl.keep hsz hkeep
end Go.Proofs.YtfmkfabbiifolaaGreatDoor

/-
  The reference's Parse: a literal is read while the clause's block holds those before.
-/
namespace Go.Proofs.YtfmkfabbiifolaaGreatDoor
open Go.RowKit

section
variable {w1 : World} {B rb cb : Nat} {a0 a1 a2 a3 a4 a5 : Value} {s : ByteArray} {q : Option Addr} {c : Nat} {ts : List Tok} {k : Nat} {fr : Int} {acc : List Lp} {w : World}
theorem RJ.value {k' : Nat} {er fr : Int} (h : RJ w1 B rb cb a0 a1 a2 a3 a4 a5 s q c ts k' er fr acc w) {v : Value} (hb : Bk w cb 31 #[a0, a1, a2, a3, a4, a5, v]) :
    w.ownsRow B 28 6 v acc.length (flatE encL acc) ∧ ∀ l ∈ acc, Far w B v.ownBlock l := by
  obtain ⟨v2, h1, h2, h3⟩ := h.own
  have e2 : v2 = v := by
    have e := h1.cell 6 _ rfl
    rw [hb.cell 6 _ rfl] at e
    injection e with e; exact e.symm
  subst e2
  exact ⟨h2, h3⟩
theorem RJ.lit (h : RJ w1 B rb cb a0 a1 a2 a3 a4 a5 s q c ts k 0 fr acc w) {v : Value} (hv : Bk w cb 31 #[a0, a1, a2, a3, a4, a5, v]) :
    ∀ X, Below w.heap.size w X → Calls Tryz.prog 61 #[.pointer (some ⟨rb, 0, none⟩)] X fun e w' =>
      ∃ l q' c' k' er' fr', e = .returned (.agg #[.int .u8 l.kind, .string l.who.v, .string l.who.s, .int .i64 l.who.n, .string l.pred, .slice q' l.args.length c']) ∧ Hid ((er' = 0 ∧ fr' = fr ∧ litR s ts k = .ok (l, k')) ∨ (er' ≠ 0 ∧ litR s ts k = .error (er', fr'))) ∧ Hid (Far w' B v.ownBlock (l.at q' c')) ∧ Hid (Bk w' cb 31 #[a0, a1, a2, a3, a4, a5, v]) ∧ Hid (w'.ownsRow B 28 6 v acc.length (flatE encL acc)) ∧ Hid (∀ x ∈ acc, Far w' B v.ownBlock x) ∧ Hid (RJ w1 B rb cb a0 a1 a2 a3 a4 a5 s q c ts k' er' fr' acc w') := by
  intro X hX
  have hx := h.on hX
  refine (rliteral_any X rb s q c ts k fr hx.rr).mono fun e w' ⟨l, q', c', he, ht, hf, ho, hst⟩ => ?_
  have hst' : ∃ k' er' fr', Rr w' rb s q c ts k' er' fr' ∧ ((er' = 0 ∧ fr' = fr ∧ litR s ts k = .ok (l, k')) ∨ (er' ≠ 0 ∧ litR s ts k = .error (er', fr'))) := by
    rcases hst with ⟨k', h1, h2⟩ | ⟨k', n, p, h0, h1, h2⟩
    · exact ⟨_, _, _, h2, .inl ⟨rfl, rfl, h1⟩⟩
    · exact ⟨_, _, _, h2, .inr ⟨h0, h1⟩⟩
  obtain ⟨k', er', fr', hr, hd⟩ := hst'
  have hj := hx.step ho hr
  have hb2 := (hv.on hX).only ho (Nat.ne_of_gt h.n2)
  obtain ⟨ho2, hf2⟩ := hj.value hb2
  obtain ⟨ho1, _⟩ := h.value hv
  refine ⟨l, q', c', k', er', fr', he, Lib.hid hd, Lib.hid (Far.of ht fun b hb => ⟨?_, ?_⟩), Lib.hid hb2, Lib.hid ho2, Lib.hid hf2, Lib.hid hj⟩
  · have := hf b hb
    have := hX.size
    have := h.hi
    show B ≤ b.block
    omega
  · intro e
    have h8 := (ho1.lt b.block e).2
    have := hf b hb
    have := hX.size
    omega
end
end Go.Proofs.YtfmkfabbiifolaaGreatDoor

/-
  Contract: the reference's Parse of a text that is not all tokens.
-/
namespace Go.Proofs.YtfmkfabbiifolaaGreatDoor
open Go.RowKit

set_option maxHeartbeats 8000000 in
set_option maxRecDepth 100000 in
theorem refParse_lex (s : ByteArray) (w : World) (hm : s.size ≤ 140737488351232) (hx : (allL s.data.toList).err ≠ 0) :
    Calls Tryz.prog 24 #[.string s] w (ParsePost w (parseR s)) := by
  have HB := Lib.hid (below1 w)
  have HO := Lib.hid (show ∀ o, _ from fun o => ropen_any s (w.alloc o) hm)
  have HR := Lib.hid (show parseR s = .error ((allL s.data.toList).err, (allL s.data.toList).pl) by unfold parseR; rw [if_neg hx])
  generalize parseR s = R at *
  generalize (allL s.data.toList).err = er at *
  generalize (allL s.data.toList).toks = ts at *
  generalize (allL s.data.toList).pl = pl at *
  have hx' : (er != 0) = true := by simpa using hx
  go_enter Tryz.func24, Tryz.ntmps24
  go_wp2_with (go_at_call 58; refine (HO.out _).mono ?_; rintro e w1 ⟨rb, q, c, rfl, hge, hlt, hr1, hb1⟩; have HZ1 := Lib.hid ((Bk.new w _ _).on hb1); have HB1 := Lib.hid ((HB.out _).trans (hb1.mono (HB.out _).size)); obtain ⟨z0, z1, z2, z3, z4, z5, z6⟩ := HZ1.out.seven; obtain ⟨t0, t1, t2, t3, t4, t5, t6⟩ := HZ1.out.softs; clear hb1 hr1 hge)
  obtain ⟨q0, q1, q2', q3, q4, q5, q6⟩ := (load7 HZ1.out (.int .u8 0) (.string ⟨#[]⟩) (.string ⟨#[]⟩) (.int .i64 0) (.string ⟨#[]⟩) (.slice none 0 0) (.slice none 0 0)).seven
  refine bodyPost_ret (v := .tuple #[kpZ.agg, .int .i64 pl, .int .i64 er]) ?_ rfl ?_
  · simp [results, Tryz.results24, go_sem, q0, q1, q2', q3, q4, q5, q6, kpZ, lpZ, Kp.agg, tmZ]
  · rw [HR.out]
    exact ⟨rfl, HB1.out.trans (set7 (Nat.le_refl w.heap.size) _ _ _ _ _ _ _)⟩
end Go.Proofs.YtfmkfabbiifolaaGreatDoor

/-
  Contract: the reference's Parse where the head can't be read.
-/
namespace Go.Proofs.YtfmkfabbiifolaaGreatDoor
open Go.RowKit

set_option maxHeartbeats 8000000 in
set_option maxRecDepth 100000 in
theorem refParse_head (s : ByteArray) (w : World) (hm : s.size ≤ 140737488351232) (hx : (allL s.data.toList).err = 0) (n0 p0 : Int) (hat : atomR s (allL s.data.toList).toks 0 = .error (n0, p0)) :
    Calls Tryz.prog 24 #[.string s] w (ParsePost w (parseR s)) := by
  have HB := Lib.hid (below1 w)
  have HO := Lib.hid (show ∀ o, _ from fun o => ropen_any s (w.alloc o) hm)
  have HP := Lib.hid (show parseR s = .error (n0, p0) by simp [parseR, hx, clauseR, hat, wholeR])
  generalize parseR s = R at *
  rw [hx] at HO
  generalize (allL s.data.toList).toks = ts at *
  generalize (allL s.data.toList).pl = pl at *
  have HAT := Lib.hid (show ∀ wx rb q c, Rr wx rb s q c ts 0 0 0 → Calls Tryz.prog 59 #[.pointer (some ⟨rb, 0, none⟩)] wx fun e w' => ∃ nm q' l c', e = .returned (.tuple #[.string nm, .slice q' (l : List Tm).length c']) ∧ Only rb wx w' ∧ ∃ k', n0 ≠ 0 ∧ Rr w' rb s q c ts k' n0 p0 from fun wx rb q c h => (ratom_any wx rb s q c ts 0 0 0 h).mono fun e w' ⟨nm, q', l, c', h1, _, _, h2, h3⟩ => ⟨nm, q', l, c', h1, h2, by
    rcases h3 with ⟨k', _, h4, _⟩ | ⟨k', n, p, h0, h4, _, h5⟩
    · rw [hat] at h4; cases h4
    · have h6 := h4 rfl
      rw [hat] at h6; cases h6
      exact ⟨k', h0, h5⟩⟩)
  have HND := Lib.hid (show ∀ wx rb q c k, Rr wx rb s q c ts k n0 p0 → n0 ≠ 0 → _ from fun wx rb q c k h hn => rneed_stuck wx rb s q c ts k n0 p0 ⟨#[46]⟩ h hn)
  have HEN := Lib.hid (show ∀ wx rb q c k, n0 ≠ 0 → Rr wx rb s q c ts k n0 p0 → Calls Tryz.prog 64 #[.pointer (some ⟨rb, 0, none⟩)] wx fun e w' => e = .returned (.tuple #[]) ∧ Only rb wx w' ∧ Rr w' rb s q c ts k n0 p0 from fun wx rb q c k h0 h => (rended_any wx rb s q c ts k n0 p0 h).mono fun e w' ⟨h1, h2, h3⟩ => ⟨h1, h2, by rwa [if_neg h0] at h3⟩)
  clear hx hat
  go_enter Tryz.func24, Tryz.ntmps24
  go_wp2_with (first
    | (go_at_call 64; refine (HEN.out _ _ _ _ _ HN0.out HR3.out).mono ?_; rintro e w4 ⟨rfl, ho4, hr4⟩; have hlt4 := hr4.lt; obtain ⟨c0, c1, c2, c3, c4⟩ := hr4.five; have HZ4 := Lib.hid (HZ3.out.only ho4 (Nat.ne_of_lt hgw)); obtain ⟨z0, z1, z2, z3, z4, z5, z6⟩ := HZ4.out.seven; obtain ⟨t0, t1, t2, t3, t4, t5, t6⟩ := HZ4.out.softs; have HW4 := Lib.hid (HW3.out.trans ((ho4.below (Nat.le_of_lt HR3.out.lt)).mono (Nat.le_of_lt hgw))); clear ho4 hr4)
    | (go_at_call 63; refine (HND.out _ _ _ _ _ HR3.out HN0.out).mono ?_; rintro e w3 ⟨rfl, rfl⟩)
    | (go_at_call 59; go_loud (refine (HAT.out _ _ _ _ (HR1.out.on (below1 w1 _))).mono ?_; rintro e w2 ⟨nm, q', l, c', rfl, ho2, k2, hn0, hr2⟩; have HN0 := Lib.hid hn0; have g0 : (n0 == 0) = false := (by simpa using hn0); have g1 : (n0 != 0) = true := (by simpa using hn0); have HX2 := Lib.hid ((Bk.new w1 31 #[.int .u8 1, .string ⟨#[]⟩, .string ⟨#[]⟩, .int .i64 0, .string ⟨#[]⟩, .slice none 0 0, .slice none 0 0]).only ho2 (Nat.ne_of_gt hlt)); have HZ2 := Lib.hid ((HZ1.out.on (below1 w1 _)).only ho2 (Nat.ne_of_lt hgw)); have HW2 := Lib.hid ((HB1.out.trans ((below1 w1 (.cells #[.int .u8 1, .string ⟨#[]⟩, .string ⟨#[]⟩, .int .i64 0, .string ⟨#[]⟩, .slice none 0 0, .slice none 0 0] 31)).mono HB1.out.size)).trans ((ho2.below (Nat.le_trans (Nat.le_of_lt hlt) (below1 w1 _).size)).mono (Nat.le_of_lt hgw))); obtain ⟨x0, x1, x2, x3, x4, x5, x6⟩ := HX2.out.seven; obtain ⟨f0, f1, f2, f3, f4, f5, f6⟩ := HX2.out.softs; have HR3 := Lib.hid ((hr2.on' (setB (B := rb + 1) (b := w1.heap.size) (by omega) 4 (.string nm))).on' (setB (B := rb + 1) (b := w1.heap.size) (by omega) 5 (.slice q' l.length c'))); have HZ3 := Lib.hid ((HZ2.out.other (b' := w1.heap.size) (by omega) 4 (.string nm)).other (b' := w1.heap.size) (by omega) 5 (.slice q' l.length c')); have HW3 := Lib.hid ((HW2.out.trans (setB (B := w.heap.size) (b := w1.heap.size) (by omega) 4 (.string nm))).trans (setB (B := w.heap.size) (b := w1.heap.size) (by omega) 5 (.slice q' l.length c'))); have d3 := HR3.out.box.cell 3 _ rfl; have d3' := hr2.box.cell 3 _ rfl; have hne : rb ≠ w1.heap.size := Nat.ne_of_lt hlt; clear hn0 ho2 hr2))
    | (go_at_call 58; refine (HO.out _).mono ?_; rintro e w1 ⟨rb, q, c, rfl, hge, hlt, hr1, hb1⟩; have HR1 := Lib.hid (hr1 trivial); have HZ1 := Lib.hid ((Bk.new w _ _).on hb1); have HB1 := Lib.hid ((HB.out _).trans (hb1.mono (HB.out _).size)); have hgw : w.heap.size < rb := Nat.lt_of_succ_le (by simpa using hge); clear hb1 hr1 hge))
  have hne4 : w.heap.size ≠ rb := Nat.ne_of_lt hgw
  clear HR1 HX2 HZ1 HZ2 HZ3 HR3 HAT HND HEN HO x0 x1 x2 x3 x4 x5 x6 f0 f1 f2 f3 f4 f5 f6 d3 d3' HB1 HW2 HW3 c0 c1 c2
  go_region_held3 (fun X => X.cell? ⟨rb, 3, none⟩ = some (.int .i64 n0) ∧ X.cell? ⟨rb, 4, none⟩ = some (.int .i64 p0)) (go_keep) (fail)
  go_wp2_with fail
  have HQ := load7 HZ4.out (.int .u8 0) (.string ⟨#[]⟩) (.string ⟨#[]⟩) (.int .i64 0) (.string ⟨#[]⟩) (.slice none 0 0) (.slice none 0 0)
  have HC := set7 (w := w4) (Nat.le_refl w.heap.size) (.int .u8 0) (.string ⟨#[]⟩) (.string ⟨#[]⟩) (.int .i64 0) (.string ⟨#[]⟩) (.slice none 0 0) (.slice none 0 0)
  generalize ((((((w4.setCell ⟨w.heap.size, 0, none⟩ (.int .u8 0)).setCell ⟨w.heap.size, 1, none⟩ (.string ⟨#[]⟩)).setCell ⟨w.heap.size, 2, none⟩ (.string ⟨#[]⟩)).setCell ⟨w.heap.size, 3, none⟩ (.int .i64 0)).setCell ⟨w.heap.size, 4, none⟩ (.string ⟨#[]⟩)).setCell ⟨w.heap.size, 5, none⟩ (.slice none 0 0)).setCell ⟨w.heap.size, 6, none⟩ (.slice none 0 0) = W6 at *
  obtain ⟨q0, q1, q2', q3, q4, q5, q6⟩ := (show Bk W6.drew w.heap.size _ _ from HQ).seven
  refine bodyPost_ret (v := .tuple #[kpZ.agg, .int .i64 p0, .int .i64 n0]) ?_ rfl ?_
  · simp [results, Tryz.results24, go_sem, q0, q1, q2', q3, q4, q5, q6, kpZ, lpZ, Kp.agg, tmZ]
  · rw [HP.out]
    exact ⟨rfl, (HW4.out.trans HC).trans (below_drewN' (Below.refl w.heap.size W6) 1)⟩
end Go.Proofs.YtfmkfabbiifolaaGreatDoor

/-
  Contract: the reference's Parse of a clause without a body.
-/
namespace Go.Proofs.YtfmkfabbiifolaaGreatDoor
open Go.RowKit

theorem Only.belowAt {pb B : Nat} {w w' : World} (h : Only pb w w') (hp : pb ≤ w.heap.size) (hB : B ≤ pb) : Below B w w' := (h.below hp).mono hB

set_option maxHeartbeats 8000000 in
set_option maxRecDepth 100000 in
theorem refParse_fact (s : ByteArray) (w : World) (hm : s.size ≤ 140737488351232) (hx : (allL s.data.toList).err = 0) (nm : ByteArray) (l : List Tm) (k1 : Nat) (hat : atomR s (allL s.data.toList).toks 0 = .ok ((nm, l), k1)) (hif : textAt s (allL s.data.toList).toks k1 ≠ wdIf) :
    Calls Tryz.prog 24 #[.string s] w (ParsePost w (parseR s)) := by
  have HB := Lib.hid (below1 w)
  have HO := Lib.hid (show ∀ o, _ from fun o => ropen_any s (w.alloc o) hm)
  have HP := Lib.hid (show parseR s = wholeR s (allL s.data.toList).toks (clauseR s (allL s.data.toList).toks 0) by unfold parseR; rw [if_pos hx])
  generalize parseR s = R at *
  rw [hx] at HO
  generalize (allL s.data.toList).toks = ts at *
  generalize (allL s.data.toList).pl = pl at *
  have HSR := Lib.hid (show ∀ k2 e2 f2, ((textAt s ts k1 = wdDot ∧ e2 = 0 ∧ f2 = (0 : Int) ∧ k2 = k1 + 1) ∨ (textAt s ts k1 ≠ wdDot ∧ e2 = 6 ∧ f2 = placeAt s ts k1)) → ((e2 = 0 ∧ clauseR s ts 0 = .ok (⟨⟨1, tmZ, nm, l⟩, []⟩, k2)) ∨ (e2 ≠ 0 ∧ clauseR s ts 0 = .error (e2, f2))) from fun k2 e2 f2 h => by
    rcases h with ⟨h1, rfl, rfl, rfl⟩ | ⟨h1, rfl, rfl⟩
    · exact .inl ⟨rfl, by simp [clauseR, hat, h1, show ¬ wdDot = wdIf by decide]⟩
    · exact .inr ⟨by decide, by simp [clauseR, hat, hif, h1]⟩)
  generalize clauseR s ts 0 = SR at *
  have HAT := Lib.hid (show ∀ wx rb q c, Rr wx rb s q c ts 0 0 0 → Calls Tryz.prog 59 #[.pointer (some ⟨rb, 0, none⟩)] wx fun e w' => ∃ q' c', e = .returned (.tuple #[.string nm, .slice q' l.length c']) ∧ Hid (Tms w' w'.heap.size q' l) ∧ Hid (∀ b, q' = some b → wx.heap.size ≤ b.block) ∧ Only rb wx w' ∧ Rr w' rb s q c ts k1 0 0 from fun wx rb q c h => (ratom_any wx rb s q c ts 0 0 0 h).mono fun e w' ⟨nm', q', l', c', h1, ht, hf, h2, h3⟩ => by
    rcases h3 with ⟨k', _, h4, h5⟩ | ⟨k', n, p, h0, h4, _, h5⟩
    · rw [hat] at h4; cases h4
      exact ⟨q', c', h1, Lib.hid ht, Lib.hid hf, h2, h5⟩
    · have h6 := h4 rfl
      rw [hat] at h6; cases h6)
  have HTX := Lib.hid (show ∀ wx rb q c, Rr wx rb s q c ts k1 0 0 → Calls Tryz.prog 60 #[.pointer (some ⟨rb, 0, none⟩), .int .i64 0] wx fun e w' => e = .returned (.string (textAt s ts k1)) ∧ Below wx.heap.size wx w' from fun wx rb q c hx => rtext_any wx rb s q c ts k1 0 0 0 hx (by omega))
  have HND := Lib.hid (show ∀ wx rb q c, Rr wx rb s q c ts k1 0 0 → Calls Tryz.prog 63 #[.pointer (some ⟨rb, 0, none⟩), .string ⟨#[46]⟩] wx fun e w' => e = .returned (.tuple #[]) ∧ Only rb wx w' ∧ ∃ k2 e2 f2, Rr w' rb s q c ts k2 e2 f2 ∧ ((textAt s ts k1 = wdDot ∧ e2 = 0 ∧ f2 = (0 : Int) ∧ k2 = k1 + 1) ∨ (textAt s ts k1 ≠ wdDot ∧ e2 = 6 ∧ f2 = placeAt s ts k1)) from fun wx rb q c h => rneed_sum wx rb s q c ts k1 0 ⟨#[46]⟩ h (by decide))
  have HEN := Lib.hid (show ∀ wx rb q c k er fr, Rr wx rb s q c ts k er fr → _ from fun wx rb q c k er fr hx' => rended_any wx rb s q c ts k er fr hx')
  have g5 := toList_beq (l := [58, 45]) hif
  generalize textAt s ts k1 = x at *
  clear hx hat hif
  go_enter Tryz.func24, Tryz.ntmps24
  go_wp2_with (first
    | (go_at_call 64; refine (HEN.out _ _ _ _ _ _ _ HR5.out).mono ?_; rintro e w4 ⟨rfl, ho4, hs4⟩; obtain ⟨k4, n0, p0, hr4, hd4⟩ := ended_sum HP.out HD5.out (fun k e f => Rr w4 rb s q c ts k e f) hs4; have HD4 := Lib.hid hd4; have hlt4 := hr4.lt; obtain ⟨c0, c1, c2, c3, c4⟩ := hr4.five; have HZ4 := Lib.hid (HZ5.out.only ho4 (Nat.ne_of_lt hgw)); have HX4 := Lib.hid (HX5.out.only ho4 (Nat.ne_of_gt hlt)); have HTM4 := Lib.hid (rd_only HT5.out ho4 (HTN.out)); obtain ⟨z0, z1, z2, z3, z4, z5, z6⟩ := HZ4.out.seven; obtain ⟨t0, t1, t2, t3, t4, t5, t6⟩ := HZ4.out.softs; obtain ⟨y0, y1, y2, y3, y4, y5, y6⟩ := HX4.out.seven; have HW4 := Lib.hid (HW5.out.trans (ho4.belowAt (Nat.le_of_lt HR5.out.lt) (Nat.le_of_lt hgw))); clear ho4 hs4 hr4 hd4)
    | (go_at_call 63; refine (HND.out _ _ _ _ HR4.out).mono ?_; rintro e w5 ⟨rfl, ho5, k5, e5, f5, hr5, hd5⟩; have HR5 := Lib.hid hr5; have HD5 := Lib.hid (HSR.out _ _ _ hd5); have HZ5 := Lib.hid (HZ4'.out.only ho5 (Nat.ne_of_lt hgw)); have HX5 := Lib.hid (HX4'.out.only ho5 (Nat.ne_of_gt hlt)); have HT5 := Lib.hid (rd_only HT4.out ho5 (HTN.out)); have HW5 := Lib.hid (HW4'.out.trans (ho5.belowAt (Nat.le_of_lt HR4.out.lt) (Nat.le_of_lt hgw))); clear ho5 hr5 hd5)
    | (go_at_call 60; refine (HTX.out _ _ _ _ HR3.out).mono ?_; rintro e w3 ⟨rfl, hb3⟩; have HR4 := Lib.hid (HR3.out.on hb3); have HZ4' := Lib.hid (HZ3.out.on hb3); have HX4' := Lib.hid (HX3.out.on hb3); have HT4 := Lib.hid (HT3.out.grow hb3); have HW4' := Lib.hid (HW3.out.trans (hb3.mono HW3.out.size)); clear hb3)
    | (go_at_call 59; refine (HAT.out _ _ _ _ (HR1.out.on (below1 w1 _))).mono ?_; rintro e w2 ⟨q', c', rfl, ht2, hf2, ho2, hr2⟩; go_loud (have hszq : w1.heap.size + 1 ≤ (w1.alloc (.cells #[.int .u8 1, .string ⟨#[]⟩, .string ⟨#[]⟩, .int .i64 0, .string ⟨#[]⟩, .slice none 0 0, .slice none 0 0] 31)).heap.size := (by simp); have HF2 := Lib.hid (show ∀ b, q' = some b → w1.heap.size + 1 ≤ b.block from fun b hb => Nat.le_trans hszq (hf2.out b hb)); have HX2 := Lib.hid ((Bk.new w1 31 #[.int .u8 1, .string ⟨#[]⟩, .string ⟨#[]⟩, .int .i64 0, .string ⟨#[]⟩, .slice none 0 0, .slice none 0 0]).only ho2 (Nat.ne_of_gt hlt)); have HZ2 := Lib.hid ((HZ1.out.on (below1 w1 _)).only ho2 (Nat.ne_of_lt hgw)); have HW2 := Lib.hid ((HB1.out.trans ((below1 w1 (.cells #[.int .u8 1, .string ⟨#[]⟩, .string ⟨#[]⟩, .int .i64 0, .string ⟨#[]⟩, .slice none 0 0, .slice none 0 0] 31)).mono HB1.out.size)).trans ((ho2.below (Nat.le_trans (Nat.le_of_lt hlt) (below1 w1 _).size)).mono (Nat.le_of_lt hgw))); obtain ⟨x0, x1, x2, x3, x4, x5, x6⟩ := HX2.out.seven; obtain ⟨f0, f1, f2, f3, f4, f5, f6⟩ := HX2.out.softs; have HR3 := Lib.hid ((hr2.on' (setB (B := rb + 1) (b := w1.heap.size) (by omega) 4 (.string nm))).on' (setB (B := rb + 1) (b := w1.heap.size) (by omega) 5 (.slice q' l.length c'))); have HX3 := Lib.hid ((HX2.out.set 4 (.string nm)).set 5 (.slice q' l.length c')); have HZ3 := Lib.hid ((HZ2.out.other (b' := w1.heap.size) (by omega) 4 (.string nm)).other (b' := w1.heap.size) (by omega) 5 (.slice q' l.length c')); have HW3 := Lib.hid ((HW2.out.trans (setB (B := w.heap.size) (b := w1.heap.size) (by omega) 4 (.string nm))).trans (setB (B := w.heap.size) (b := w1.heap.size) (by omega) 5 (.slice q' l.length c'))); have HT3 := Lib.hid ((((Above.refl (w1.heap.size + 1) w2).set (b := w1.heap.size) (by omega) 4 (.string nm)).set (b := w1.heap.size) (by omega) 5 (.slice q' l.length c')).rd ht2.out HF2.out (((setB (w := w2) (B := 0) (b := w1.heap.size) (Nat.zero_le _) 4 (.string nm)).trans (setB (w := w2.setCell ⟨w1.heap.size, 4, none⟩ (.string nm)) (B := 0) (b := w1.heap.size) (Nat.zero_le _) 5 (.slice q' l.length c'))).size)); have HTN := Lib.hid (show ∀ b, q' = some b → b.block ≠ rb from fun b hb => Nat.ne_of_gt (Nat.lt_of_lt_of_le hlt (Nat.le_trans (Nat.le_succ _) (HF2.out b hb)))); have d3 := HR3.out.box.cell 3 _ rfl; have d3' := hr2.box.cell 3 _ rfl; have hne : rb ≠ w1.heap.size := Nat.ne_of_lt hlt; clear ho2 hr2 ht2 hf2))
    | (go_at_call 58; refine (HO.out _).mono ?_; rintro e w1 ⟨rb, q, c, rfl, hge, hlt, hr1, hb1⟩; have HR1 := Lib.hid (hr1 trivial); have HZ1 := Lib.hid ((Bk.new w _ _).on hb1); have HB1 := Lib.hid ((HB.out _).trans (hb1.mono (HB.out _).size)); have hgw : w.heap.size < rb := Nat.lt_of_succ_le (by simpa using hge); clear hb1 hr1 hge))
  · have he0 : n0 ≠ 0 := by simpa using (by assumption : (n0 != 0) = true)
    have HRE := Lib.hid ((HD4.out.resolve_left (fun h => he0 h.1)).2)
    clear HD4 HD5 HX4 HX5 HT5 HTM4 HT4 HT3 y0 y1 y2 y3 y4 y5 y6 HF2 HTN HR4 HR5 HZ5 HX4' HZ4' HW4' HX3 HTX HSR
    clear HR1 HX2 HZ1 HZ2 HZ3 HR3 HAT HND HEN HO x0 x1 x2 x3 x4 x5 x6 f0 f1 f2 f3 f4 f5 f6 d3 d3' HB1 HW2 HW3 HW5 c0 c1 c2
    have hne4 : w.heap.size ≠ rb := Nat.ne_of_lt hgw
    go_region_held3 (fun X => X.cell? ⟨rb, 3, none⟩ = some (.int .i64 n0) ∧ X.cell? ⟨rb, 4, none⟩ = some (.int .i64 p0)) (go_keep) (fail)
    go_wp2_with fail
    have HQ := load7 HZ4.out (.int .u8 0) (.string ⟨#[]⟩) (.string ⟨#[]⟩) (.int .i64 0) (.string ⟨#[]⟩) (.slice none 0 0) (.slice none 0 0)
    have HC := set7 (w := w4) (Nat.le_refl w.heap.size) (.int .u8 0) (.string ⟨#[]⟩) (.string ⟨#[]⟩) (.int .i64 0) (.string ⟨#[]⟩) (.slice none 0 0) (.slice none 0 0)
    generalize ((((((w4.setCell ⟨w.heap.size, 0, none⟩ (.int .u8 0)).setCell ⟨w.heap.size, 1, none⟩ (.string ⟨#[]⟩)).setCell ⟨w.heap.size, 2, none⟩ (.string ⟨#[]⟩)).setCell ⟨w.heap.size, 3, none⟩ (.int .i64 0)).setCell ⟨w.heap.size, 4, none⟩ (.string ⟨#[]⟩)).setCell ⟨w.heap.size, 5, none⟩ (.slice none 0 0)).setCell ⟨w.heap.size, 6, none⟩ (.slice none 0 0) = W6 at *
    obtain ⟨q0, q1, q2', q3, q4, q5, q6⟩ := (show Bk W6.drew w.heap.size _ _ from HQ).seven
    refine bodyPost_ret (v := .tuple #[kpZ.agg, .int .i64 p0, .int .i64 n0]) ?_ rfl ?_
    · simp [results, Tryz.results24, go_sem, q0, q1, q2', q3, q4, q5, q6, kpZ, lpZ, Kp.agg, tmZ]
    · rw [HRE.out]
      exact ⟨rfl, (HW4.out.trans HC).trans (below_drewN' (Below.refl w.heap.size W6) 1)⟩
  · have he0 : n0 = 0 := by simpa using (by assumption : (n0 != 0) = false)
    have HRE := Lib.hid ((HD4.out.resolve_right (fun h => h.1 he0)).2)
    obtain ⟨q0, q1, q2', q3, q4, q5, q6⟩ := (load7 HZ4.out (.int .u8 1) (.string ⟨#[]⟩) (.string ⟨#[]⟩) (.int .i64 0) (.string nm) (.slice q' l.length c') (.slice none 0 0)).seven
    refine bodyPost_ret (v := .tuple #[(⟨⟨1, tmZ, nm, q', c', l⟩, none, 0, []⟩ : Kp).agg, .int .i64 0, .int .i64 0]) ?_ rfl ?_
    · simp [results, Tryz.results24, go_sem, q0, q1, q2', q3, q4, q5, q6, Kp.agg, tmZ]
    · rw [HRE.out]
      have hf : ∀ b, q' = some b → w.heap.size + 1 ≤ b.block := fun b hb => Nat.le_trans (by omega) (HF2.out b hb)
      have hfar : ClFar w.heap.size (⟨⟨1, tmZ, nm, q', c', l⟩, none, 0, []⟩ : Kp) := by
        refine ⟨fun b hb => Nat.le_trans (Nat.le_succ _) (hf b hb), fun b hb => ?_, fun x hx => ?_⟩
        · exact absurd hb (by simp)
        · exact absurd hx (by simp)
      refine ⟨⟨⟨1, tmZ, nm, q', c', l⟩, none, 0, []⟩, rfl, rfl, ⟨?_, .inl rfl, fun x hx => absurd hx (by simp)⟩, hfar, HW4.out.trans (set7 (Nat.le_refl _) _ _ _ _ _ _ _)⟩
      exact ((Above.refl (w.heap.size + 1) w4).set7 (b := w.heap.size) (by omega) _ _ _ _ _ _ _).rd HTM4.out hf (set7 (Nat.le_refl w.heap.size) _ _ _ _ _ _ _).size
end Go.Proofs.YtfmkfabbiifolaaGreatDoor
