/-
  Joined of: Rqo, Rqq, Rqr, Rqf.
-/
import Derived.Test.YtfmkfabbiifolaaGreatDoorJa30
import Derived.Test.YtfmkfabbiifolaaGreatDoorJa28
import Derived.Test.YtfmkfabbiifolaaGreatDoorJa24
import Derived.Test.YtfmkfabbiifolaaGreatDoorJa29
set_option linter.unusedVariables false
set_option linter.unusedSimpArgs false
/-
  Contract: request.words of all but an assert.
-/
set_option linter.unusedVariables false
set_option linter.unusedSimpArgs false
namespace Go.Proofs.YtfmkfabbiifolaaGreatDoor
open Go.RowKit

theorem rd_ws (w : World) (T : TypeId) (l : List ByteArray) : Rd encS 1 (w.alloc (.cells (l.map Value.string).toArray T)) (w.alloc (.cells (l.map Value.string).toArray T)).heap.size (some ⟨w.heap.size, 0, none⟩) l := by
  refine .inr ⟨w.heap.size, 0, rfl, by simp, fun i hi r u hu => ?_⟩
  have hr : r = 0 := by
    have := (List.getElem?_eq_some_iff.1 hu).1
    simp [encS] at this
    exact this
  subst hr
  have hb := Bk.new w T (l.map Value.string).toArray
  have h2 := hb.cell i (.string l[i]) (by simp [hi])
  have h3 : u = .string l[i] := by simpa [encS] using hu.symm
  rw [h3]
  simp
/-- a request's words, its clause or literal as one -/
def wordsP (w : World) (ws : List ByteArray) (e : Ending) (w' : World) : Prop := ∃ q c, e = .returned (.slice q ws.length c) ∧ (ws.length ≤ c ∧ Rd encS 1 w' w'.heap.size q ws) ∧ Below w.heap.size w w'
set_option maxHeartbeats 8000000 in
set_option maxRecDepth 100000 in
theorem words_rev (lb : ByteArray) (lf : Int) (cl : Kp) (no : Int) (lp : Lp) (w : World) (h0 : -9223372036854775808 ≤ no) (h1 : no ≤ 9223372036854775807) (he : Env w) :
    Calls Tryz.prog 29 #[.agg (rqC 2 lb lf cl no lp)] w (wordsP w [wdRevoke, itoaS no]) := by
  have HB := Lib.hid (below1 w)
  have HDG := Lib.hid (fun X (hX : Below w.heap.size w X) => digits_any no X h0 h1 (he.on hX))
  generalize itoaS no = S at *
  clear he h0 h1
  unfold rqC wdRevoke
  go_enter Tryz.func29, Tryz.ntmps29
  go_wp2_with (go_at_call 69; refine (HDG.out _ (HB.out _)).mono ?_; rintro e w1 ⟨rfl, hb1⟩; have HB1 := Lib.hid ((HB.out _).trans (hb1.mono (HB.out _).size)); clear hb1)
  go_ret
  exact ⟨_, _, rfl, ⟨Nat.le_refl _, rd_ws w1 _ [⟨#[114, 101, 118, 111, 107, 101]⟩, S]⟩, HB1.out.trans ((below1 w1 _).mono HB1.out.size)⟩
set_option maxHeartbeats 8000000 in
set_option maxRecDepth 100000 in
theorem words_aud (lb : ByteArray) (lf : Int) (cl : Kp) (no : Int) (lp : Lp) (w : World) :
    Calls Tryz.prog 29 #[.agg (rqC 5 lb lf cl no lp)] w (wordsP w [wdAudit]) := by
  have HB := Lib.hid (below1 w)
  have HB2 := Lib.hid (below2 w)
  unfold rqC wdAudit
  go_enter Tryz.func29, Tryz.ntmps29
  go_wp2_with fail
  go_ret
  refine ⟨some ⟨w.heap.size + 1, 0, none⟩, 1, rfl, ⟨Nat.le_refl _, ?_⟩, HB2.out _ _⟩
  have := rd_ws (w.alloc (.cells #[.int .u8 5, .string lb, .int .i64 lf, .int .u8 cl.head.kind, .string cl.head.who.v, .string cl.head.who.s, .int .i64 cl.head.who.n, .string cl.head.pred, .slice cl.head.ptr cl.head.args.length cl.head.cap, .slice cl.ptr cl.body.length cl.cap, .int .i64 no, .int .u8 lp.kind, .string lp.who.v, .string lp.who.s, .int .i64 lp.who.n, .string lp.pred, .slice lp.ptr lp.args.length lp.cap] 33)) 9 [⟨#[97, 117, 100, 105, 116]⟩]
  simpa using this
/-- what an asked literal is written as, if it may be -/
def askT (lp : Lp) : ByteArray := if lp.ask then lp.saidT else ⟨#[]⟩
def claT (cl : Kp) : ByteArray := if cl.check then cl.txt else ⟨#[]⟩
theorem printLit_two (l : Lp) (w : World) (hi : l.In w w.heap.size) (hn : l.Nb) (he : Env w) : Calls Tryz.prog 71 #[l.agg] w fun e w' => ∃ n : Int, e = .returned (.tuple #[.string (askT l), .int .i64 n]) ∧ Below w.heap.size w w' := by
  refine (printLit_any l w hi hn he).mono fun e w' ⟨h1, h2⟩ => ?_
  unfold askT
  cases hk : l.ask with
  | true => rw [hk, if_pos rfl] at h1; exact ⟨0, by rw [if_pos rfl]; exact h1, h2⟩
  | false => rw [hk, if_neg (by decide)] at h1; exact ⟨1, by rw [if_neg (by decide)]; exact h1, h2⟩
theorem print_two (l : Kp) (w : World) (hi : l.In w w.heap.size) (hn : l.Nb) (he : Env w) : Calls Tryz.prog 70 #[l.agg] w fun e w' => ∃ n : Int, e = .returned (.tuple #[.string (claT l), .int .i64 n]) ∧ Below w.heap.size w w' := by
  refine (print_any l w hi hn he).mono fun e w' ⟨h1, h2⟩ => ?_
  unfold claT
  cases hk : l.check with
  | true => rw [hk, if_pos rfl] at h1; exact ⟨0, by rw [if_pos rfl]; exact h1, h2⟩
  | false => rw [hk, if_neg (by decide)] at h1; exact ⟨1, by rw [if_neg (by decide)]; exact h1, h2⟩
set_option maxHeartbeats 8000000 in
set_option maxRecDepth 100000 in
theorem words_query (lb : ByteArray) (lf : Int) (cl : Kp) (no : Int) (lp : Lp) (w : World) (hl : lp.In w w.heap.size) (hn : lp.Nb) (he : Env w) :
    Calls Tryz.prog 29 #[.agg (rqC 3 lb lf cl no lp)] w (wordsP w [wdQuery, askT lp]) := by
  have HB := Lib.hid (below1 w)
  have HPL := Lib.hid (fun X (hX : Below w.heap.size w X) => printLit_two lp X (hl.grow hX) hn (he.on hX))
  generalize askT lp = S at *
  unfold Lp.agg at HPL
  clear hl hn he
  unfold rqC wdQuery
  have HX := Lib.hid (Bk.new w 33 #[.int .u8 3, .string lb, .int .i64 lf, .int .u8 cl.head.kind, .string cl.head.who.v, .string cl.head.who.s, .int .i64 cl.head.who.n, .string cl.head.pred, .slice cl.head.ptr cl.head.args.length cl.head.cap, .slice cl.ptr cl.body.length cl.cap, .int .i64 no, .int .u8 lp.kind, .string lp.who.v, .string lp.who.s, .int .i64 lp.who.n, .string lp.pred, .slice lp.ptr lp.args.length lp.cap])
  go_enter Tryz.func29, Tryz.ntmps29
  go_wp2_with (go_at_call 71; refine (HPL.out _ (HB.out _)).mono ?_; rintro e w1 ⟨n1, rfl, hb1⟩; have HB1 := Lib.hid ((HB.out _).trans (hb1.mono (HB.out _).size)); have m0 := (HX.out.on hb1).cell 0 _ rfl; clear hb1)
  go_ret
  exact ⟨_, _, rfl, ⟨Nat.le_refl _, rd_ws w1 _ [⟨#[113, 117, 101, 114, 121]⟩, S]⟩, HB1.out.trans ((below1 w1 _).mono HB1.out.size)⟩
set_option maxHeartbeats 8000000 in
set_option maxRecDepth 100000 in
theorem words_prove (lb : ByteArray) (lf : Int) (cl : Kp) (no : Int) (lp : Lp) (w : World) (hl : lp.In w w.heap.size) (hn : lp.Nb) (he : Env w) :
    Calls Tryz.prog 29 #[.agg (rqC 4 lb lf cl no lp)] w (wordsP w [wdProve, askT lp]) := by
  have HB := Lib.hid (below1 w)
  have HPL := Lib.hid (fun X (hX : Below w.heap.size w X) => printLit_two lp X (hl.grow hX) hn (he.on hX))
  generalize askT lp = S at *
  unfold Lp.agg at HPL
  clear hl hn he
  unfold rqC wdProve
  have HX := Lib.hid (Bk.new w 33 #[.int .u8 4, .string lb, .int .i64 lf, .int .u8 cl.head.kind, .string cl.head.who.v, .string cl.head.who.s, .int .i64 cl.head.who.n, .string cl.head.pred, .slice cl.head.ptr cl.head.args.length cl.head.cap, .slice cl.ptr cl.body.length cl.cap, .int .i64 no, .int .u8 lp.kind, .string lp.who.v, .string lp.who.s, .int .i64 lp.who.n, .string lp.pred, .slice lp.ptr lp.args.length lp.cap])
  go_enter Tryz.func29, Tryz.ntmps29
  go_wp2_with (go_at_call 71; refine (HPL.out _ (HB.out _)).mono ?_; rintro e w1 ⟨n1, rfl, hb1⟩; have HB1 := Lib.hid ((HB.out _).trans (hb1.mono (HB.out _).size)); have m0 := (HX.out.on hb1).cell 0 _ rfl; clear hb1)
  go_ret
  exact ⟨_, _, rfl, ⟨Nat.le_refl _, rd_ws w1 _ [⟨#[112, 114, 111, 118, 101]⟩, S]⟩, HB1.out.trans ((below1 w1 _).mono HB1.out.size)⟩
end Go.Proofs.YtfmkfabbiifolaaGreatDoor

/-
  Contract: request.words of an assert.
-/
set_option linter.unusedVariables false
set_option linter.unusedSimpArgs false
namespace Go.Proofs.YtfmkfabbiifolaaGreatDoor
open Go.RowKit

theorem flat_ws (l : List ByteArray) : flatE encS l = l.map Value.string := by
  induction l with
  | nil => rfl
  | cons x r ih => unfold flatE at *; rw [List.flatMap_cons, ih]; rfl
theorem own_ws {base : Nat} (X : World) (T : TypeId) (l : List ByteArray) (hb : base ≤ X.heap.size) (hl : l.length ≤ maxLen) : (X.alloc (.cells (l.map Value.string).toArray T)).ownsRow base T 1 (.slice (some ⟨X.heap.size, 0, none⟩) l.length l.length) l.length (flatE encS l) := by
  rw [flat_ws]
  refine ⟨by simp, .inr ⟨X.heap.size, l.length, _, rfl, hb, heap_alloc_new X _, Nat.le_refl _, hl, by simp, ?_⟩⟩
  rw [Nat.mul_one]
  exact List.take_of_length_le (by simp)
theorem ws_of {w w' : World} {base n : Nat} {T : TypeId} {v : Value} {l : List ByteArray} (h : w'.ownsRow base T 1 v n (flatE encS l)) (hn : n = l.length) (hp : 0 < l.length) (hb : Below w.heap.size w w') : wordsP w l (.returned v) w' := by
  subst hn
  rcases h.2 with ⟨_, h0⟩ | ⟨g, cap, cur, rfl, _, hg, hc, _, _, _⟩
  · omega
  · exact ⟨_, cap, rfl, ⟨hc, rd_of_owns ES (Array.getElem?_eq_some_iff.1 hg).1 h⟩, hb⟩
set_option maxHeartbeats 8000000 in
set_option maxRecDepth 100000 in
theorem words_ass0 (lb : ByteArray) (lf : Int) (cl : Kp) (no : Int) (lp : Lp) (w : World) (h0 : lf ≤ 0) (hc : cl.In w w.heap.size) (hn : cl.Nb) (he : Env w) :
    Calls Tryz.prog 29 #[.agg (rqC 1 lb lf cl no lp)] w (wordsP w [wdAssert, lb, claT cl]) := by
  obtain ⟨i0, hii, hz0, hz1, hzb⟩ := info_parts infoStr
  have HB := Lib.hid (below1 w)
  have HPL := Lib.hid (fun X (hX : Below w.heap.size w X) => print_two cl X (hc.grow hX) hn (he.on hX))
  generalize claT cl = S at *
  unfold Kp.agg at HPL
  clear hc hn he
  unfold rqC wdAssert
  have HX := Lib.hid (Bk.new w 33 #[.int .u8 1, .string lb, .int .i64 lf, .int .u8 cl.head.kind, .string cl.head.who.v, .string cl.head.who.s, .int .i64 cl.head.who.n, .string cl.head.pred, .slice cl.head.ptr cl.head.args.length cl.head.cap, .slice cl.ptr cl.body.length cl.cap, .int .i64 no, .int .u8 lp.kind, .string lp.who.v, .string lp.who.s, .int .i64 lp.who.n, .string lp.pred, .slice lp.ptr lp.args.length lp.cap])
  have h0' : ¬ (0 : Int) < lf := by omega
  go_enter Tryz.func29, Tryz.ntmps29
  go_upto_region 3 with fail
  generalize hW1 : w.alloc (.cells #[.int .u8 1, .string lb, .int .i64 lf, .int .u8 cl.head.kind, .string cl.head.who.v, .string cl.head.who.s, .int .i64 cl.head.who.n, .string cl.head.pred, .slice cl.head.ptr cl.head.args.length cl.head.cap, .slice cl.ptr cl.body.length cl.cap, .int .i64 no, .int .u8 lp.kind, .string lp.who.v, .string lp.who.s, .int .i64 lp.who.n, .string lp.pred, .slice lp.ptr lp.args.length lp.cap] 33) = W1 at *
  have HBW := Lib.hid (show Below w.heap.size w W1 from hW1 ▸ HB.out _)
  have hs1 : W1.heap.size = w.heap.size + 1 := by rw [← hW1]; simp
  clear HB hW1
  obtain ⟨m0, m1, m2, m3, m4, m5, m6, m7, m8, m9, _⟩ := HX.out.cells17
  go_upto_region 4 with fail
  have HO := Lib.hid (own_ws (base := w.heap.size + 1) W1 9 [⟨#[97, 115, 115, 101, 114, 116]⟩, lb] (by omega) (by unfold maxLen; simp))
  have HX1 := Lib.hid (HX.out.on (below1 W1 (.cells #[.string ⟨#[97, 115, 115, 101, 114, 116]⟩, .string lb] 9)))
  have HB1 := Lib.hid (HBW.out.trans ((below1 W1 (.cells #[.string ⟨#[97, 115, 115, 101, 114, 116]⟩, .string lb] 9)).mono HBW.out.size))
  have HO := Lib.hid (show (W1.alloc (.cells #[.string ⟨#[97, 115, 115, 101, 114, 116]⟩, .string lb] 9)).ownsRow (w.heap.size + 1) 9 1 (.slice (some ⟨W1.heap.size, 0, none⟩) 2 2) 2 (flatE encS [⟨#[97, 115, 115, 101, 114, 116]⟩, lb]) from (by simpa using HO.out))
  have hs2 : (W1.alloc (.cells #[.string ⟨#[97, 115, 115, 101, 114, 116]⟩, .string lb] 9)).heap.size = w.heap.size + 2 := by simp [hs1]
  generalize W1.alloc (.cells #[.string ⟨#[97, 115, 115, 101, 114, 116]⟩, .string lb] 9) = W2 at *
  rw [hs1] at HO
  clear HX HBW m0 m1 m2 m3 m4 m5 m6 m7 m8 m9
  obtain ⟨m0, m1, m2, m3, m4, m5, m6, m7, m8, m9, _⟩ := HX1.out.cells17
  go_wp2_with (first
    | (go_at_call 70; refine (HPL.out _ HB1.out).mono ?_; rintro e w3 ⟨n1, rfl, hb3⟩; have HB3 := Lib.hid (HB1.out.trans (hb3.mono HB1.out.size)); have HO3 := Lib.hid (own_below HO.out hb3); have hs3 : w.heap.size + 2 ≤ w3.heap.size := hs2 ▸ hb3.size; clear hb3)
    | (at_builtin; refine wpList_appendE ES rfl _ _ 75 rfl (w.heap.size + 1) 9 i0 (.string ⟨#[]⟩) 16 underSs hii hz0 hz1 hzb rfl _ [⟨#[97, 115, 115, 101, 114, 116]⟩, lb] rfl (own_below HO3.out (below1 w3 _)) (some ⟨w3.heap.size, 0, none⟩) [S] 1 rfl (rd_fresh ES w3 9 #[.string S] S rfl) (by unfold maxLen; simp) (by simp) (Nat.le_trans (by omega) (below1 w3 _).size) ?_; intro v7 w7 ho7 hb7 _ _; have HO7 := Lib.hid ho7; have HB7 := Lib.hid ((HB3.out.trans ((below1 w3 _).mono HB3.out.size)).trans (hb7.mono (Nat.le_succ _))); clear ho7 hb7))
  go_ret
  exact ws_of HO7.out rfl (by simp) HB7.out
set_option maxHeartbeats 8000000 in
set_option maxRecDepth 100000 in
theorem words_assf (lb : ByteArray) (lf : Int) (cl : Kp) (no : Int) (lp : Lp) (w : World) (h0 : 0 < lf) (h1 : lf ≤ 9223372036854775807) (hc : cl.In w w.heap.size) (hn : cl.Nb) (he : Env w) :
    Calls Tryz.prog 29 #[.agg (rqC 1 lb lf cl no lp)] w (wordsP w [wdAssert, lb, wdFor, itoaS lf, claT cl]) := by
  obtain ⟨i0, hii, hz0, hz1, hzb⟩ := info_parts infoStr
  have HB := Lib.hid (below1 w)
  have HPL := Lib.hid (fun X (hX : Below w.heap.size w X) => print_two cl X (hc.grow hX) hn (he.on hX))
  have HDG := Lib.hid (fun X (hX : Below w.heap.size w X) => digits_any lf X (by omega) h1 (he.on hX))
  generalize itoaS lf = D at *
  generalize claT cl = S at *
  unfold Kp.agg at HPL
  clear hc hn he
  unfold rqC wdAssert wdFor
  have HX := Lib.hid (Bk.new w 33 #[.int .u8 1, .string lb, .int .i64 lf, .int .u8 cl.head.kind, .string cl.head.who.v, .string cl.head.who.s, .int .i64 cl.head.who.n, .string cl.head.pred, .slice cl.head.ptr cl.head.args.length cl.head.cap, .slice cl.ptr cl.body.length cl.cap, .int .i64 no, .int .u8 lp.kind, .string lp.who.v, .string lp.who.s, .int .i64 lp.who.n, .string lp.pred, .slice lp.ptr lp.args.length lp.cap])
  have h0' : (0 : Int) < lf := by omega
  go_enter Tryz.func29, Tryz.ntmps29
  go_upto_region 3 with fail
  generalize hW1 : w.alloc (.cells #[.int .u8 1, .string lb, .int .i64 lf, .int .u8 cl.head.kind, .string cl.head.who.v, .string cl.head.who.s, .int .i64 cl.head.who.n, .string cl.head.pred, .slice cl.head.ptr cl.head.args.length cl.head.cap, .slice cl.ptr cl.body.length cl.cap, .int .i64 no, .int .u8 lp.kind, .string lp.who.v, .string lp.who.s, .int .i64 lp.who.n, .string lp.pred, .slice lp.ptr lp.args.length lp.cap] 33) = W1 at *
  have HBW := Lib.hid (show Below w.heap.size w W1 from hW1 ▸ HB.out _)
  have hs1 : W1.heap.size = w.heap.size + 1 := by rw [← hW1]; simp
  clear HB hW1
  obtain ⟨m0, m1, m2, m3, m4, m5, m6, m7, m8, m9, _⟩ := HX.out.cells17
  go_upto_region 4 with fail
  have HO := Lib.hid (own_ws (base := w.heap.size + 1) W1 9 [⟨#[97, 115, 115, 101, 114, 116]⟩, lb] (by omega) (by unfold maxLen; simp))
  have HX1 := Lib.hid (HX.out.on (below1 W1 (.cells #[.string ⟨#[97, 115, 115, 101, 114, 116]⟩, .string lb] 9)))
  have HB1 := Lib.hid (HBW.out.trans ((below1 W1 (.cells #[.string ⟨#[97, 115, 115, 101, 114, 116]⟩, .string lb] 9)).mono HBW.out.size))
  have HO := Lib.hid (show (W1.alloc (.cells #[.string ⟨#[97, 115, 115, 101, 114, 116]⟩, .string lb] 9)).ownsRow (w.heap.size + 1) 9 1 (.slice (some ⟨W1.heap.size, 0, none⟩) 2 2) 2 (flatE encS [⟨#[97, 115, 115, 101, 114, 116]⟩, lb]) from (by simpa using HO.out))
  have hs2 : (W1.alloc (.cells #[.string ⟨#[97, 115, 115, 101, 114, 116]⟩, .string lb] 9)).heap.size = w.heap.size + 2 := by simp [hs1]
  generalize W1.alloc (.cells #[.string ⟨#[97, 115, 115, 101, 114, 116]⟩, .string lb] 9) = W2 at *
  rw [hs1] at HO
  clear HX HBW m0 m1 m2 m3 m4 m5 m6 m7 m8 m9
  obtain ⟨m0, m1, m2, m3, m4, m5, m6, m7, m8, m9, _⟩ := HX1.out.cells17
  go_upto_region 6 with (first
    | (go_at_call 69; refine (HDG.out _ HB1.out).mono ?_; rintro e w3 ⟨rfl, hb3⟩; have HB3 := Lib.hid (HB1.out.trans (hb3.mono HB1.out.size)); have HO3 := Lib.hid (own_below HO.out hb3); have HX3 := Lib.hid (HX1.out.on hb3); have hs3 : w.heap.size + 2 ≤ w3.heap.size := hs2 ▸ hb3.size; clear hb3)
    | (at_builtin; refine wpList_appendE ES rfl _ _ 75 rfl (w.heap.size + 1) 9 i0 (.string ⟨#[]⟩) 16 underSs hii hz0 hz1 hzb rfl _ [⟨#[97, 115, 115, 101, 114, 116]⟩, lb] rfl (own_below HO3.out (below1 w3 _)) (some ⟨w3.heap.size, 0, none⟩) [⟨#[102, 111, 114]⟩, D] 2 rfl (rd_ws w3 9 [⟨#[102, 111, 114]⟩, D]) (by unfold maxLen; simp) (by simp) (Nat.le_trans (by omega) (below1 w3 _).size) ?_; intro v5 w5 ho5 hb5 _ _; have HO5 := Lib.hid ho5; have HX5 := Lib.hid ((HX3.out.on (below1 w3 _)).below hb5 (by omega)); have HB5 := Lib.hid ((HB3.out.trans ((below1 w3 _).mono HB3.out.size)).trans (hb5.mono (Nat.le_succ _))); have hs5 : w.heap.size + 2 ≤ w5.heap.size := Nat.le_trans hs3 (Nat.le_trans (below1 w3 _).size hb5.size); clear ho5 hb5))
  obtain ⟨m0, m1, m2, m3, m4, m5, m6, m7, m8, m9, _⟩ := HX5.out.cells17
  go_wp2_with (first
    | (go_at_call 70; refine (HPL.out _ HB5.out).mono ?_; rintro e w6 ⟨n1, rfl, hb6⟩; have HB6 := Lib.hid (HB5.out.trans (hb6.mono HB5.out.size)); have HO6 := Lib.hid (own_below HO5.out hb6); have hs6 : w.heap.size + 2 ≤ w6.heap.size := Nat.le_trans hs5 hb6.size; clear hb6)
    | (at_builtin; refine wpList_appendE ES rfl _ _ 75 rfl (w.heap.size + 1) 9 i0 (.string ⟨#[]⟩) 16 underSs hii hz0 hz1 hzb rfl _ ([⟨#[97, 115, 115, 101, 114, 116]⟩, lb] ++ [⟨#[102, 111, 114]⟩, D]) rfl (own_below HO6.out (below1 w6 _)) (some ⟨w6.heap.size, 0, none⟩) [S] 1 rfl (rd_fresh ES w6 9 #[.string S] S rfl) (by unfold maxLen; simp) (by simp) (Nat.le_trans (by omega) (below1 w6 _).size) ?_; intro v7 w7 ho7 hb7 _ _; have HO7 := Lib.hid ho7; have HB7 := Lib.hid ((HB6.out.trans ((below1 w6 _).mono HB6.out.size)).trans (hb7.mono (Nat.le_succ _))); clear ho7 hb7))
  go_ret
  exact ws_of (l := [⟨#[97, 115, 115, 101, 114, 116]⟩, lb, ⟨#[102, 111, 114]⟩, D, S]) HO7.out rfl (by simp) HB7.out
end Go.Proofs.YtfmkfabbiifolaaGreatDoor

/-
  Contract: request.Print. (Made by tools/mk_rqr.py.)
-/
set_option linter.unusedVariables false
set_option linter.unusedSimpArgs false
namespace Go.Proofs.YtfmkfabbiifolaaGreatDoor
open Go.RowKit

/-- texts with a blank between -/
def joinW (ws : List ByteArray) : ByteArray := ⟨(Lib.join (ws.map (·.data.toList)) [32]).toArray⟩
theorem join_ws {w : World} {ws : List ByteArray} {q : Option Addr} {c : Nat} (hr : Rd encS 1 w w.heap.size q ws) (hp : 0 < ws.length) (hc : ws.length ≤ c) (h5 : ws.length ≤ 1000) (hj : (joinW ws).size ≤ 140737488355328) :
    Calls Tryz.prog 28 #[.slice q ws.length c, .string ⟨#[32]⟩] w fun e w' => e = .returned (.string (joinW ws)) ∧ Below w.heap.size w w' := by
  obtain ⟨b, o, rfl, hb, _⟩ := hr.at 0 hp
  refine Tryz.strings_Join b o c ws ⟨#[32]⟩ w (fun j x hx => ?_) hb (by omega) hc (by simpa [joinW, ByteArray.size] using hj)
  have hjl : j < ws.length := (List.getElem?_eq_some_iff.1 hx).1
  obtain ⟨b2, o2, e2, _, hc2⟩ := hr.at j hjl
  cases e2
  have := hc2 0 (.string ws[j]) rfl
  rw [List.getElem?_eq_getElem hjl] at hx
  rw [← Option.some.inj hx]
  simpa using this
set_option maxHeartbeats 8000000 in
set_option maxRecDepth 100000 in
theorem reqprint_no (kd : Int) (lb : ByteArray) (lf : Int) (cl : Kp) (no : Int) (lp : Lp) (w : World) (hlb : lb.size ≤ maxLen) (hc : cl.In w w.heap.size) (hl : lp.In w w.heap.size) (he : Env w) (hcb : checkB kd lb lf cl no lp = false) :
    Calls Tryz.prog 11 #[.agg (rqC kd lb lf cl no lp)] w fun e w' => e = .returned (.tuple #[.string ⟨#[]⟩, .int .i64 1]) ∧ Below w.heap.size w w' := by
  have HB := Lib.hid (below1 w)
  have HCK := Lib.hid (fun X (hX : Below w.heap.size w X) => reqcheck_any kd lb lf cl no lp X hlb (hc.grow hX) (hl.grow hX) (he.on hX))
  rw [hcb] at HCK
  clear hc hl he hlb hcb
  unfold rqC at HCK ⊢
  go_enter Tryz.func11, Tryz.ntmps11
  go_wp2_with (go_at_call 14; refine (HCK.out _ (HB.out _)).mono ?_; rintro e w2 ⟨rfl, hb2⟩; have HB2 := Lib.hid ((HB.out _).trans (hb2.mono (HB.out _).size)); clear hb2)
  refine bodyPost_ret (results_tmp2 rfl _ _ _) rfl ?_
  exact ⟨rfl, HB2.out⟩
set_option maxHeartbeats 8000000 in
set_option maxRecDepth 100000 in
theorem reqprint_long (kd : Int) (lb : ByteArray) (lf : Int) (cl : Kp) (no : Int) (lp : Lp) (w : World) (ws : List ByteArray) (hlb : lb.size ≤ maxLen) (hc : cl.In w w.heap.size) (hl : lp.In w w.heap.size) (he : Env w) (hcb : checkB kd lb lf cl no lp = true)
    (hw : ∀ X, Below w.heap.size w X → Calls Tryz.prog 29 #[.agg (rqC kd lb lf cl no lp)] X (wordsP X ws)) (hp : 0 < ws.length) (h5 : ws.length ≤ 1000) (hj : (joinW ws).size ≤ 140737488355328) (h4 : 4096 < (joinW ws).size) :
    Calls Tryz.prog 11 #[.agg (rqC kd lb lf cl no lp)] w fun e w' => e = .returned (.tuple #[.string ⟨#[]⟩, .int .i64 2]) ∧ Below w.heap.size w w' := by
  have HB := Lib.hid (below1 w)
  have HCK := Lib.hid (fun X (hX : Below w.heap.size w X) => reqcheck_any kd lb lf cl no lp X hlb (hc.grow hX) (hl.grow hX) (he.on hX))
  rw [hcb] at HCK
  have HWD := Lib.hid hw
  have HJN := Lib.hid (fun X q c (hr : Rd encS 1 X X.heap.size q ws) (hcc : ws.length ≤ c) => join_ws hr hp hcc h5 hj)
  generalize joinW ws = J at *
  have h4' : decide ((4096 : Int) < (J.size : Int)) = true := by simp only [decide_eq_true_eq]; omega
  clear hc hl he hlb hw hp h5 hcb
  unfold rqC at HCK HWD ⊢
  have HX := Lib.hid (Bk.new w 33 #[.int .u8 kd, .string lb, .int .i64 lf, .int .u8 cl.head.kind, .string cl.head.who.v, .string cl.head.who.s, .int .i64 cl.head.who.n, .string cl.head.pred, .slice cl.head.ptr cl.head.args.length cl.head.cap, .slice cl.ptr cl.body.length cl.cap, .int .i64 no, .int .u8 lp.kind, .string lp.who.v, .string lp.who.s, .int .i64 lp.who.n, .string lp.pred, .slice lp.ptr lp.args.length lp.cap])
  go_enter Tryz.func11, Tryz.ntmps11
  go_wp2_with (first
    | (go_at_call 14; refine (HCK.out _ (HB.out _)).mono ?_; rintro e w2 ⟨rfl, hb2⟩; have HB2 := Lib.hid ((HB.out _).trans (hb2.mono (HB.out _).size)); obtain ⟨m0, m1, m2, m3, m4, m5, m6, m7, m8, m9, m10, m11, m12, m13, m14, m15, m16⟩ := (HX.out.on hb2).cells17; clear hb2)
    | (go_at_call 29; refine (HWD.out _ HB2.out).mono ?_; rintro e w3 ⟨q, c, rfl, ⟨hcc, hr3⟩, hb3⟩; have HB3 := Lib.hid (HB2.out.trans (hb3.mono HB2.out.size)); have HR3 := Lib.hid hr3; clear hb3 hr3)
    | (go_at_call 28; refine (HJN.out _ _ _ HR3.out hcc).mono ?_; rintro e w4 ⟨rfl, hb4⟩; have HB4 := Lib.hid (HB3.out.trans (hb4.mono HB3.out.size)); clear hb4))
  refine bodyPost_ret (results_tmp2 rfl _ _ _) rfl ?_
  exact ⟨rfl, HB4.out⟩
set_option maxHeartbeats 8000000 in
set_option maxRecDepth 100000 in
theorem reqprint_ok (kd : Int) (lb : ByteArray) (lf : Int) (cl : Kp) (no : Int) (lp : Lp) (w : World) (ws : List ByteArray) (hlb : lb.size ≤ maxLen) (hc : cl.In w w.heap.size) (hl : lp.In w w.heap.size) (he : Env w) (hcb : checkB kd lb lf cl no lp = true)
    (hw : ∀ X, Below w.heap.size w X → Calls Tryz.prog 29 #[.agg (rqC kd lb lf cl no lp)] X (wordsP X ws)) (hp : 0 < ws.length) (h5 : ws.length ≤ 1000) (hj : (joinW ws).size ≤ 140737488355328) (h4 : ¬ 4096 < (joinW ws).size) :
    Calls Tryz.prog 11 #[.agg (rqC kd lb lf cl no lp)] w fun e w' => e = .returned (.tuple #[.string (joinW ws), .int .i64 0]) ∧ Below w.heap.size w w' := by
  have HB := Lib.hid (below1 w)
  have HCK := Lib.hid (fun X (hX : Below w.heap.size w X) => reqcheck_any kd lb lf cl no lp X hlb (hc.grow hX) (hl.grow hX) (he.on hX))
  rw [hcb] at HCK
  have HWD := Lib.hid hw
  have HJN := Lib.hid (fun X q c (hr : Rd encS 1 X X.heap.size q ws) (hcc : ws.length ≤ c) => join_ws hr hp hcc h5 hj)
  generalize joinW ws = J at *
  have h4' : decide ((4096 : Int) < (J.size : Int)) = false := by simp only [decide_eq_false_iff_not]; omega
  clear hc hl he hlb hw hp h5 hcb
  unfold rqC at HCK HWD ⊢
  have HX := Lib.hid (Bk.new w 33 #[.int .u8 kd, .string lb, .int .i64 lf, .int .u8 cl.head.kind, .string cl.head.who.v, .string cl.head.who.s, .int .i64 cl.head.who.n, .string cl.head.pred, .slice cl.head.ptr cl.head.args.length cl.head.cap, .slice cl.ptr cl.body.length cl.cap, .int .i64 no, .int .u8 lp.kind, .string lp.who.v, .string lp.who.s, .int .i64 lp.who.n, .string lp.pred, .slice lp.ptr lp.args.length lp.cap])
  go_enter Tryz.func11, Tryz.ntmps11
  go_wp2_with (first
    | (go_at_call 14; refine (HCK.out _ (HB.out _)).mono ?_; rintro e w2 ⟨rfl, hb2⟩; have HB2 := Lib.hid ((HB.out _).trans (hb2.mono (HB.out _).size)); obtain ⟨m0, m1, m2, m3, m4, m5, m6, m7, m8, m9, m10, m11, m12, m13, m14, m15, m16⟩ := (HX.out.on hb2).cells17; clear hb2)
    | (go_at_call 29; refine (HWD.out _ HB2.out).mono ?_; rintro e w3 ⟨q, c, rfl, ⟨hcc, hr3⟩, hb3⟩; have HB3 := Lib.hid (HB2.out.trans (hb3.mono HB2.out.size)); have HR3 := Lib.hid hr3; clear hb3 hr3)
    | (go_at_call 28; refine (HJN.out _ _ _ HR3.out hcc).mono ?_; rintro e w4 ⟨rfl, hb4⟩; have HB4 := Lib.hid (HB3.out.trans (hb4.mono HB3.out.size)); clear hb4))
  refine bodyPost_ret (results_tmp2 rfl _ _ _) rfl ?_
  exact ⟨rfl, HB4.out⟩
theorem reqprint_any (kd : Int) (lb : ByteArray) (lf : Int) (cl : Kp) (no : Int) (lp : Lp) (w : World) (ws : List ByteArray) (hlb : lb.size ≤ maxLen) (hc : cl.In w w.heap.size) (hl : lp.In w w.heap.size) (he : Env w)
    (hw : checkB kd lb lf cl no lp = true → ∀ X, Below w.heap.size w X → Calls Tryz.prog 29 #[.agg (rqC kd lb lf cl no lp)] X (wordsP X ws)) (hp : 0 < ws.length) (h5 : ws.length ≤ 1000) (hj : (joinW ws).size ≤ 140737488355328) :
    Calls Tryz.prog 11 #[.agg (rqC kd lb lf cl no lp)] w fun e w' => e = .returned (if checkB kd lb lf cl no lp = true then (if 4096 < (joinW ws).size then .tuple #[.string ⟨#[]⟩, .int .i64 2] else .tuple #[.string (joinW ws), .int .i64 0]) else .tuple #[.string ⟨#[]⟩, .int .i64 1]) ∧ Below w.heap.size w w' := by
  by_cases hcb : checkB kd lb lf cl no lp = true
  · rw [if_pos hcb]
    by_cases h4 : 4096 < (joinW ws).size
    · rw [if_pos h4]
      exact reqprint_long kd lb lf cl no lp w ws hlb hc hl he hcb (hw hcb) hp h5 hj h4
    · rw [if_neg h4]
      exact reqprint_ok kd lb lf cl no lp w ws hlb hc hl he hcb (hw hcb) hp h5 hj h4
  · rw [if_neg hcb]
    exact reqprint_no kd lb lf cl no lp w hlb hc hl he (by simpa using hcb)
end Go.Proofs.YtfmkfabbiifolaaGreatDoor

/-
  Plain: what the chapter's examples come to.
-/
set_option linter.unusedVariables false
set_option linter.unusedSimpArgs false
namespace Go.Proofs.YtfmkfabbiifolaaGreatDoor
open Go.RowKit

def exA : ByteArray := ⟨#[97, 115, 115, 101, 114, 116, 32, 108, 111, 119, 32, 102, 111, 114, 32, 53, 32, 112, 40, 97, 41, 46]⟩
def exB : ByteArray := ⟨#[97, 115, 115, 101, 114, 116, 32, 108, 111, 119, 32, 102, 111, 114, 40, 88, 41, 32, 58, 45, 32, 112, 40, 88, 41, 46]⟩
def exQ : ByteArray := ⟨#[113, 117, 101, 114, 121, 32, 112, 40, 88]⟩
def exR : ByteArray := ⟨#[114, 101, 118, 111, 107, 101, 32, 48]⟩
def exU : ByteArray := ⟨#[97, 117, 100, 105, 116, 32, 110, 111, 119]⟩
def exLow : ByteArray := ⟨#[108, 111, 119]⟩
def exCa : Cq := ⟨⟨1, tmZ, ⟨#[112]⟩, [⟨⟨#[]⟩, ⟨#[97]⟩, 0⟩]⟩, []⟩
def exCb : Cq := ⟨⟨1, tmZ, ⟨#[102, 111, 114]⟩, [⟨⟨#[88]⟩, ⟨#[]⟩, 0⟩]⟩, [⟨1, tmZ, ⟨#[112]⟩, [⟨⟨#[88]⟩, ⟨#[]⟩, 0⟩]⟩]⟩
/-- a clause of no place -/
def Cq.at0 (c : Cq) : Kp := ⟨c.head.at none 0, none, 0, c.body.map fun l => l.at none 0⟩
theorem check_q (c : Kp) : c.check = c.q.at0.check := by
  unfold Kp.check Cq.at0 Kp.q
  simp only [List.length_map, List.all_map]
  rfl
theorem txt_q (c : Kp) : c.txt = c.q.at0.txt := by
  unfold Kp.txt Cq.at0 Kp.q
  simp only [List.map_map, List.isEmpty_map]
  rfl
theorem claT_q (c : Kp) : claT c = claT c.q.at0 := by unfold claT; rw [check_q c, txt_q c]
theorem isLit_q (l : Lp) : isLitB l = isLitB (l.q.at none 0) := rfl
theorem xa : reqR exA = .ok (.ass exLow 5 exCa) := by kernel_rfl
theorem xb : reqR exB = .ok (.ass exLow 0 exCb) := by kernel_rfl
theorem xq : reqR exQ = .error (6, 9) := by kernel_rfl
theorem xr : reqR exR = .error (6, 7) := by kernel_rfl
theorem xu : reqR exU = .error (6, 6) := by kernel_rfl
theorem xac : exCa.at0.check = true := by kernel_rfl
theorem xaj : joinW [wdAssert, exLow, wdFor, itoaS 5, claT exCa.at0] = exA := by kernel_rfl
theorem xal : isLitB (lpZ.q.at none 0) = false := by kernel_rfl
theorem xan : nameB exLow = true := by kernel_rfl
theorem xab : boundB 5 = true := by kernel_rfl
theorem chk_a (cl : Kp) (lp : Lp) (h : cl.q = exCa) (hl : lp.q = lpZ.q) : checkB 1 exLow 5 cl 0 lp = true := by
  unfold checkB
  rw [if_pos rfl, check_q, h, xac, isLit_q, hl, xal, xan, xab]
  rfl
theorem print_a (wx : World) (cl : Kp) (lp : Lp) (h : cl.q = exCa) (hl : lp.q = lpZ.q) (hm : RqM wx cl lp) (he : Env wx) :
    Calls Tryz.prog 11 #[.agg (rqC 1 exLow 5 cl 0 lp)] wx fun e w' => e = .returned (.tuple #[.string exA, .int .i64 0]) ∧ Below wx.heap.size wx w' := by
  have hs : cl.q.Sm := h ▸ (reqR_sm xa).1
  have hls : lp.q.Sm := hl ▸ lpz_sm
  have hin := kp_in hm.cl hs
  have hnb := kp_nb hs
  refine (reqprint_any 1 exLow 5 cl 0 lp wx [wdAssert, exLow, wdFor, itoaS 5, claT exCa.at0] (by decide) hin (lp_in hm.lp hls) he (fun _ X hX => ?_) (by decide) (by decide) (by rw [xaj]; decide)).mono fun e w' h' => ?_
  · rw [← h, ← claT_q]
    exact words_assf exLow 5 cl 0 lp X (by decide) (by decide) (hin.grow hX) hnb (he.on hX)
  · rw [if_pos (chk_a cl lp h hl), xaj, if_neg (by decide)] at h'
    exact h'
theorem check_a (wx : World) (cl : Kp) (lp : Lp) (h : cl.q = exCa) (hl : lp.q = lpZ.q) (hm : RqM wx cl lp) (he : Env wx) :
    Calls Tryz.prog 14 #[.agg (rqC 1 exLow 5 cl 0 lp)] wx fun e w' => e = .returned (.bool true) ∧ Below wx.heap.size wx w' := by
  have hs : cl.q.Sm := h ▸ (reqR_sm xa).1
  have hls : lp.q.Sm := hl ▸ lpz_sm
  refine (reqcheck_any 1 exLow 5 cl 0 lp wx (by decide) (kp_in hm.cl hs) (lp_in hm.lp hls) he).mono fun e w' h' => ?_
  rw [chk_a cl lp h hl] at h'
  exact h'
theorem parse_a (wx : World) (he : Env wx) : Calls Tryz.prog 7 #[.string exA] wx fun e w' => ∃ cl lp, e = .returned (.tuple #[.agg (rqC 1 exLow 5 cl 0 lp), .int .i64 0, .int .i64 0]) ∧ Hid (cl.q = exCa) ∧ Hid (lp.q = lpZ.q) ∧ Hid (RqM w' cl lp) ∧ Below wx.heap.size wx w' :=
  (reqparse_any exA wx (by decide) he).mono fun e w' h => by
    obtain ⟨cl, lp, ⟨h1, h2⟩, h3, h4, h5⟩ := rq_sum h
    rw [xa] at h1 h2 h3
    exact ⟨cl, lp, h3, Lib.hid h1, Lib.hid h2, Lib.hid h4, h5⟩
theorem parse_b (wx : World) (he : Env wx) : Calls Tryz.prog 7 #[.string exB] wx fun e w' => ∃ cl lp, e = .returned (.tuple #[.agg (rqC 1 exLow 0 cl 0 lp), .int .i64 0, .int .i64 0]) ∧ Hid (cl.head.pred = ⟨#[102, 111, 114]⟩) ∧ Below wx.heap.size wx w' :=
  (reqparse_any exB wx (by decide) he).mono fun e w' h => by
    obtain ⟨cl, lp, ⟨h1, h2⟩, h3, h4, h5⟩ := rq_sum h
    rw [xb] at h1 h2 h3
    have h6 : cl.q.head.pred = exCb.head.pred := by rw [h1]; rfl
    exact ⟨cl, lp, h3, Lib.hid h6, h5⟩
theorem parse_bad (s : ByteArray) (p : Int) (hs : s.size ≤ 140737488351232) (hr : reqR s = .error (6, p)) (wx : World) (he : Env wx) : Calls Tryz.prog 7 #[.string s] wx fun e w' => e = .returned (.tuple #[.agg (rqC 0 ⟨#[]⟩ 0 kpZ 0 lpZ), .int .i64 p, .int .i64 6]) ∧ Below wx.heap.size wx w' :=
  (reqparse_any s wx hs he).mono fun e w' h => by rw [hr] at h; exact h
end Go.Proofs.YtfmkfabbiifolaaGreatDoor
