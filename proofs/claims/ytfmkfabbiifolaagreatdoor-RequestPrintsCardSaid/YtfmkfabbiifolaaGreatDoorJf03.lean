/-
  Joined of: RckD, RprD, Rpq.
-/
import Derived.Test.YtfmkfabbiifolaaGreatDoorJf02
import Derived.Test.YtfmkfabbiifolaaGreatDoorJa14
import Derived.Test.YtfmkfabbiifolaaGreatDoorJa15
import Derived.Test.YtfmkfabbiifolaaGreatDoorJf01
import Derived.Test.YtfmkfabbiifolaaGreatDoorJe06
import Derived.Test.YtfmkfabbiifolaaGreatDoorJe07
import Derived.Test.YtfmkfabbiifolaaGreatDoorJa02
import Derived.Test.YtfmkfabbiifolaaGreatDoorJa01
import Derived.Deep.RegionHeld3
import Derived.Deep.CutBlock
import Derived.Deep.DeepCutAuto
set_option linter.unusedVariables false
set_option linter.unusedSimpArgs false
/-
  Contract: the reference's Check.
-/
namespace Go.Proofs.YtfmkfabbiifolaaGreatDoor
open Go.RowKit

/-- a clause that came in, boxed -/
structure KS (k : Kp) (w wn : World) : Prop where
  b : Below w.heap.size w wn
  x : Bk wn w.heap.size 31 #[.int .u8 k.head.kind, .string k.head.who.v, .string k.head.who.s, .int .i64 k.head.who.n, .string k.head.pred, .slice k.head.ptr k.head.args.length k.head.cap, .slice k.ptr k.body.length k.cap]
  a : k.In wn wn.heap.size
theorem KS.on {k : Kp} {w wn w' : World} (h : KS k w wn) (hb : Below wn.heap.size wn w') : KS k w w' := ⟨h.b.trans (hb.mono h.b.size), h.x.on hb, h.a.grow hb⟩
theorem KS.start (k : Kp) (w : World) (h : k.In w w.heap.size) : KS k w (w.alloc (.cells #[.int .u8 k.head.kind, .string k.head.who.v, .string k.head.who.s, .int .i64 k.head.who.n, .string k.head.pred, .slice k.head.ptr k.head.args.length k.head.cap, .slice k.ptr k.body.length k.cap] 31)) :=
  ⟨below1 w _, Bk.new w _ _, h.grow (below1 w _)⟩

set_option maxHeartbeats 8000000 in
set_option maxRecDepth 100000 in
theorem refcheck_any (k : Kp) (w : World) (hi : k.In w w.heap.size) :
    Calls Tryz.prog 72 #[k.agg] w fun e w' => e = .returned (.bool k.check) ∧ Below w.heap.size w w' := by
  have HS0 := Lib.hid (KS.start k w hi)
  have HK := Lib.hid (show ∀ X, k.head.In X X.heap.size → _ from fun X hX => refcheckLit_any k.head X hX)
  have HO := Lib.hid (show ∀ X, _ from fun X => refown_any k.head.who X)
  have HR := Lib.hid (show k.check = (decide (k.body.length ≤ 6) && (k.head.who.none && (k.head.ask && k.body.all Lp.lit))) from rfl)
  have hlen := hi.body.len
  unfold Lp.agg at HK
  unfold Kp.agg
  generalize k.check = R at *
  generalize k.head.who.none = no at *
  generalize k.head.ask = ak at *
  clear hi
  cases ak with
  | false =>
    go_enter Tryz.func72, Tryz.ntmps72
    go_wp2_with (go_at_call 74; refine (HK.out _ HS0.out.a.head).mono ?_; rintro e w1 ⟨rfl, hb1⟩; have HS1 := Lib.hid (HS0.out.on hb1))
    go_ret
    exact ⟨by rw [HR.out]; simp, HS1.out.b⟩
  | true =>
  cases no with
  | false =>
    go_enter Tryz.func72, Tryz.ntmps72
    go_wp2_with (first
      | (go_at_call 100; refine (HO.out _).mono ?_; rintro e w2 ⟨rfl, hb2⟩; have HS2 := Lib.hid (HS1.out.on hb2); obtain ⟨y0, y1, y2, y3, y4, y5, y6⟩ := HS2.out.x.seven; clear hb2)
      | (go_at_call 74; refine (HK.out _ HS0.out.a.head).mono ?_; rintro e w1 ⟨rfl, hb1⟩; have HS1 := Lib.hid (HS0.out.on hb1); obtain ⟨x0, x1, x2, x3, x4, x5, x6⟩ := HS1.out.x.seven; clear hb1))
    go_ret
    exact ⟨by rw [HR.out]; simp, HS2.out.b⟩
  | true =>
  by_cases h6 : (6 : Int) < (k.body.length : Int)
  · have HD := Lib.hid (show decide (k.body.length ≤ 6) = false by simp; omega)
    go_enter Tryz.func72, Tryz.ntmps72
    go_wp2_with (first
      | (go_at_call 100; refine (HO.out _).mono ?_; rintro e w2 ⟨rfl, hb2⟩; have HS2 := Lib.hid (HS1.out.on hb2); obtain ⟨y0, y1, y2, y3, y4, y5, y6⟩ := HS2.out.x.seven; clear hb2)
      | (go_at_call 74; refine (HK.out _ HS0.out.a.head).mono ?_; rintro e w1 ⟨rfl, hb1⟩; have HS1 := Lib.hid (HS0.out.on hb1); obtain ⟨x0, x1, x2, x3, x4, x5, x6⟩ := HS1.out.x.seven; clear hb1))
    go_ret
    exact ⟨by rw [HR.out, HD.out]; rfl, HS2.out.b⟩
  · have HD := Lib.hid (show decide (k.body.length ≤ 6) = true by simp; omega)
    go_enter Tryz.func72, Tryz.ntmps72
    go_wp2_with (first
      | (go_at_call 100; refine (HO.out _).mono ?_; rintro e w2 ⟨rfl, hb2⟩; have HS2 := Lib.hid (HS1.out.on hb2); obtain ⟨y0, y1, y2, y3, y4, y5, y6⟩ := HS2.out.x.seven; clear hb2)
      | (go_at_call 74; refine (HK.out _ HS0.out.a.head).mono ?_; rintro e w1 ⟨rfl, hb1⟩; have HS1 := Lib.hid (HS0.out.on hb1); obtain ⟨x0, x1, x2, x3, x4, x5, x6⟩ := HS1.out.x.seven; clear hb1))
    clear y0 y1 y2 y3 y4 y5 y6 x0 x1 x2 x3 x4 x5 x6
    go_loopw [3] (fun i wr => ∃ j : Nat, j ≤ k.body.length ∧ i = .int .i64 j ∧ Hid (k.body.all Lp.lit = (k.body.drop j).all Lp.lit) ∧ Hid (KS k w wr)) (fun i _ => k.body.length - (intOf i).toNat)
    case atStart => exact ⟨0, Nat.zero_le _, rfl, Lib.hid rfl, HS2⟩
    case round =>
      obtain ⟨j, hj, rfl, HA, HSR⟩ := hrel
      have x6 := HSR.out.x.cell 6 _ rfl
      by_cases hlt : j < k.body.length
      · obtain ⟨b, o, hp, hbb, e0, e1, e2, e3, e4, e5⟩ := rdL_at HSR.out.a.body.rd j hlt
        rw [hp] at x6
        clear hp
        have HS := Lib.hid (all_step Lp.lit k.body j hlt)
        have HL := Lib.hid (refliteral_any k.body[j] wr (HSR.out.a.body.each _ (List.getElem_mem hlt)))
        unfold Lp.agg at HL
        have hj0 : (0 : Int) ≤ (j : Int) := by omega
        have hj1 : (j : Int) < (k.body.length : Int) := by omega
        generalize hla : k.body[j] = la at *
        clear hla
        cases hq : la.lit with
        | true =>
          rw [hq] at HL HS
          go_wp2_with (go_at_call 101; refine (HL.out).mono ?_; rintro e w3 ⟨rfl, hb3⟩; have HS3 := Lib.hid (HSR.out.on hb3); clear hb3)
          go_roundw
          case rel => exact ⟨j + 1, by omega, by go_num, Lib.hid (by rw [HA.out, HS.out]; rfl), HS3⟩
          case measure => simp [intOf]; omega
        | false =>
          rw [hq] at HL HS
          go_wp2_with (go_at_call 101; refine (HL.out).mono ?_; rintro e w3 ⟨rfl, hb3⟩; have HS3 := Lib.hid (HSR.out.on hb3); clear hb3)
          go_ret
          exact ⟨by rw [HR.out, HA.out, HS.out]; simp, HS3.out.b⟩
      · have HS := Lib.hid (all_end Lp.lit k.body j (by omega))
        go_wp2_with fail
        go_ret
        exact ⟨by rw [HR.out, HD.out, HA.out, HS.out]; rfl, HSR.out.b⟩
end Go.Proofs.YtfmkfabbiifolaaGreatDoor

/-
  Contracts: the reference's LitText, PrintLit, Print.
-/
namespace Go.Proofs.YtfmkfabbiifolaaGreatDoor
open Go.RowKit

theorem pred_size {l : Lp} (h : l.said = true) : l.pred.size ≤ 1000 := by
  unfold Lp.said at h
  simp only [Bool.and_eq_true] at h
  exact Nat.le_trans (name_size h.2.1) (by decide)
theorem reflit_any (l : Lp) (w : World) (hi : l.In w w.heap.size) (hn : l.Nb) (hl : l.lit = true) :
    Calls Tryz.prog 73 #[l.agg] w fun e w' => e = .returned (.string l.litT) ∧ Below w.heap.size w w' := by
  have hs := short_of_lit hl hn
  have hl0 := hl
  by_cases h12 : (l.kind == 1 || l.kind == 2) = true
  · have hsd : l.said = true := by unfold Lp.lit at hl; rw [if_pos h12] at hl; exact hl
    have hk : l.kind = 1 ∨ l.kind = 2 := by simpa using h12
    exact reflit_said l w hi hn hs (pred_size hsd) (by omega) (by omega)
  · unfold Lp.lit at hl
    rw [if_neg h12] at hl
    by_cases h34 : (l.kind == 3 || l.kind == 4) = true
    · rw [if_pos h34] at hl
      have hk : l.kind = 3 ∨ l.kind = 4 := by simpa using h34
      exact reflit_cmp l w hi hs hk hl0
    · rw [if_neg h34] at hl
      cases hl
theorem lit_of_ask {l : Lp} (h : l.ask = true) : l.lit = true ∧ l.litT = l.saidT := by
  unfold Lp.ask at h
  simp only [Bool.and_eq_true, beq_iff_eq] at h
  unfold Lp.lit Lp.litT
  rw [h.1]
  exact ⟨h.2, rfl⟩

set_option maxHeartbeats 8000000 in
set_option maxRecDepth 100000 in
theorem refprintLit_any (l : Lp) (w : World) (hi : l.In w w.heap.size) (hn : l.Nb) :
    Calls Tryz.prog 35 #[l.agg] w fun e w' => e = .returned (if l.ask then .tuple #[.string l.saidT, .int .i64 0] else .tuple #[.string ⟨#[]⟩, .int .i64 1]) ∧ Below w.heap.size w w' := by
  have HS0 := Lib.hid (LS.start l w hi.args)
  have HK := Lib.hid (show ∀ X, l.In X X.heap.size → _ from fun X hX => refcheckLit_any l X hX)
  have HI := Lib.hid (show ∀ X, Below w.heap.size w X → l.In X X.heap.size from fun X hX => hi.grow hX)
  cases hk : l.ask with
  | false =>
    rw [hk] at HK
    unfold Lp.agg at HK ⊢
    clear hi hn hk
    go_enter Tryz.func35, Tryz.ntmps35
    go_wp2_with (go_at_call 74; refine (HK.out _ (HI.out _ HS0.out.b)).mono ?_; rintro e w1 ⟨rfl, hb1⟩; have HS1 := Lib.hid (HS0.out.on hb1))
    go_ret2
    exact ⟨rfl, HS1.out.b⟩
  | true =>
    obtain ⟨hl, ht⟩ := lit_of_ask hk
    have HT := Lib.hid (show ∀ X, l.In X X.heap.size → Calls Tryz.prog 73 #[l.agg] X fun e w' => e = .returned (.string l.saidT) ∧ Below X.heap.size X w' from fun X hX => ht ▸ reflit_any l X hX hn hl)
    rw [hk] at HK
    unfold Lp.agg at HK HT ⊢
    generalize l.saidT = tx at *
    clear hi hn hk hl ht
    go_enter Tryz.func35, Tryz.ntmps35
    go_wp2_with (first
      | (go_at_call 73; refine (HT.out _ (HI.out _ HS1.out.b)).mono ?_; rintro e w2 ⟨rfl, hb2⟩; have HS2 := Lib.hid (HS1.out.on hb2); clear hb2)
      | (go_at_call 74; refine (HK.out _ (HI.out _ HS0.out.b)).mono ?_; rintro e w1 ⟨rfl, hb1⟩; have HS1 := Lib.hid (HS0.out.on hb1); obtain ⟨x0, x1, x2, x3, x4, x5⟩ := HS1.out.x.six; clear hb1))
    go_ret2
    exact ⟨rfl, HS2.out.b⟩

set_option maxHeartbeats 16000000 in
set_option maxRecDepth 100000 in
theorem refprint_any (k : Kp) (w : World) (hi : k.In w w.heap.size) (hn : k.Nb) :
    Calls Tryz.prog 32 #[k.agg] w fun e w' => e = .returned (if k.check then .tuple #[.string k.txt, .int .i64 0] else .tuple #[.string ⟨#[]⟩, .int .i64 1]) ∧ Below w.heap.size w w' := by
  have HS0 := Lib.hid (KS.start k w hi)
  have HK := Lib.hid (show ∀ X, k.In X X.heap.size → _ from fun X hX => refcheck_any k X hX)
  cases hk : k.check with
  | false =>
    rw [hk] at HK
    unfold Kp.agg at HK ⊢
    clear hi hn hk
    go_enter Tryz.func32, Tryz.ntmps32
    go_wp2_with (go_at_call 72; refine (HK.out _ HS0.out.a).mono ?_; rintro e w1 ⟨rfl, hb1⟩; have HS1 := Lib.hid (HS0.out.on hb1))
    go_ret2
    exact ⟨rfl, HS1.out.b⟩
  | true =>
    obtain ⟨hlen, _, hask, hbody⟩ : k.body.length ≤ 6 ∧ k.head.who.none = true ∧ k.head.ask = true ∧ ∀ l ∈ k.body, l.lit = true := by
      unfold Kp.check at hk
      simp only [Bool.and_eq_true, decide_eq_true_eq, List.all_eq_true] at hk
      exact hk
    obtain ⟨hl, ht⟩ := lit_of_ask hask
    have HH := Lib.hid (show ∀ X, k.head.In X X.heap.size → _ from fun X hX => reflit_any k.head X hX hn.head hl)
    have HB := Lib.hid (show ∀ l ∈ k.body, ∀ X, l.In X X.heap.size → _ from fun l hl' X hX => reflit_any l X hX (hn.body l hl') (hbody l hl'))
    have HZB := Lib.hid (show ∀ l ∈ k.body, l.litT.size ≤ 2000000 from fun l hl' => litT_size (hbody l hl') (short_of_lit (hbody l hl') (hn.body l hl')))
    have hz0 : k.head.litT.size ≤ 2000000 := litT_size hl (short_of_lit hl hn.head)
    have HX := Lib.hid (txt_fold k ht)
    have h40 : (⟨#[32, 58, 45, 32]⟩ : ByteArray).size = 4 := rfl
    have h32 : (⟨#[44, 32]⟩ : ByteArray).size = 2 := rfl
    have h46 : (⟨#[46]⟩ : ByteArray).size = 1 := rfl
    rw [hk] at HK
    unfold Kp.agg at HK ⊢
    unfold Lp.agg at HH HB
    generalize k.txt = ct at *
    generalize k.head.litT = hT at *
    clear hi hn hk hl ht hask hbody
    go_enter Tryz.func32, Tryz.ntmps32
    go_wp2_with (first
      | (go_at_call 73; refine (HH.out _ HS1.out.a.head).mono ?_; rintro e w2 ⟨rfl, hb2⟩; have HS2 := Lib.hid (HS1.out.on hb2); clear hb2)
      | (go_at_call 72; refine (HK.out _ HS0.out.a).mono ?_; rintro e w1 ⟨rfl, hb1⟩; have HS1 := Lib.hid (HS0.out.on hb1); obtain ⟨x0, x1, x2, x3, x4, x5, x6⟩ := HS1.out.x.seven; clear hb1))
    clear x0 x1 x2 x3 x4 x5 x6
    go_loopw [4, 5] (fun o i wr => ∃ (j : Nat) (out : ByteArray), j ≤ k.body.length ∧ o = .string out ∧ i = .int .i64 j ∧ out.size ≤ 2000000 + j * 2000004 ∧ Hid (foldX wdIfB hT 0 (k.body.map Lp.litT) = foldX wdIfB out j ((k.body.map Lp.litT).drop j)) ∧ Hid (KS k w wr)) (fun _ i _ => k.body.length - (intOf i).toNat)
    case atStart => exact ⟨0, _, Nat.zero_le _, rfl, rfl, by omega, Lib.hid rfl, HS2⟩
    case round =>
      obtain ⟨j, out, hj, rfl, rfl, hos, HF, HSR⟩ := hrel
      have x6 := HSR.out.x.cell 6 _ rfl
      by_cases hlt : j < k.body.length
      · obtain ⟨b, o, hq, hbb, e0, e1, e2, e3, e4, e5⟩ := rdL_at HSR.out.a.body.rd j hlt
        rw [hq] at x6
        clear hq
        have HFS := Lib.hid (foldX_step wdIfB out (k.body.map Lp.litT) j (by simpa using hlt))
        have HTX := Lib.hid (HB.out _ (List.getElem_mem hlt) wr (HSR.out.a.body.each _ (List.getElem_mem hlt)))
        have htz : k.body[j].litT.size ≤ 2000000 := HZB.out _ (List.getElem_mem hlt)
        have hj0 : (0 : Int) ≤ (j : Int) := by omega
        have hj1 : (j : Int) < (k.body.length : Int) := by omega
        simp only [List.getElem_map] at HFS
        have HAS := Lib.hid (addX_size wdIfB out k.body[j].litT j (by decide) (by omega))
        generalize k.body[j].litT = tt at *
        generalize k.body[j] = la at *
        by_cases hjz : j = 0
        · have hjb : ((j : Int) == 0) = true := by simp [hjz]
          have HAX := Lib.hid (show addX wdIfB out j tt = (out ++ ⟨#[32, 58, 45, 32]⟩) ++ tt by unfold addX; rw [if_pos hjz]; rfl)
          clear hjz
          go_wp2_with (go_at_call 73; refine (HTX.out).mono ?_; rintro e w5 ⟨rfl, hb5⟩; have HS5 := Lib.hid (HSR.out.on hb5); clear hb5)
          go_roundw
          case rel => exact ⟨j + 1, _, by omega, rfl, by go_num, by rw [← HAX.out]; exact Nat.le_trans HAS.out (by omega), Lib.hid (by rw [HF.out, HFS.out, HAX.out]), HS5⟩
          case measure => simp [intOf]; omega
        · have hjb : ((j : Int) == 0) = false := beq_eq_false_iff_ne.2 (by omega)
          have HAX := Lib.hid (show addX wdIfB out j tt = (out ++ ⟨#[44, 32]⟩) ++ tt by unfold addX; rw [if_neg hjz])
          clear hjz
          go_wp2_with (go_at_call 73; refine (HTX.out).mono ?_; rintro e w5 ⟨rfl, hb5⟩; have HS5 := Lib.hid (HSR.out.on hb5); clear hb5)
          go_roundw
          case rel => exact ⟨j + 1, _, by omega, rfl, by go_num, by rw [← HAX.out]; exact Nat.le_trans HAS.out (by omega), Lib.hid (by rw [HF.out, HFS.out, HAX.out]), HS5⟩
          case measure => simp [intOf]; omega
      · have HE := Lib.hid (show foldX wdIfB hT 0 (k.body.map Lp.litT) = out by rw [HF.out, foldX_end _ _ _ _ (by simp; omega)])
        clear HF
        go_wp2_with fail
        go_ret2
        exact ⟨by rw [HX.out, HE.out]; rfl, HSR.out.b⟩
end Go.Proofs.YtfmkfabbiifolaaGreatDoor

/-
  Contract: the reference's Print of a request. (Made by tools/mk_rpr.py.)
-/
set_option linter.unusedVariables false
set_option linter.unusedSimpArgs false
namespace Go.Proofs.YtfmkfabbiifolaaGreatDoor
open Go.RowKit

/-- the request and the one that is wanted, boxed -/
structure PQ (kd : Int) (lb : ByteArray) (lf : Int) (k : Kp) (no : Int) (l : Lp) (want : Array Value) (w : World) (wb : Nat) (X : World) : Prop where
  b : Below w.heap.size w X
  x : Bk X w.heap.size 33 (rqC kd lb lf k no l)
  z : Bk X wb 33 want
  a : RqArg kd lb lf k no l X
section
variable {kd : Int} {lb : ByteArray} {lf : Int} {k : Kp} {no : Int} {l : Lp} {want want' : Array Value} {w X X' : World} {wb : Nat}
theorem PQ.on (h : PQ kd lb lf k no l want w wb X) (hb : Below X.heap.size X X') : PQ kd lb lf k no l want w wb X' := ⟨h.b.trans (hb.mono h.b.size), h.x.on hb, h.z.on hb, h.a.on hb⟩
theorem PQ.put (h : PQ kd lb lf k no l want w wb X) (hw : w.heap.size < wb) (ha : RqArg kd lb lf k no l w) (hp : Put1 wb X X') (hz : Bk X' wb 33 want') : PQ kd lb lf k no l want' w wb X' :=
  ⟨h.b.trans (hp.below _ (Nat.le_of_lt hw)), hp.bk h.x (Nat.ne_of_lt hw), hz, ha.on (h.b.trans (hp.below _ (Nat.le_of_lt hw)))⟩
end
theorem Put1.drew {b : Nat} {w w' : World} (h : Put1 b w w') : Put1 b w w'.drew := ⟨fun B hB => (h.below B hB).trans (below_drewN' (Below.refl B w') 1), h.other⟩
theorem put_cells {b : Nat} {w : World} (o : Nat) (vs : List Value) : Put1 b w (w.setCells b o vs) := ⟨fun B hB => below_setCells vs b o w hB, fun k hk => setCells_heap vs b o k w hk⟩
theorem setCells9 (W : World) (b o : Nat) (v0 v1 v2 v3 v4 v5 v6 v7 v8 : Value) : W.setCells b o [v0, v1, v2, v3, v4, v5, v6, v7, v8] = ((((((((W.setCell ⟨b, o, none⟩ v0).setCell ⟨b, o + 1, none⟩ v1).setCell ⟨b, o + 1 + 1, none⟩ v2).setCell ⟨b, o + 1 + 1 + 1, none⟩ v3).setCell ⟨b, o + 1 + 1 + 1 + 1, none⟩ v4).setCell ⟨b, o + 1 + 1 + 1 + 1 + 1, none⟩ v5).setCell ⟨b, o + 1 + 1 + 1 + 1 + 1 + 1, none⟩ v6).setCell ⟨b, o + 1 + 1 + 1 + 1 + 1 + 1 + 1, none⟩ v7).setCell ⟨b, o + 1 + 1 + 1 + 1 + 1 + 1 + 1 + 1, none⟩ v8 := by
  simp only [World.setCells]
theorem setCells6 (W : World) (b o : Nat) (v0 v1 v2 v3 v4 v5 : Value) : W.setCells b o [v0, v1, v2, v3, v4, v5] = (((((W.setCell ⟨b, o, none⟩ v0).setCell ⟨b, o + 1, none⟩ v1).setCell ⟨b, o + 1 + 1, none⟩ v2).setCell ⟨b, o + 1 + 1 + 1, none⟩ v3).setCell ⟨b, o + 1 + 1 + 1 + 1, none⟩ v4).setCell ⟨b, o + 1 + 1 + 1 + 1 + 1, none⟩ v5 := by
  simp only [World.setCells]
theorem want1 {W : World} {wb : Nat} {T : TypeId} (h : Bk W wb T (rqC 1 ⟨#[]⟩ 0 kpZ 0 lpZ)) (lb : ByteArray) (lf : Int) (k : Kp) :
    ∃ W3, (((((((((W.setCell ⟨wb, 1, none⟩ (.string lb)).setCell ⟨wb, 2, none⟩ (.int .i64 lf)).setCell ⟨wb, 3, none⟩ (.int .u8 k.head.kind)).setCell ⟨wb, 4, none⟩ (.string k.head.who.v)).setCell ⟨wb, 5, none⟩ (.string k.head.who.s)).setCell ⟨wb, 6, none⟩ (.int .i64 k.head.who.n)).setCell ⟨wb, 7, none⟩ (.string k.head.pred)).setCell ⟨wb, 8, none⟩ (.slice k.head.ptr k.head.args.length k.head.cap)).setCell ⟨wb, 9, none⟩ (.slice k.ptr k.body.length k.cap)).drew = W3 ∧ Bk W3 wb T (rqC 1 lb lf k 0 lpZ) ∧ Put1 wb W W3 := by
  have h1 := bk_setCells [.string lb, .int .i64 lf, .int .u8 k.head.kind, .string k.head.who.v, .string k.head.who.s, .int .i64 k.head.who.n, .string k.head.pred, .slice k.head.ptr k.head.args.length k.head.cap, .slice k.ptr k.body.length k.cap] 1 W _ h (by simp [rqC])
  have h2 := put_cells (b := wb) (w := W) 1 [.string lb, .int .i64 lf, .int .u8 k.head.kind, .string k.head.who.v, .string k.head.who.s, .int .i64 k.head.who.n, .string k.head.pred, .slice k.head.ptr k.head.args.length k.head.cap, .slice k.ptr k.body.length k.cap]
  have e : ((rqC 1 ⟨#[]⟩ 0 kpZ 0 lpZ).toList.take 1 ++ ([.string lb, .int .i64 lf, .int .u8 k.head.kind, .string k.head.who.v, .string k.head.who.s, .int .i64 k.head.who.n, .string k.head.pred, .slice k.head.ptr k.head.args.length k.head.cap, .slice k.ptr k.body.length k.cap] : List Value) ++ (rqC 1 ⟨#[]⟩ 0 kpZ 0 lpZ).toList.drop (1 + 9)).toArray = rqC 1 lb lf k 0 lpZ := rfl
  rw [setCells9] at h1 h2
  refine ⟨_, rfl, ?_, h2.drew⟩
  generalize ((((((((W.setCell ⟨wb, 1, none⟩ (.string lb)).setCell ⟨wb, 2, none⟩ (.int .i64 lf)).setCell ⟨wb, 3, none⟩ (.int .u8 k.head.kind)).setCell ⟨wb, 4, none⟩ (.string k.head.who.v)).setCell ⟨wb, 5, none⟩ (.string k.head.who.s)).setCell ⟨wb, 6, none⟩ (.int .i64 k.head.who.n)).setCell ⟨wb, 7, none⟩ (.string k.head.pred)).setCell ⟨wb, 8, none⟩ (.slice k.head.ptr k.head.args.length k.head.cap)).setCell ⟨wb, 9, none⟩ (.slice k.ptr k.body.length k.cap) = W3 at h1 ⊢
  rw [← e]
  exact h1
theorem want2 {W : World} {wb : Nat} {T : TypeId} (h : Bk W wb T (rqC 2 ⟨#[]⟩ 0 kpZ 0 lpZ)) (no : Int) :
    ∃ W3, W.setCell ⟨wb, 10, none⟩ (.int .i64 no) = W3 ∧ Bk W3 wb T (rqC 2 ⟨#[]⟩ 0 kpZ no lpZ) ∧ Put1 wb W W3 := by
  have h1 := bk_setCells [.int .i64 no] 10 W _ h (by simp [rqC])
  have e : ((rqC 2 ⟨#[]⟩ 0 kpZ 0 lpZ).toList.take 10 ++ ([.int .i64 no] : List Value) ++ (rqC 2 ⟨#[]⟩ 0 kpZ 0 lpZ).toList.drop (10 + 1)).toArray = rqC 2 ⟨#[]⟩ 0 kpZ no lpZ := rfl
  exact ⟨_, rfl, e ▸ h1, put_cells 10 [.int .i64 no]⟩
theorem want3 {W : World} {wb : Nat} {T : TypeId} {kd : Int} (h : Bk W wb T (rqC kd ⟨#[]⟩ 0 kpZ 0 lpZ)) (l : Lp) :
    ∃ W3, ((((((W.setCell ⟨wb, 11, none⟩ (.int .u8 l.kind)).setCell ⟨wb, 12, none⟩ (.string l.who.v)).setCell ⟨wb, 13, none⟩ (.string l.who.s)).setCell ⟨wb, 14, none⟩ (.int .i64 l.who.n)).setCell ⟨wb, 15, none⟩ (.string l.pred)).setCell ⟨wb, 16, none⟩ (.slice l.ptr l.args.length l.cap)) = W3 ∧ Bk W3 wb T (rqC kd ⟨#[]⟩ 0 kpZ 0 l) ∧ Put1 wb W W3 := by
  have h1 := bk_setCells [.int .u8 l.kind, .string l.who.v, .string l.who.s, .int .i64 l.who.n, .string l.pred, .slice l.ptr l.args.length l.cap] 11 W _ h (by simp [rqC])
  have h2 := put_cells (b := wb) (w := W) 11 [.int .u8 l.kind, .string l.who.v, .string l.who.s, .int .i64 l.who.n, .string l.pred, .slice l.ptr l.args.length l.cap]
  have e : ((rqC kd ⟨#[]⟩ 0 kpZ 0 lpZ).toList.take 11 ++ ([.int .u8 l.kind, .string l.who.v, .string l.who.s, .int .i64 l.who.n, .string l.pred, .slice l.ptr l.args.length l.cap] : List Value) ++ (rqC kd ⟨#[]⟩ 0 kpZ 0 lpZ).toList.drop (11 + 6)).toArray = rqC kd ⟨#[]⟩ 0 kpZ 0 l := rfl
  rw [setCells6] at h1 h2
  refine ⟨_, rfl, ?_, h2⟩
  generalize (((((W.setCell ⟨wb, 11, none⟩ (.int .u8 l.kind)).setCell ⟨wb, 12, none⟩ (.string l.who.v)).setCell ⟨wb, 13, none⟩ (.string l.who.s)).setCell ⟨wb, 14, none⟩ (.int .i64 l.who.n)).setCell ⟨wb, 15, none⟩ (.string l.pred)).setCell ⟨wb, 16, none⟩ (.slice l.ptr l.args.length l.cap) = W3 at h1 ⊢
  rw [← e]
  exact h1

/-! The calls that it makes. -/
section
variable {kd : Int} {lb : ByteArray} {lf : Int} {k : Kp} {no : Int} {l : Lp} {w : World}
theorem refcla_arg (h : RqArg kd lb lf k no l w) : Calls Tryz.prog 32 #[k.agg] w fun e w' => e = .returned (.tuple #[.string (claT k), .int .i64 (if k.check then 0 else 1)]) ∧ Below w.heap.size w w' :=
  (refprint_any k w h.cl.kin h.cl.nb).mono fun e w' ⟨h1, h2⟩ => ⟨by rw [h1]; unfold claT; cases k.check <;> rfl, h2⟩
theorem refask_arg (h : RqArg kd lb lf k no l w) : Calls Tryz.prog 35 #[l.agg] w fun e w' => e = .returned (.tuple #[.string (askT l), .int .i64 (if l.ask then 0 else 1)]) ∧ Below w.heap.size w w' :=
  (refprintLit_any l w h.lp.isin h.lp.nb).mono fun e w' ⟨h1, h2⟩ => ⟨by rw [h1]; unfold askT; cases l.ask <;> rfl, h2⟩
theorem zmem (w : World) : ClMem w kpZ := clz_mem w
theorem samereq_arg (h : RqArg kd lb lf k no l w) (lb' : ByteArray) (lf' no' : Int) (k' : Kp) (l' : Lp) (hk : k' = k ∨ k' = kpZ) (hl : l' = l ∨ l' = lpZ) :
    Calls Tryz.prog 10 #[.agg (rqC kd lb lf k no l), .agg (rqC kd lb' lf' k' no' l')] w fun e w' => e = .returned (.bool ((lb.toList == lb'.toList) && ((lf == lf') && ((no == no') && (sameK k k' && sameL l l'))))) ∧ Below w.heap.size w w' := by
  have s1 := kp_size h.cl
  have s2 := h.lp.sz
  refine (samereq_gen kd kd lb lb' lf lf' no no' k k' l l' w h.cl.mem ?_ h.lp.isin.args ?_ (by omega) (by omega) (fun x hx => by have := s1.2.2 x hx; omega) (by omega)).mono fun e w' ⟨h1, h2⟩ => ⟨by rw [h1]; simp only [beq_self_eq_true, Bool.true_and], h2⟩
  · rcases hk with rfl | rfl
    · exact h.cl.mem
    · exact clz_mem w
  · rcases hl with rfl | rfl
    · exact h.lp.isin.args
    · exact lpz_mem w _
end
end Go.Proofs.YtfmkfabbiifolaaGreatDoor
