/-
  Joined of: RckD, RprD, PriW.
-/
import Derived.Test.YtnjdganikeganaaGreatDoorJa39
import Derived.Test.YtnjdganikeganaaGreatDoorJa14
import Derived.Test.YtnjdganikeganaaGreatDoorJa15
import Derived.Test.YtnjdganikeganaaGreatDoorJa37
import Derived.Test.YtnjdganikeganaaGreatDoorJa36
import Derived.Test.YtnjdganikeganaaGreatDoorJa20
set_option linter.unusedVariables false
set_option linter.unusedSimpArgs false
/-
  Contract: the reference's Check.
-/
namespace Go.Proofs.YtnjdganikeganaaGreatDoor
open Go.RowKit

/-- a clause that came in, boxed -/
structure KS (k : Kp) (w wn : World) : Prop where
  b : Below w.heap.size w wn
  x : Bk wn w.heap.size 31 #[.int .u8 k.head.kind, .string k.head.who.v, .string k.head.who.s, .int .i64 k.head.who.n, .string k.head.pred, .slice k.head.ptr k.head.args.length k.head.cap, .slice k.ptr k.body.length k.cap]
  a : k.In wn wn.heap.size
theorem KS.on {k : Kp} {w wn w' : World} (h : KS k w wn) (hb : Below wn.heap.size wn w') : KS k w w' := ⟨h.b.trans (hb.mono h.b.size), h.x.on hb, h.a.grow hb⟩
theorem KS.start (k : Kp) (w : World) (h : k.In w w.heap.size) : KS k w (w.alloc (.cells #[.int .u8 k.head.kind, .string k.head.who.v, .string k.head.who.s, .int .i64 k.head.who.n, .string k.head.pred, .slice k.head.ptr k.head.args.length k.head.cap, .slice k.ptr k.body.length k.cap] 31)) :=
  ⟨below1 w _, Bk.new w _ _, h.grow (below1 w _)⟩

set_option maxHeartbeats 8000000 in
set_option maxRecDepth 100000 in
theorem refcheck_any (k : Kp) (w : World) (hi : k.In w w.heap.size) :
    Calls Tryz.prog 29 #[k.agg] w fun e w' => e = .returned (.bool k.check) ∧ Below w.heap.size w w' := by
  have HS0 := Lib.hid (KS.start k w hi)
  have HK := Lib.hid (show ∀ X, k.head.In X X.heap.size → _ from fun X hX => refcheckLit_any k.head X hX)
  have HO := Lib.hid (show ∀ X, _ from fun X => refown_any k.head.who X)
  have HR := Lib.hid (show k.check = (decide (k.body.length ≤ 6) && (k.head.who.none && (k.head.ask && k.body.all Lp.lit))) from rfl)
  have hlen := hi.body.len
  unfold Lp.agg at HK
  unfold Kp.agg
  generalize k.check = R at *
  generalize k.head.who.none = no at *
  generalize k.head.ask = ak at *
  clear hi
  cases ak with
  | false =>
    go_enter Tryz.func29, Tryz.ntmps29
    go_wp2_with (go_at_call 47; refine (HK.out _ HS0.out.a.head).mono ?_; rintro e w1 ⟨rfl, hb1⟩; have HS1 := Lib.hid (HS0.out.on hb1))
    go_ret
    exact ⟨by rw [HR.out]; simp, HS1.out.b⟩
  | true =>
  cases no with
  | false =>
    go_enter Tryz.func29, Tryz.ntmps29
    go_wp2_with (first
      | (go_at_call 54; refine (HO.out _).mono ?_; rintro e w2 ⟨rfl, hb2⟩; have HS2 := Lib.hid (HS1.out.on hb2); obtain ⟨y0, y1, y2, y3, y4, y5, y6⟩ := HS2.out.x.seven; clear hb2)
      | (go_at_call 47; refine (HK.out _ HS0.out.a.head).mono ?_; rintro e w1 ⟨rfl, hb1⟩; have HS1 := Lib.hid (HS0.out.on hb1); obtain ⟨x0, x1, x2, x3, x4, x5, x6⟩ := HS1.out.x.seven; clear hb1))
    go_ret
    exact ⟨by rw [HR.out]; simp, HS2.out.b⟩
  | true =>
  by_cases h6 : (6 : Int) < (k.body.length : Int)
  · have HD := Lib.hid (show decide (k.body.length ≤ 6) = false by simp; omega)
    go_enter Tryz.func29, Tryz.ntmps29
    go_wp2_with (first
      | (go_at_call 54; refine (HO.out _).mono ?_; rintro e w2 ⟨rfl, hb2⟩; have HS2 := Lib.hid (HS1.out.on hb2); obtain ⟨y0, y1, y2, y3, y4, y5, y6⟩ := HS2.out.x.seven; clear hb2)
      | (go_at_call 47; refine (HK.out _ HS0.out.a.head).mono ?_; rintro e w1 ⟨rfl, hb1⟩; have HS1 := Lib.hid (HS0.out.on hb1); obtain ⟨x0, x1, x2, x3, x4, x5, x6⟩ := HS1.out.x.seven; clear hb1))
    go_ret
    exact ⟨by rw [HR.out, HD.out]; rfl, HS2.out.b⟩
  · have HD := Lib.hid (show decide (k.body.length ≤ 6) = true by simp; omega)
    go_enter Tryz.func29, Tryz.ntmps29
    go_wp2_with (first
      | (go_at_call 54; refine (HO.out _).mono ?_; rintro e w2 ⟨rfl, hb2⟩; have HS2 := Lib.hid (HS1.out.on hb2); obtain ⟨y0, y1, y2, y3, y4, y5, y6⟩ := HS2.out.x.seven; clear hb2)
      | (go_at_call 47; refine (HK.out _ HS0.out.a.head).mono ?_; rintro e w1 ⟨rfl, hb1⟩; have HS1 := Lib.hid (HS0.out.on hb1); obtain ⟨x0, x1, x2, x3, x4, x5, x6⟩ := HS1.out.x.seven; clear hb1))
    clear y0 y1 y2 y3 y4 y5 y6 x0 x1 x2 x3 x4 x5 x6
    go_loopw [3] (fun i wr => ∃ j : Nat, j ≤ k.body.length ∧ i = .int .i64 j ∧ Hid (k.body.all Lp.lit = (k.body.drop j).all Lp.lit) ∧ Hid (KS k w wr)) (fun i _ => k.body.length - (intOf i).toNat)
    case atStart => exact ⟨0, Nat.zero_le _, rfl, Lib.hid rfl, HS2⟩
    case round =>
      obtain ⟨j, hj, rfl, HA, HSR⟩ := hrel
      have x6 := HSR.out.x.cell 6 _ rfl
      by_cases hlt : j < k.body.length
      · obtain ⟨b, o, hp, hbb, e0, e1, e2, e3, e4, e5⟩ := rdL_at HSR.out.a.body.rd j hlt
        rw [hp] at x6
        clear hp
        have HS := Lib.hid (all_step Lp.lit k.body j hlt)
        have HL := Lib.hid (refliteral_any k.body[j] wr (HSR.out.a.body.each _ (List.getElem_mem hlt)))
        unfold Lp.agg at HL
        have hj0 : (0 : Int) ≤ (j : Int) := by omega
        have hj1 : (j : Int) < (k.body.length : Int) := by omega
        generalize hla : k.body[j] = la at *
        clear hla
        cases hq : la.lit with
        | true =>
          rw [hq] at HL HS
          go_wp2_with (go_at_call 55; refine (HL.out).mono ?_; rintro e w3 ⟨rfl, hb3⟩; have HS3 := Lib.hid (HSR.out.on hb3); clear hb3)
          go_roundw
          case rel => exact ⟨j + 1, by omega, by go_num, Lib.hid (by rw [HA.out, HS.out]; rfl), HS3⟩
          case measure => simp [intOf]; omega
        | false =>
          rw [hq] at HL HS
          go_wp2_with (go_at_call 55; refine (HL.out).mono ?_; rintro e w3 ⟨rfl, hb3⟩; have HS3 := Lib.hid (HSR.out.on hb3); clear hb3)
          go_ret
          exact ⟨by rw [HR.out, HA.out, HS.out]; simp, HS3.out.b⟩
      · have HS := Lib.hid (all_end Lp.lit k.body j (by omega))
        go_wp2_with fail
        go_ret
        exact ⟨by rw [HR.out, HD.out, HA.out, HS.out]; rfl, HSR.out.b⟩
end Go.Proofs.YtnjdganikeganaaGreatDoor

/-
  Contracts: the reference's LitText, PrintLit, Print.
-/
namespace Go.Proofs.YtnjdganikeganaaGreatDoor
open Go.RowKit

theorem pred_size {l : Lp} (h : l.said = true) : l.pred.size ≤ 1000 := by
  unfold Lp.said at h
  simp only [Bool.and_eq_true] at h
  exact Nat.le_trans (name_size h.2.1) (by decide)
theorem reflit_any (l : Lp) (w : World) (hi : l.In w w.heap.size) (hn : l.Nb) (hl : l.lit = true) :
    Calls Tryz.prog 46 #[l.agg] w fun e w' => e = .returned (.string l.litT) ∧ Below w.heap.size w w' := by
  have hs := short_of_lit hl hn
  have hl0 := hl
  by_cases h12 : (l.kind == 1 || l.kind == 2) = true
  · have hsd : l.said = true := by unfold Lp.lit at hl; rw [if_pos h12] at hl; exact hl
    have hk : l.kind = 1 ∨ l.kind = 2 := by simpa using h12
    exact reflit_said l w hi hn hs (pred_size hsd) (by omega) (by omega)
  · unfold Lp.lit at hl
    rw [if_neg h12] at hl
    by_cases h34 : (l.kind == 3 || l.kind == 4) = true
    · rw [if_pos h34] at hl
      have hk : l.kind = 3 ∨ l.kind = 4 := by simpa using h34
      exact reflit_cmp l w hi hs hk hl0
    · rw [if_neg h34] at hl
      cases hl
theorem lit_of_ask {l : Lp} (h : l.ask = true) : l.lit = true ∧ l.litT = l.saidT := by
  unfold Lp.ask at h
  simp only [Bool.and_eq_true, beq_iff_eq] at h
  unfold Lp.lit Lp.litT
  rw [h.1]
  exact ⟨h.2, rfl⟩

set_option maxHeartbeats 8000000 in
set_option maxRecDepth 100000 in
theorem refprintLit_any (l : Lp) (w : World) (hi : l.In w w.heap.size) (hn : l.Nb) :
    Calls Tryz.prog 23 #[l.agg] w fun e w' => e = .returned (if l.ask then .tuple #[.string l.saidT, .int .i64 0] else .tuple #[.string ⟨#[]⟩, .int .i64 1]) ∧ Below w.heap.size w w' := by
  have HS0 := Lib.hid (LS.start l w hi.args)
  have HK := Lib.hid (show ∀ X, l.In X X.heap.size → _ from fun X hX => refcheckLit_any l X hX)
  have HI := Lib.hid (show ∀ X, Below w.heap.size w X → l.In X X.heap.size from fun X hX => hi.grow hX)
  cases hk : l.ask with
  | false =>
    rw [hk] at HK
    unfold Lp.agg at HK ⊢
    clear hi hn hk
    go_enter Tryz.func23, Tryz.ntmps23
    go_wp2_with (go_at_call 47; refine (HK.out _ (HI.out _ HS0.out.b)).mono ?_; rintro e w1 ⟨rfl, hb1⟩; have HS1 := Lib.hid (HS0.out.on hb1))
    go_ret2
    exact ⟨rfl, HS1.out.b⟩
  | true =>
    obtain ⟨hl, ht⟩ := lit_of_ask hk
    have HT := Lib.hid (show ∀ X, l.In X X.heap.size → Calls Tryz.prog 46 #[l.agg] X fun e w' => e = .returned (.string l.saidT) ∧ Below X.heap.size X w' from fun X hX => ht ▸ reflit_any l X hX hn hl)
    rw [hk] at HK
    unfold Lp.agg at HK HT ⊢
    generalize l.saidT = tx at *
    clear hi hn hk hl ht
    go_enter Tryz.func23, Tryz.ntmps23
    go_wp2_with (first
      | (go_at_call 46; refine (HT.out _ (HI.out _ HS1.out.b)).mono ?_; rintro e w2 ⟨rfl, hb2⟩; have HS2 := Lib.hid (HS1.out.on hb2); clear hb2)
      | (go_at_call 47; refine (HK.out _ (HI.out _ HS0.out.b)).mono ?_; rintro e w1 ⟨rfl, hb1⟩; have HS1 := Lib.hid (HS0.out.on hb1); obtain ⟨x0, x1, x2, x3, x4, x5⟩ := HS1.out.x.six; clear hb1))
    go_ret2
    exact ⟨rfl, HS2.out.b⟩

set_option maxHeartbeats 16000000 in
set_option maxRecDepth 100000 in
theorem refprint_any (k : Kp) (w : World) (hi : k.In w w.heap.size) (hn : k.Nb) :
    Calls Tryz.prog 20 #[k.agg] w fun e w' => e = .returned (if k.check then .tuple #[.string k.txt, .int .i64 0] else .tuple #[.string ⟨#[]⟩, .int .i64 1]) ∧ Below w.heap.size w w' := by
  have HS0 := Lib.hid (KS.start k w hi)
  have HK := Lib.hid (show ∀ X, k.In X X.heap.size → _ from fun X hX => refcheck_any k X hX)
  cases hk : k.check with
  | false =>
    rw [hk] at HK
    unfold Kp.agg at HK ⊢
    clear hi hn hk
    go_enter Tryz.func20, Tryz.ntmps20
    go_wp2_with (go_at_call 29; refine (HK.out _ HS0.out.a).mono ?_; rintro e w1 ⟨rfl, hb1⟩; have HS1 := Lib.hid (HS0.out.on hb1))
    go_ret2
    exact ⟨rfl, HS1.out.b⟩
  | true =>
    obtain ⟨hlen, _, hask, hbody⟩ : k.body.length ≤ 6 ∧ k.head.who.none = true ∧ k.head.ask = true ∧ ∀ l ∈ k.body, l.lit = true := by
      unfold Kp.check at hk
      simp only [Bool.and_eq_true, decide_eq_true_eq, List.all_eq_true] at hk
      exact hk
    obtain ⟨hl, ht⟩ := lit_of_ask hask
    have HH := Lib.hid (show ∀ X, k.head.In X X.heap.size → _ from fun X hX => reflit_any k.head X hX hn.head hl)
    have HB := Lib.hid (show ∀ l ∈ k.body, ∀ X, l.In X X.heap.size → _ from fun l hl' X hX => reflit_any l X hX (hn.body l hl') (hbody l hl'))
    have HZB := Lib.hid (show ∀ l ∈ k.body, l.litT.size ≤ 2000000 from fun l hl' => litT_size (hbody l hl') (short_of_lit (hbody l hl') (hn.body l hl')))
    have hz0 : k.head.litT.size ≤ 2000000 := litT_size hl (short_of_lit hl hn.head)
    have HX := Lib.hid (txt_fold k ht)
    have h40 : (⟨#[32, 58, 45, 32]⟩ : ByteArray).size = 4 := rfl
    have h32 : (⟨#[44, 32]⟩ : ByteArray).size = 2 := rfl
    have h46 : (⟨#[46]⟩ : ByteArray).size = 1 := rfl
    rw [hk] at HK
    unfold Kp.agg at HK ⊢
    unfold Lp.agg at HH HB
    generalize k.txt = ct at *
    generalize k.head.litT = hT at *
    clear hi hn hk hl ht hask hbody
    go_enter Tryz.func20, Tryz.ntmps20
    go_wp2_with (first
      | (go_at_call 46; refine (HH.out _ HS1.out.a.head).mono ?_; rintro e w2 ⟨rfl, hb2⟩; have HS2 := Lib.hid (HS1.out.on hb2); clear hb2)
      | (go_at_call 29; refine (HK.out _ HS0.out.a).mono ?_; rintro e w1 ⟨rfl, hb1⟩; have HS1 := Lib.hid (HS0.out.on hb1); obtain ⟨x0, x1, x2, x3, x4, x5, x6⟩ := HS1.out.x.seven; clear hb1))
    clear x0 x1 x2 x3 x4 x5 x6
    go_loopw [4, 5] (fun o i wr => ∃ (j : Nat) (out : ByteArray), j ≤ k.body.length ∧ o = .string out ∧ i = .int .i64 j ∧ out.size ≤ 2000000 + j * 2000004 ∧ Hid (foldX wdIfB hT 0 (k.body.map Lp.litT) = foldX wdIfB out j ((k.body.map Lp.litT).drop j)) ∧ Hid (KS k w wr)) (fun _ i _ => k.body.length - (intOf i).toNat)
    case atStart => exact ⟨0, _, Nat.zero_le _, rfl, rfl, by omega, Lib.hid rfl, HS2⟩
    case round =>
      obtain ⟨j, out, hj, rfl, rfl, hos, HF, HSR⟩ := hrel
      have x6 := HSR.out.x.cell 6 _ rfl
      by_cases hlt : j < k.body.length
      · obtain ⟨b, o, hq, hbb, e0, e1, e2, e3, e4, e5⟩ := rdL_at HSR.out.a.body.rd j hlt
        rw [hq] at x6
        clear hq
        have HFS := Lib.hid (foldX_step wdIfB out (k.body.map Lp.litT) j (by simpa using hlt))
        have HTX := Lib.hid (HB.out _ (List.getElem_mem hlt) wr (HSR.out.a.body.each _ (List.getElem_mem hlt)))
        have htz : k.body[j].litT.size ≤ 2000000 := HZB.out _ (List.getElem_mem hlt)
        have hj0 : (0 : Int) ≤ (j : Int) := by omega
        have hj1 : (j : Int) < (k.body.length : Int) := by omega
        simp only [List.getElem_map] at HFS
        have HAS := Lib.hid (addX_size wdIfB out k.body[j].litT j (by decide) (by omega))
        generalize k.body[j].litT = tt at *
        generalize k.body[j] = la at *
        by_cases hjz : j = 0
        · have hjb : ((j : Int) == 0) = true := by simp [hjz]
          have HAX := Lib.hid (show addX wdIfB out j tt = (out ++ ⟨#[32, 58, 45, 32]⟩) ++ tt by unfold addX; rw [if_pos hjz]; rfl)
          clear hjz
          go_wp2_with (go_at_call 46; refine (HTX.out).mono ?_; rintro e w5 ⟨rfl, hb5⟩; have HS5 := Lib.hid (HSR.out.on hb5); clear hb5)
          go_roundw
          case rel => exact ⟨j + 1, _, by omega, rfl, by go_num, by rw [← HAX.out]; exact Nat.le_trans HAS.out (by omega), Lib.hid (by rw [HF.out, HFS.out, HAX.out]), HS5⟩
          case measure => simp [intOf]; omega
        · have hjb : ((j : Int) == 0) = false := beq_eq_false_iff_ne.2 (by omega)
          have HAX := Lib.hid (show addX wdIfB out j tt = (out ++ ⟨#[44, 32]⟩) ++ tt by unfold addX; rw [if_neg hjz])
          clear hjz
          go_wp2_with (go_at_call 46; refine (HTX.out).mono ?_; rintro e w5 ⟨rfl, hb5⟩; have HS5 := Lib.hid (HSR.out.on hb5); clear hb5)
          go_roundw
          case rel => exact ⟨j + 1, _, by omega, rfl, by go_num, by rw [← HAX.out]; exact Nat.le_trans HAS.out (by omega), Lib.hid (by rw [HF.out, HFS.out, HAX.out]), HS5⟩
          case measure => simp [intOf]; omega
      · have HE := Lib.hid (show foldX wdIfB hT 0 (k.body.map Lp.litT) = out by rw [HF.out, foldX_end _ _ _ _ (by simp; omega)])
        clear HF
        go_wp2_with fail
        go_ret2
        exact ⟨by rw [HX.out, HE.out]; rfl, HSR.out.b⟩
end Go.Proofs.YtnjdganikeganaaGreatDoor

/-
  The walk of mandatelaw06.ClausePrints: it answers true.
-/
namespace Go.Proofs.YtnjdganikeganaaGreatDoor
open Go.RowKit

theorem Lp.Arg.kin {l : Lp} {w : World} (h : l.Arg w) : l.In w w.heap.size := h.isin
/-- a clause and a literal that came in, boxed -/
structure PS (k : Kp) (l : Lp) (w wn : World) : Prop where
  b : Below w.heap.size w wn
  x : Bk wn w.heap.size 31 #[.int .u8 k.head.kind, .string k.head.who.v, .string k.head.who.s, .int .i64 k.head.who.n, .string k.head.pred, .slice k.head.ptr k.head.args.length k.head.cap, .slice k.ptr k.body.length k.cap]
  y : Bk wn (w.heap.size + 1) 28 #[.int .u8 l.kind, .string l.who.v, .string l.who.s, .int .i64 l.who.n, .string l.pred, .slice l.ptr l.args.length l.cap]
  a : k.Arg wn
  c : l.Arg wn
  e : Env wn
theorem PS.on {k : Kp} {l : Lp} {w wn w' : World} (h : PS k l w wn) (hb : Below wn.heap.size wn w') : PS k l w w' := ⟨h.b.trans (hb.mono h.b.size), h.x.on hb, h.y.on hb, h.a.on hb, h.c.on hb, h.e.on hb⟩
theorem PS.start (k : Kp) (l : Lp) (w : World) (ha : k.Arg w) (hc : l.Arg w) (he : Env w) : PS k l w ((w.alloc (.cells #[.int .u8 k.head.kind, .string k.head.who.v, .string k.head.who.s, .int .i64 k.head.who.n, .string k.head.pred, .slice k.head.ptr k.head.args.length k.head.cap, .slice k.ptr k.body.length k.cap] 31)).alloc (.cells #[.int .u8 l.kind, .string l.who.v, .string l.who.s, .int .i64 l.who.n, .string l.pred, .slice l.ptr l.args.length l.cap] 28)) :=
  ⟨below2 w _ _, (Bk.new w _ _).on (below1 _ _), Bk.new2 w _ _ _, ha.on (below2 w _ _), hc.on (below2 w _ _), he.on (below2 w _ _)⟩
theorem print_arg (k d : Kp) (w : World) (h : d.Arg w ∧ d.q = k.q) (he : Env w) : Calls Tryz.prog 18 #[d.agg] w fun e w' => e = .returned (if k.check then .tuple #[.string k.txt, .int .i64 0] else .tuple #[.string ⟨#[]⟩, .int .i64 1]) ∧ Below w.heap.size w w' :=
  (print_any d w h.1.kin h.1.nb he).mono fun e w' ⟨h1, h2⟩ => ⟨by rw [h1, check_eq h.2, txt_eq h.2], h2⟩
theorem copyLit_arg (l : Lp) (w : World) (h : l.Arg w) : Calls Tryz.prog 22 #[.agg #[.int .u8 l.kind, .string l.who.v, .string l.who.s, .int .i64 l.who.n, .string l.pred, .slice l.ptr l.args.length l.cap]] w fun e w' => ∃ q c, Hid ((l.q.at q c).Arg w') ∧ e = .returned (.agg #[.int .u8 l.kind, .string l.who.v, .string l.who.s, .int .i64 l.who.n, .string l.pred, .slice q l.args.length c]) ∧ Below w.heap.size w w' :=
  (copyLit_any l w h.isin.args (Nat.le_trans h.sz (by decide))).mono fun e w' ⟨q, c, h1, h2, _, h4⟩ => ⟨q, c, Lib.hid (lit_arg h rfl h2), h1, h4⟩
theorem printLit_arg (l : Lp) (q : Option Addr) (c : Nat) (w : World) (h : (l.q.at q c).Arg w) (he : Env w) : Calls Tryz.prog 21 #[.agg #[.int .u8 l.kind, .string l.who.v, .string l.who.s, .int .i64 l.who.n, .string l.pred, .slice q l.args.length c]] w fun e w' => e = .returned (if l.ask then .tuple #[.string l.saidT, .int .i64 0] else .tuple #[.string ⟨#[]⟩, .int .i64 1]) ∧ Below w.heap.size w w' :=
  printLit_any (l.q.at q c) w h.isin h.nb he

set_option maxHeartbeats 16000000 in
set_option maxRecDepth 100000 in
theorem prints_walk (k : Kp) (l : Lp) (w : World) (he : Env w) (ha : k.Arg w) (hc : l.Arg w) :
    Calls Tryz.prog 5 #[k.agg, l.agg] w fun e w' => e = .returned (.bool true) ∧ Below w.heap.size w w' := by
  have HS0 := Lib.hid (PS.start k l w ha hc he)
  have HF := Lib.hid (show ∀ wx, Env wx → _ from fun wx hx => fixed_any wx hx)
  have HCP := Lib.hid (show ∀ wx, k.Arg wx → _ from fun wx hx => copy_arg k wx hx)
  have HCK := Lib.hid (show ∀ wx d, d.Arg wx ∧ d.q = k.q → Env wx → _ from fun wx d h1 h2 => check_arg k d wx h1 h2)
  have HPR := Lib.hid (show ∀ wx d, d.Arg wx ∧ d.q = k.q → Env wx → _ from fun wx d h1 h2 => print_arg k d wx h1 h2)
  have HRP := Lib.hid (show ∀ wx, k.Arg wx → _ from fun wx hx => refprint_any k wx hx.kin hx.nb)
  have HCL := Lib.hid (show ∀ wx, l.Arg wx → _ from fun wx hx => copyLit_arg l wx hx)
  have HPL := Lib.hid (show ∀ wx q c, (l.q.at q c).Arg wx → Env wx → _ from fun wx q c h1 h2 => printLit_arg l q c wx h1 h2)
  have HRL := Lib.hid (show ∀ wx, l.Arg wx → _ from fun wx hx => refprintLit_any l wx hx.isin hx.nb)
  have HKL := Lib.hid (show ∀ wx, l.Arg wx → Env wx → _ from fun wx hx h2 => checkLit_any l wx hx.isin h2)
  unfold Kp.agg at HCP HCK HPR HRP ⊢
  unfold Lp.agg at HRL HKL ⊢
  generalize k.txt = tx at *
  generalize l.saidT = ty at *
  generalize k.check = ck at *
  generalize l.ask = ak at *
  clear ha hc he
  cases ck <;> cases ak
  all_goals simp only [Bool.false_eq_true, if_false, if_true] at HPR HRP HPL HRL
  all_goals
    go_enter Tryz.func5, Tryz.ntmps5
    go_wp2_with (first
      | (go_at_call 25; refine (HKL.out _ HS9.out.c HS9.out.e).mono ?_; rintro e w10 ⟨rfl, hb10⟩; have HS10 := Lib.hid (HS9.out.on hb10); clear hb10)
      | (go_at_call 24; refine (HCK.out _ d8 (Hid.out HD8) HS8.out.e).mono ?_; rintro e w9 ⟨rfl, hb9⟩; have HS9 := Lib.hid (HS8.out.on hb9); obtain ⟨p0, p1, p2, p3, p4, p5⟩ := HS9.out.y.six; clear hb9)
      | (go_at_call 19; refine (HCP.out _ HS7.out.a).mono ?_; rintro e w8 ⟨d8, HD8, rfl, hb8⟩; have HS8 := Lib.hid (HS7.out.on hb8); clear hb8)
      | (go_at_call 13; refine (HF.out _ HS6.out.e).mono ?_; rintro e w7 ⟨rfl, hb7⟩; have HS7 := Lib.hid (HS6.out.on hb7); obtain ⟨n0, n1, n2, n3, n4, n5, n6⟩ := HS7.out.x.seven; clear hb7)
      | (go_at_call 23; refine (HRL.out _ HS5.out.c).mono ?_; rintro e w6 ⟨rfl, hb6⟩; have HS6 := Lib.hid (HS5.out.on hb6); clear hb6)
      | (go_at_call 21; refine (HPL.out _ q4 c4 (Hid.out HA4) HS4.out.e).mono ?_; rintro e w5 ⟨rfl, hb5⟩; have HS5 := Lib.hid (HS4.out.on hb5); obtain ⟨m0, m1, m2, m3, m4, m5⟩ := HS5.out.y.six; clear hb5)
      | (go_at_call 22; refine (HCL.out _ HS3.out.c).mono ?_; rintro e w4 ⟨q4, c4, HA4, rfl, hb4⟩; have HS4 := Lib.hid (HS3.out.on hb4); clear hb4)
      | (go_at_call 20; refine (HRP.out _ HS2.out.a).mono ?_; rintro e w3 ⟨rfl, hb3⟩; have HS3 := Lib.hid (HS2.out.on hb3); obtain ⟨z0, z1, z2, z3, z4, z5⟩ := HS3.out.y.six; clear hb3)
      | (go_at_call 18; refine (HPR.out _ d1 (Hid.out HD1) HS1.out.e).mono ?_; rintro e w2 ⟨rfl, hb2⟩; have HS2 := Lib.hid (HS1.out.on hb2); obtain ⟨y0, y1, y2, y3, y4, y5, y6⟩ := HS2.out.x.seven; clear hb2)
      | (go_at_call 19; refine (HCP.out _ HS0.out.a).mono ?_; rintro e w1 ⟨d1, HD1, rfl, hb1⟩; have HS1 := Lib.hid (HS0.out.on hb1); clear hb1))
    go_ret
    exact ⟨rfl, HS10.out.b⟩
end Go.Proofs.YtnjdganikeganaaGreatDoor
