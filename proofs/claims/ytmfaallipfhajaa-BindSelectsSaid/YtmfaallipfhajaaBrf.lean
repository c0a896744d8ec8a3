/-
  Contracts: bind.Fill at no atom, whole; the reference's Fill.
-/
import Derived.Test.YtmfaallipfhajaaBrm
namespace Go.Proofs.Ytmfaallipfhajaa
open Go.RowKit

set_option maxHeartbeats 4000000 in
set_option maxRecDepth 100000 in
theorem fill_no (k : Int) (p : ByteArray) (qa qb : Option Addr) (na nb ca cb : Nat) (w : World) (ha : atomB k = false) :
    Calls Try.prog 13 #[.agg #[.int .u8 k, .string p, .slice qa na ca], .slice qb nb cb] w fun e w' => e = .returned (.tuple #[.agg #[.string ⟨#[]⟩, .slice none 0 0], .bool false]) ∧ Below w.heap.size w w' := by
  have HB := Lib.hid (show ∀ o1 o2 o3, Below w.heap.size w (((w.alloc o1).alloc o2).alloc o3) from fun o1 o2 o3 => below3 w o1 o2 o3)
  go_enter Try.func13, Try.ntmps13
  go_wp2_with fail
  refine (atom_any _ _ _ _ _ _).mono ?_
  rintro e w1 ⟨rfl, hb1⟩
  have HB1 := Lib.hid (show Below w.heap.size w w1 from (HB.out _ _ _).trans (hb1.mono (HB.out _ _ _).size))
  have c4 : w1.cell? ⟨w.heap.size + 1 + 1, 0, none⟩ = some (.string ⟨#[]⟩) := by rw [hb1.cell (p := ⟨w.heap.size + 1 + 1, 0, none⟩) (by simp)]; simp [go_sem]
  have c5 : w1.cell? ⟨w.heap.size + 1 + 1, 1, none⟩ = some (.slice none 0 0) := by rw [hb1.cell (p := ⟨w.heap.size + 1 + 1, 1, none⟩) (by simp)]; simp [go_sem]
  have f4 : w1.frozen? ⟨w.heap.size + 1 + 1, 0, none⟩ = false := by rw [hb1.frozen (p := ⟨w.heap.size + 1 + 1, 0, none⟩) (by simp)]; simp [go_sem]
  have f5 : w1.frozen? ⟨w.heap.size + 1 + 1, 1, none⟩ = false := by rw [hb1.frozen (p := ⟨w.heap.size + 1 + 1, 1, none⟩) (by simp)]; simp [go_sem]
  clear hb1 HB
  generalize hhs : w.heap.size = hs at *
  have HH := Lib.hid hhs
  clear hhs
  go_wp2_with fail
  refine bodyPost_ret (v := .tuple #[.agg #[.string ⟨#[]⟩, .slice none 0 0], .bool false]) ?_ rfl ?_
  · obtain ⟨_, L1, L2⟩ := load2 (w := w1) (b := hs + 1 + 1) (o := 0) c4 c5 (.string ⟨#[]⟩) (.slice none 0 0)
    have L1' : ((w1.setCell ⟨hs + 1 + 1, 0, none⟩ (.string ⟨#[]⟩)).setCell ⟨hs + 1 + 1, 1, none⟩ (.slice none 0 0)).cell? ⟨hs + 1 + 1, 0, none⟩ = some (.string ⟨#[]⟩) := L1
    have L2' : ((w1.setCell ⟨hs + 1 + 1, 0, none⟩ (.string ⟨#[]⟩)).setCell ⟨hs + 1 + 1, 1, none⟩ (.slice none 0 0)).cell? ⟨hs + 1 + 1, 1, none⟩ = some (.slice none 0 0) := L2
    simp [results, Try.results13, go_sem, L1', L2']
  refine ⟨rfl, ?_⟩
  rw [HH.out]
  exact HB1.out.trans (set2 (B := hs) (b := hs + 1 + 1) (by omega) 0 _ _)

def fillF (k : Int) (args b : List Tm) : Option (List Vl) := if atomB k then fillS args b else none
theorem fill_any (k : Int) (p : ByteArray) (qa qb : Option Addr) (args b : List Tm) (ca cb : Nat) (w : World) (h1 : Tms w w.heap.size qa args) (h3 : Tms w w.heap.size qb b)
    (hla : args.length ≤ 100000) (hlb : b.length ≤ maxLen) :
    Calls Try.prog 13 #[.agg #[.int .u8 k, .string p, .slice qa args.length ca], .slice qb b.length cb] w (FillPost (fillF k args b) p w) := by
  unfold fillF
  cases ha : atomB k with
  | true => exact fill_yes k p qa qb args b ca cb w h1 h3 hla hlb ha
  | false => exact fill_no k p qa qb _ _ ca cb w ha

structure GInv (w1 : World) (m : Nat) (p : ByteArray) (args b : List Tm) (k : Nat) (v : Value) (acc : List Vl) (wr : World) : Prop where
  eq : fillS args b = (fillS (args.drop k) b).map (acc ++ ·)
  len : acc.length = k
  bel : Below m w1 wr
  p0 : wr.cell? ⟨m, 0, none⟩ = some (.string p)
  a1 : wr.cell? ⟨m, 1, none⟩ = some v
  fz : wr.frozen? ⟨m, 1, none⟩ = false
  grw : wr.ownsRow (m + 1) 46 2 v acc.length (flatE encV acc)
  size : m + 1 ≤ wr.heap.size
theorem GInv.on {w1 : World} {m : Nat} {p : ByteArray} {args b : List Tm} {k : Nat} {v : Value} {acc : List Vl} {wr w' : World} (h : GInv w1 m p args b k v acc wr) (hb : Below wr.heap.size wr w') : GInv w1 m p args b k v acc w' := by
  have hz := h.size
  refine ⟨h.eq, h.len, h.bel.trans (hb.mono (by omega)), ?_, ?_, ?_, owns_on h.grw hb (Nat.le_refl _), Nat.le_trans h.size hb.size⟩
  · rw [hb.cell (p := ⟨m, 0, none⟩) (by show m < _; omega)]; exact h.p0
  · rw [hb.cell (p := ⟨m, 1, none⟩) (by show m < _; omega)]; exact h.a1
  · rw [hb.frozen (p := ⟨m, 1, none⟩) (by show m < _; omega)]; exact h.fz
theorem GInv.push {w1 : World} {m : Nat} {p : ByteArray} {args b : List Tm} {k : Nat} {v : Value} {acc : List Vl} {wr w' : World} (h : GInv w1 m p args b k v acc wr) (h1 : k < args.length) {u : Vl} (hu : look b args[k] = some u) {g cap : Nat} (ho : w'.ownsRow (m + 1) 46 2 (.slice (some ⟨g, 0, none⟩) (acc.length + 1) cap) (acc.length + 1) (flatE encV acc ++ encV u)) (hb : Below (m + 1) wr w') :
    GInv w1 m p args b (k + 1) (.slice (some ⟨g, 0, none⟩) (acc.length + 1) cap) (acc ++ [u]) (w'.setCell ⟨m, 1, none⟩ (.slice (some ⟨g, 0, none⟩) (acc.length + 1) cap)) := by
  have hm : w'.cell? ⟨m, 1, none⟩ = some v := by rw [hb.cell (p := ⟨m, 1, none⟩) (by show m < _; omega)]; exact h.a1
  refine ⟨?_, by simp [h.len], (h.bel.trans (hb.mono (by omega))).setCell (p := ⟨m, 1, none⟩) (Nat.le_refl _) _, ?_, World.cell?_setCell_same _ _ _ hm, ?_, ?_, by rw [World.size_setCell]; exact Nat.le_trans h.size hb.size⟩
  · rw [h.eq, fillS_step _ _ k h1, hu]
    simp only [Option.map_map]
    congr 1
    funext L
    simp
  · rw [World.cell?_setCell_other _ _ _ _ (by intro e; injection e with _ e _; omega), hb.cell (p := ⟨m, 0, none⟩) (by show m < _; omega)]; exact h.p0
  · have : w'.frozen? ⟨m, 1, none⟩ = false := by rw [hb.frozen (p := ⟨m, 1, none⟩) (by show m < _; omega)]; exact h.fz
    simpa [go_sem] using this
  · have e : (acc ++ [u]).length = acc.length + 1 := by simp
    rw [e, flatE_snoc]
    exact ownsRow_setCell_below ho (a := ⟨m, 1, none⟩) (by show m < _; omega) _

set_option maxHeartbeats 8000000 in
set_option maxRecDepth 100000 in
theorem reffill_yes (k : Int) (p : ByteArray) (qa qb : Option Addr) (args b : List Tm) (ca cb : Nat) (w : World) (h1 : Tms w w.heap.size qa args) (h3 : Tms w w.heap.size qb b) (hsz : SzM args)
    (hla : args.length ≤ 100000) (hlb : b.length ≤ maxLen) (ha : k = 1 ∨ k = 2) :
    Calls Try.prog 14 #[.agg #[.int .u8 k, .string p, .slice qa args.length ca], .slice qb b.length cb] w (FillPost (fillS args b) p w) := by
  have HB := Lib.hid (below2 w (.cells #[.int .u8 k, .string p, .slice qa args.length ca] 24) (.cells #[.string ⟨#[]⟩, .slice none 0 0] 27))
  have hq : (k != 1) = false ∨ ((k != 1) = true ∧ (k != 2) = false) := by rcases ha with rfl | rfl <;> simp
  have HSZ := Lib.hid hsz
  have c2 : ((w.alloc (.cells #[.int .u8 k, .string p, .slice qa args.length ca] 24)).alloc (.cells #[.string ⟨#[]⟩, .slice none 0 0] 27)).cell? ⟨w.heap.size, 2, none⟩ = some (.slice qa args.length ca) := by simp [go_sem]
  have c4 : ((w.alloc (.cells #[.int .u8 k, .string p, .slice qa args.length ca] 24)).alloc (.cells #[.string ⟨#[]⟩, .slice none 0 0] 27)).cell? ⟨w.heap.size + 1, 0, none⟩ = some (.string ⟨#[]⟩) := by simp [go_sem]
  have c5 : ((w.alloc (.cells #[.int .u8 k, .string p, .slice qa args.length ca] 24)).alloc (.cells #[.string ⟨#[]⟩, .slice none 0 0] 27)).cell? ⟨w.heap.size + 1, 1, none⟩ = some (.slice none 0 0) := by simp [go_sem]
  have f4 : ((w.alloc (.cells #[.int .u8 k, .string p, .slice qa args.length ca] 24)).alloc (.cells #[.string ⟨#[]⟩, .slice none 0 0] 27)).frozen? ⟨w.heap.size + 1, 0, none⟩ = false := by simp [go_sem]
  have f5 : ((w.alloc (.cells #[.int .u8 k, .string p, .slice qa args.length ca] 24)).alloc (.cells #[.string ⟨#[]⟩, .slice none 0 0] 27)).frozen? ⟨w.heap.size + 1, 1, none⟩ = false := by simp [go_sem]
  have z1 : w.heap.size < ((w.alloc (.cells #[.int .u8 k, .string p, .slice qa args.length ca] 24)).alloc (.cells #[.string ⟨#[]⟩, .slice none 0 0] 27)).heap.size := by simp; omega
  have z2 : w.heap.size + 1 < ((w.alloc (.cells #[.int .u8 k, .string p, .slice qa args.length ca] 24)).alloc (.cells #[.string ⟨#[]⟩, .slice none 0 0] 27)).heap.size := by simp
  have hWs : ((w.alloc (.cells #[.int .u8 k, .string p, .slice qa args.length ca] 24)).alloc (.cells #[.string ⟨#[]⟩, .slice none 0 0] 27)).heap.size = w.heap.size + 1 + 1 := by simp
  have HA := Lib.hid (h1.grow HB.out)
  have HT := Lib.hid (h3.grow HB.out)
  have HI := Lib.hid (show GInv ((w.alloc (.cells #[.int .u8 k, .string p, .slice qa args.length ca] 24)).alloc (.cells #[.string ⟨#[]⟩, .slice none 0 0] 27)) (w.heap.size + 1 + 1) p args b 0 (.slice none 0 0) [] (((w.alloc (.cells #[.int .u8 k, .string p, .slice qa args.length ca] 24)).alloc (.cells #[.string ⟨#[]⟩, .slice none 0 0] 27)).alloc (.cells #[.string p, .slice none 0 0] 27)) from
    ⟨by show fillS args b = (fillS args b).map _; cases fillS args b <;> rfl, rfl, (below1 _ _).mono (Nat.le_of_eq hWs.symm), by simp [go_sem], by simp [go_sem], by simp [go_sem], World.ownsRow_nil _ _ _ _, by simp⟩)
  have C2 := Lib.hid c2
  have C4 := Lib.hid c4
  have C5 := Lib.hid c5
  have F4 := Lib.hid f4
  have F5 := Lib.hid f5
  have Z1 := Lib.hid z1
  have Z2 := Lib.hid z2
  have HWS := Lib.hid hWs
  clear h1 h3 hsz c2 c4 c5 f4 f5 z1 z2 ha hWs
  rcases hq with hq1 | ⟨hq1, hq2⟩
  all_goals
    go_enter Try.func14, Try.ntmps14
    go_wp2_with fail
    generalize ((w.alloc (.cells #[.int .u8 k, .string p, .slice qa args.length ca] 24)).alloc (.cells #[.string ⟨#[]⟩, .slice none 0 0] 27)).alloc (.cells #[.string p, .slice none 0 0] 27) = W3 at *
    generalize (w.alloc (.cells #[.int .u8 k, .string p, .slice qa args.length ca] 24)).alloc (.cells #[.string ⟨#[]⟩, .slice none 0 0] 27) = W1 at *
    generalize hhs : w.heap.size = hs at *
    have HH := Lib.hid hhs
    clear hhs
    go_loopw [7] (fun i wr => ∃ (k : Nat) (acc : List Vl) (v : Value), k ≤ args.length ∧ i = .int .i64 k ∧ GInv W1 (hs + 1 + 1) p args b k v acc wr) (fun i _ => args.length - (intOf i).toNat)
    case atStart => exact ⟨0, [], _, Nat.zero_le _, rfl, HI.out⟩
    case round =>
      obtain ⟨k', acc, v, hk, rfl, hi⟩ := hrel
      have HIN := Lib.hid hi
      have hal := Nat.le_of_eq hi.len
      have hms := hi.size
      have hbW : Below W1.heap.size W1 wr := hi.bel.mono (Nat.le_of_eq HWS.out)
      have r2 : wr.cell? ⟨hs, 2, none⟩ = some (.slice qa args.length ca) := (hbW.cell (p := ⟨hs, 2, none⟩) Z1.out).trans C2.out
      have r4 : wr.cell? ⟨hs + 1, 0, none⟩ = some (.string ⟨#[]⟩) := (hbW.cell (p := ⟨hs + 1, 0, none⟩) Z2.out).trans C4.out
      have r5 : wr.cell? ⟨hs + 1, 1, none⟩ = some (.slice none 0 0) := (hbW.cell (p := ⟨hs + 1, 1, none⟩) Z2.out).trans C5.out
      have g4 : wr.frozen? ⟨hs + 1, 0, none⟩ = false := (hbW.frozen (p := ⟨hs + 1, 0, none⟩) Z2.out).trans F4.out
      have g5 : wr.frozen? ⟨hs + 1, 1, none⟩ = false := (hbW.frozen (p := ⟨hs + 1, 1, none⟩) Z2.out).trans F5.out
      have HBW := Lib.hid hbW
      have hzz := HWS.out
      have hz1 : hs + 1 < wr.heap.size := by omega
      have HZZ := Lib.hid hzz
      clear hi hbW hzz
      by_cases hlt : k' < args.length
      · obtain ⟨q, c, rfl, hrd, hqn⟩ := grw_form EV (.inr HIN.out.grw) HIN.out.size
        clear hrd hqn
        obtain ⟨ab, ao, rfl, hab, x0, x1, x2⟩ := rdM_at (HA.out.below HBW.out (Nat.le_refl _)) k' hlt
        have HSK := Lib.hid (HSZ.out k' hlt).1
        have HTR := Lib.hid (((HT.out.below HBW.out (Nat.le_refl _)).mono HBW.out.size) : Tms wr wr.heap.size qb b)
        have hkn : (0 : Int) ≤ (k' : Int) := by omega
        have hka : (k' : Int) < (args.length : Int) := by omega
        cases hlk : look b args[k'] with
        | some u =>
          have HF := Lib.hid (refvalue_any args[k'] qb b cb wr HTR.out hlb HSK.out u true (by rw [hlk]; rfl))
          have HLK := Lib.hid hlk
          clear hlk
          go_wp2_with fail
          refine HF.out.mono ?_
          rintro e w2 ⟨rfl, hb2⟩
          have HI2 := Lib.hid (HIN.out.on hb2)
          have s2 := HI2.out.size
          have e6 := HI2.out.a1
          have e7 := HI2.out.fz
          obtain ⟨i0, hi, hz0, hz1, hzb⟩ := info_parts infoValue
          have HM1 := Lib.hid (show acc.length + 1 ≤ maxLen by unfold maxLen; omega)
          have HM2 := Lib.hid (show (acc.length + 1) * 24 ≤ 140737488355328 by omega)
          have HI3 := Lib.hid (fun (o1 o2 : Obj) => HI2.out.on (below2 w2 o1 o2))
          have hz4 : hs + 1 + 1 < w2.heap.size := by omega
          clear hb2
          go_wp2_with (at_builtin; refine wpList_append_grw rfl _ _ 25 rfl (hs + 1 + 1 + 1) 46 i0 _ 2 24 underV hi hz0 hz1 hzb rfl (by omega) _ acc.length (flatE encV acc) (by rfl) (.inr (HI3.out _ _).grw) ⟨w2.heap.size + 1, 0, none⟩ 1 1 (encV u) (by rfl) (by rfl) (news_alloc2 _ _ _ _) (EV.one _) (by omega) HM1.out HM2.out (HI3.out _ _).size ?_; intro g cap w5 ho hb5 hge hlt5; have q0 := (hb5.cell (p := ⟨hs + 1 + 1, 1, none⟩) (by show hs + 1 + 1 < _; omega)).trans (HI3.out _ _).a1; have q1 := (hb5.frozen (p := ⟨hs + 1 + 1, 1, none⟩) (by show hs + 1 + 1 < _; omega)).trans (HI3.out _ _).fz)
          go_wp2_with fail
          refine ⟨⟨k' + 1, acc ++ [u], _, by omega, by go_num, (HI3.out _ _).push hlt HLK.out ho hb5⟩, by simp [intOf]; omega⟩
        | none =>
          have HF := Lib.hid (refvalue_any args[k'] qb b cb wr HTR.out hlb HSK.out (⟨#[]⟩, 0) false (by rw [hlk]; rfl))
          have HR := Lib.hid (show fillS args b = none by rw [HIN.out.eq, fillS_step _ _ k' hlt, hlk]; rfl)
          clear hlk
          go_wp2_with fail
          refine HF.out.mono ?_
          rintro e w2 ⟨rfl, hb2⟩
          have HB2 := Lib.hid hb2
          have s4 := (hb2.cell (p := ⟨hs + 1, 0, none⟩) hz1).trans r4
          have s5 := (hb2.cell (p := ⟨hs + 1, 1, none⟩) hz1).trans r5
          have t4 := (hb2.frozen (p := ⟨hs + 1, 0, none⟩) hz1).trans g4
          have t5 := (hb2.frozen (p := ⟨hs + 1, 1, none⟩) hz1).trans g5
          have hz4 : hs + 1 < w2.heap.size := Nat.lt_of_lt_of_le hz1 hb2.size
          clear hb2
          go_wp2_with fail
          obtain ⟨_, L1, L2⟩ := load2 (w := w2) (b := hs + 1) (o := 0) s4 s5 (.string ⟨#[]⟩) (.slice none 0 0)
          refine bodyPost_ret (v := .tuple #[.agg #[.string ⟨#[]⟩, .slice none 0 0], .bool false]) ?_ rfl ?_
          · have L1' : ((w2.setCell ⟨hs + 1, 0, none⟩ (.string ⟨#[]⟩)).setCell ⟨hs + 1, 1, none⟩ (.slice none 0 0)).cell? ⟨hs + 1, 0, none⟩ = some (.string ⟨#[]⟩) := L1
            have L2' : ((w2.setCell ⟨hs + 1, 0, none⟩ (.string ⟨#[]⟩)).setCell ⟨hs + 1, 1, none⟩ (.slice none 0 0)).cell? ⟨hs + 1, 1, none⟩ = some (.slice none 0 0) := L2
            simp [results, Try.results14, go_sem, L1', L2', hz4]
          rw [HR.out]
          refine ⟨rfl, ?_⟩
          rw [HH.out]
          exact HB.out.trans (((HBW.out.trans (HB2.out.mono HBW.out.size)).mono (Nat.le_of_lt Z1.out)).trans ((set2 (B := hs) (b := hs + 1) (by omega) 0 _ _).alloc (by simp only [World.size_setCell]; omega) _))
      · obtain ⟨q, c, rfl, hrd, hqn⟩ := grw_form EV (.inr HIN.out.grw) HIN.out.size
        clear hrd hqn
        have e5 := HIN.out.p0
        have e6 := HIN.out.a1
        have HR := Lib.hid (show fillS args b = some acc by rw [HIN.out.eq, List.drop_eq_nil_of_le (by omega)]; simp [fillS])
        have hz4 : hs + 1 + 1 < wr.heap.size := by omega
        go_wp2_with fail
        obtain ⟨_, L1, L2⟩ := load2 (w := wr) (b := hs + 1) (o := 0) r4 r5 (.string p) (.slice q acc.length c)
        refine bodyPost_ret (v := .tuple #[.agg #[.string p, .slice q acc.length c], .bool true]) ?_ rfl ?_
        · have L1' : ((wr.setCell ⟨hs + 1, 0, none⟩ (.string p)).setCell ⟨hs + 1, 1, none⟩ (.slice q acc.length c)).cell? ⟨hs + 1, 0, none⟩ = some (.string p) := L1
          have L2' : ((wr.setCell ⟨hs + 1, 0, none⟩ (.string p)).setCell ⟨hs + 1, 1, none⟩ (.slice q acc.length c)).cell? ⟨hs + 1, 1, none⟩ = some (.slice q acc.length c) := L2
          simp [results, Try.results14, go_sem, L1', L2']
        rw [HR.out]
        refine ⟨_, rfl, ?_, ?_⟩
        · exact made_of_owns EV (ownsRow_setCell_below (ownsRow_setCell_below HIN.out.grw (a := ⟨hs + 1, 0, none⟩) (by show hs + 1 < _; omega) (.string p)) (a := ⟨hs + 1, 1, none⟩) (by show hs + 1 < _; omega) (.slice q acc.length c))
        · rw [HH.out]
          exact HB.out.trans ((HBW.out.mono (Nat.le_of_lt Z1.out)).trans (set2 (B := hs) (b := hs + 1) (by omega) 0 _ _))
end Go.Proofs.Ytmfaallipfhajaa
