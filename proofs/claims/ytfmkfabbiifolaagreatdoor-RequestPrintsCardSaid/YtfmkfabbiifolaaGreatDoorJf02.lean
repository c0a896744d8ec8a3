/-
  Joined of: RprC, RckC.
-/
import Derived.Test.YtfmkfabbiifolaaGreatDoorJf01
import Derived.Deep.CutBlock
import Derived.Test.YtfmkfabbiifolaaGreatDoorJe05
import Derived.Test.YtfmkfabbiifolaaGreatDoorJa14
set_option linter.unusedVariables false
set_option linter.unusedSimpArgs false
/-
  Contract: the reference's LitText of what is no comparison.
-/
namespace Go.Proofs.YtfmkfabbiifolaaGreatDoor
open Go.RowKit

theorem addX_size (f o x : ByteArray) (j : Nat) (hf : f.size ≤ 4) (hx : x.size ≤ 2000000) : (addX f o j x).size ≤ o.size + 2000004 := by
  unfold addX
  rw [ByteArray.size_append, ByteArray.size_append]
  split
  · omega
  · have : (⟨#[44, 32]⟩ : ByteArray).size = 2 := rfl
    omega
theorem pre_eq (l : Lp) : l.pre = (if l.kind = 2 then wdNotB else ⟨#[]⟩) ++ (if l.who.none then l.pred else (l.who.txt ++ wdSaid) ++ l.pred) := rfl

set_option maxHeartbeats 16000000 in
set_option maxRecDepth 100000 in
theorem reflit_said00 (l : Lp) (w : World) (hi : l.In w w.heap.size) (hn : l.Nb) (hs : l.Short) (hp : l.pred.size ≤ 1000) (h3 : l.kind ≠ 3) (h4 : l.kind ≠ 4) (hk2 : ¬ l.kind = 2) (hno : l.who.none = false) :
    Calls Tryz.prog 73 #[l.agg] w fun e w' => e = .returned (.string l.litT) ∧ Below w.heap.size w w' := by
  have HS0 := Lib.hid (LS.start l w hi.args)
  have HR := Lib.hid (lit_fold l h3 h4)
  have HO := Lib.hid (show ∀ X, _ from fun X => refown_any l.who X)
  have HW := Lib.hid (show ∀ X, _ from fun X => reftermText_any l.who X hi.who hn.who)
  have HT := Lib.hid (show ∀ t ∈ l.args, ∀ X, _ from fun t ht X => reftermText_any t X (hi.sz t ht) (hn.args t ht))
  have HTS := Lib.hid hs.args
  have hwt := hs.who
  have hlen : l.args.length ≤ 1000 := hs.len
  have hk3 : (l.kind == 3) = false := beq_eq_false_iff_ne.2 h3
  have hk4 : (l.kind == 4) = false := beq_eq_false_iff_ne.2 h4
  have HP := Lib.hid (pre_eq l)
  have h40 : (⟨#[40]⟩ : ByteArray).size = 1 := rfl
  have h32 : (⟨#[44, 32]⟩ : ByteArray).size = 2 := rfl
  have h41 : (⟨#[41]⟩ : ByteArray).size = 1 := rfl
  have hnt : (⟨#[110, 111, 116, 32]⟩ : ByteArray).size = 4 := rfl
  have hsy : (⟨#[32, 115, 97, 121, 115, 32]⟩ : ByteArray).size = 6 := rfl
  have hz : (⟨#[]⟩ : ByteArray).size = 0 := rfl
  have h2b : (l.kind == 2) = false := beq_eq_false_iff_ne.2 hk2
  rw [hno] at HO HP
  have hwt : l.who.none = false → l.who.txt.size ≤ 1000 := hwt
  rw [hno] at hwt
  clear hno
  generalize l.litT = T at *
  generalize l.who.txt = wt at *
  unfold Lp.agg
  clear hi hn hs h3 h4
  generalize hpre : l.pre = OC at *
  clear hpre
  have hwt := hwt rfl
  have HC := Lib.hid (show OC = (((⟨#[]⟩ : ByteArray) ++ (wt ++ ⟨#[32, 115, 97, 121, 115, 32]⟩)) ++ l.pred) by rw [HP.out, if_neg hk2]; exact ba_ext (by simp [dl_append, wdNotB, wdSaid]))
  have HZ := Lib.hid (show (((⟨#[]⟩ : ByteArray) ++ (wt ++ ⟨#[32, 115, 97, 121, 115, 32]⟩)) ++ l.pred).size ≤ 5000 + 0 * 2000004 by simp only [ByteArray.size_append]; omega)
  clear HP hk2
  go_enter Tryz.func73, Tryz.ntmps73
  go_upto_block 0 with (first
    | (go_at_call 102; refine (HW.out _).mono ?_; rintro e w2 ⟨rfl, hb2⟩; have HS2 := Lib.hid (HS1.out.on hb2); obtain ⟨y0, y1, y2, y3, y4, y5⟩ := HS2.out.x.six; clear hb2)
    | (go_at_call 100; refine (HO.out _).mono ?_; rintro e w1 ⟨rfl, hb1⟩; have HS1 := Lib.hid (HS0.out.on hb1); obtain ⟨x0, x1, x2, x3, x4, x5⟩ := HS1.out.x.six; clear hb1))
  have HSX := HS2
  clear x0 x1 x2 x3 x4 x5
  clear y0 y1 y2 y3 y4 y5
  go_wp2_with fail
  go_loopw [3, 4] (fun o i wr => ∃ (j : Nat) (out : ByteArray), j ≤ l.args.length ∧ o = .string out ∧ i = .int .i64 j ∧ out.size ≤ 5000 + j * 2000004 ∧ Hid (foldX ⟨#[40]⟩ OC 0 (l.args.map Tm.txt) = foldX ⟨#[40]⟩ out j ((l.args.map Tm.txt).drop j)) ∧ Hid (LS l w wr)) (fun _ i _ => l.args.length - (intOf i).toNat)
  case atStart => exact ⟨0, _, Nat.zero_le _, rfl, rfl, HZ.out, Lib.hid (by rw [HC.out]; rfl), HSX⟩
  case round =>
    obtain ⟨j, out, hj, rfl, rfl, hos, HF, HSR⟩ := hrel
    have x5 := HSR.out.x.cell 5 _ rfl
    by_cases hlt : j < l.args.length
    · obtain ⟨b, o, hq, hbb, e0, e1, e2⟩ := rdM_at HSR.out.a j hlt
      rw [hq] at x5
      clear hq
      have HFS := Lib.hid (foldX_step ⟨#[40]⟩ out (l.args.map Tm.txt) j (by simpa using hlt))
      have HTX := Lib.hid (HT.out _ (List.getElem_mem hlt) wr)
      have htz : l.args[j].txt.size ≤ 1000 := HTS.out _ (List.getElem_mem hlt)
      have hj0 : (0 : Int) ≤ (j : Int) := by omega
      have hj1 : (j : Int) < (l.args.length : Int) := by omega
      simp only [List.getElem_map] at HFS
      have HAS := Lib.hid (addX_size ⟨#[40]⟩ out l.args[j].txt j (by decide) (by omega))
      generalize l.args[j].txt = tt at *
      generalize l.args[j] = tm at *
      by_cases hjz : j = 0
      · have hjb : ((j : Int) == 0) = true := by simp [hjz]
        have HAX := Lib.hid (show addX ⟨#[40]⟩ out j tt = (out ++ ⟨#[40]⟩) ++ tt by unfold addX; rw [if_pos hjz])
        clear hjz
        go_wp2_with (go_at_call 102; refine (HTX.out).mono ?_; rintro e w5 ⟨rfl, hb5⟩; have HS5 := Lib.hid (HSR.out.on hb5); clear hb5)
        go_roundw
        case rel => exact ⟨j + 1, _, by omega, rfl, by go_num, by rw [← HAX.out]; exact Nat.le_trans HAS.out (by omega), Lib.hid (by rw [HF.out, HFS.out, HAX.out]), HS5⟩
        case measure => simp [intOf]; omega
      · have hjb : ((j : Int) == 0) = false := beq_eq_false_iff_ne.2 (by omega)
        have HAX := Lib.hid (show addX ⟨#[40]⟩ out j tt = (out ++ ⟨#[44, 32]⟩) ++ tt by unfold addX; rw [if_neg hjz])
        clear hjz
        go_wp2_with (go_at_call 102; refine (HTX.out).mono ?_; rintro e w5 ⟨rfl, hb5⟩; have HS5 := Lib.hid (HSR.out.on hb5); clear hb5)
        go_roundw
        case rel => exact ⟨j + 1, _, by omega, rfl, by go_num, by rw [← HAX.out]; exact Nat.le_trans HAS.out (by omega), Lib.hid (by rw [HF.out, HFS.out, HAX.out]), HS5⟩
        case measure => simp [intOf]; omega
    · have HE := Lib.hid (show foldX ⟨#[40]⟩ OC 0 (l.args.map Tm.txt) = out by rw [HF.out, foldX_end _ _ _ _ (by simp; omega)])
      clear HF
      by_cases hl0 : l.args.length = 0
      · have hlp : ¬ (0 : Int) < (l.args.length : Int) := by omega
        have HRE := Lib.hid (HR.out.trans (if_pos hl0))
        clear hl0
        go_wp2_with fail
        go_ret
        exact ⟨by rw [HRE.out, HE.out]; rfl, HSR.out.b⟩
      · have hlp : (0 : Int) < (l.args.length : Int) := by omega
        have HRE := Lib.hid (HR.out.trans (if_neg hl0))
        clear hl0
        go_wp2_with fail
        go_ret
        exact ⟨by rw [HRE.out, HE.out]; rfl, HSR.out.b⟩

set_option maxHeartbeats 16000000 in
set_option maxRecDepth 100000 in
theorem reflit_said01 (l : Lp) (w : World) (hi : l.In w w.heap.size) (hn : l.Nb) (hs : l.Short) (hp : l.pred.size ≤ 1000) (h3 : l.kind ≠ 3) (h4 : l.kind ≠ 4) (hk2 : ¬ l.kind = 2) (hno : l.who.none = true) :
    Calls Tryz.prog 73 #[l.agg] w fun e w' => e = .returned (.string l.litT) ∧ Below w.heap.size w w' := by
  have HS0 := Lib.hid (LS.start l w hi.args)
  have HR := Lib.hid (lit_fold l h3 h4)
  have HO := Lib.hid (show ∀ X, _ from fun X => refown_any l.who X)
  have HW := Lib.hid (show ∀ X, _ from fun X => reftermText_any l.who X hi.who hn.who)
  have HT := Lib.hid (show ∀ t ∈ l.args, ∀ X, _ from fun t ht X => reftermText_any t X (hi.sz t ht) (hn.args t ht))
  have HTS := Lib.hid hs.args
  have hwt := hs.who
  have hlen : l.args.length ≤ 1000 := hs.len
  have hk3 : (l.kind == 3) = false := beq_eq_false_iff_ne.2 h3
  have hk4 : (l.kind == 4) = false := beq_eq_false_iff_ne.2 h4
  have HP := Lib.hid (pre_eq l)
  have h40 : (⟨#[40]⟩ : ByteArray).size = 1 := rfl
  have h32 : (⟨#[44, 32]⟩ : ByteArray).size = 2 := rfl
  have h41 : (⟨#[41]⟩ : ByteArray).size = 1 := rfl
  have hnt : (⟨#[110, 111, 116, 32]⟩ : ByteArray).size = 4 := rfl
  have hsy : (⟨#[32, 115, 97, 121, 115, 32]⟩ : ByteArray).size = 6 := rfl
  have hz : (⟨#[]⟩ : ByteArray).size = 0 := rfl
  have h2b : (l.kind == 2) = false := beq_eq_false_iff_ne.2 hk2
  rw [hno] at HO HP
  have hwt : l.who.none = false → l.who.txt.size ≤ 1000 := hwt
  rw [hno] at hwt
  clear hno
  generalize l.litT = T at *
  generalize l.who.txt = wt at *
  unfold Lp.agg
  clear hi hn hs h3 h4
  generalize hpre : l.pre = OC at *
  clear hpre
  have HC := Lib.hid (show OC = ((⟨#[]⟩ : ByteArray) ++ l.pred) by rw [HP.out, if_neg hk2]; exact ba_ext (by simp [dl_append, wdNotB, wdSaid]))
  have HZ := Lib.hid (show ((⟨#[]⟩ : ByteArray) ++ l.pred).size ≤ 5000 + 0 * 2000004 by simp only [ByteArray.size_append]; omega)
  clear HP hk2
  go_enter Tryz.func73, Tryz.ntmps73
  go_upto_block 0 with (first
    | (go_at_call 102; refine (HW.out _).mono ?_; rintro e w2 ⟨rfl, hb2⟩; have HS2 := Lib.hid (HS1.out.on hb2); obtain ⟨y0, y1, y2, y3, y4, y5⟩ := HS2.out.x.six; clear hb2)
    | (go_at_call 100; refine (HO.out _).mono ?_; rintro e w1 ⟨rfl, hb1⟩; have HS1 := Lib.hid (HS0.out.on hb1); obtain ⟨x0, x1, x2, x3, x4, x5⟩ := HS1.out.x.six; clear hb1))
  have HSX := HS1
  clear x0 x1 x2 x3 x4 x5
  go_wp2_with fail
  go_loopw [3, 4] (fun o i wr => ∃ (j : Nat) (out : ByteArray), j ≤ l.args.length ∧ o = .string out ∧ i = .int .i64 j ∧ out.size ≤ 5000 + j * 2000004 ∧ Hid (foldX ⟨#[40]⟩ OC 0 (l.args.map Tm.txt) = foldX ⟨#[40]⟩ out j ((l.args.map Tm.txt).drop j)) ∧ Hid (LS l w wr)) (fun _ i _ => l.args.length - (intOf i).toNat)
  case atStart => exact ⟨0, _, Nat.zero_le _, rfl, rfl, HZ.out, Lib.hid (by rw [HC.out]; rfl), HSX⟩
  case round =>
    obtain ⟨j, out, hj, rfl, rfl, hos, HF, HSR⟩ := hrel
    have x5 := HSR.out.x.cell 5 _ rfl
    by_cases hlt : j < l.args.length
    · obtain ⟨b, o, hq, hbb, e0, e1, e2⟩ := rdM_at HSR.out.a j hlt
      rw [hq] at x5
      clear hq
      have HFS := Lib.hid (foldX_step ⟨#[40]⟩ out (l.args.map Tm.txt) j (by simpa using hlt))
      have HTX := Lib.hid (HT.out _ (List.getElem_mem hlt) wr)
      have htz : l.args[j].txt.size ≤ 1000 := HTS.out _ (List.getElem_mem hlt)
      have hj0 : (0 : Int) ≤ (j : Int) := by omega
      have hj1 : (j : Int) < (l.args.length : Int) := by omega
      simp only [List.getElem_map] at HFS
      have HAS := Lib.hid (addX_size ⟨#[40]⟩ out l.args[j].txt j (by decide) (by omega))
      generalize l.args[j].txt = tt at *
      generalize l.args[j] = tm at *
      by_cases hjz : j = 0
      · have hjb : ((j : Int) == 0) = true := by simp [hjz]
        have HAX := Lib.hid (show addX ⟨#[40]⟩ out j tt = (out ++ ⟨#[40]⟩) ++ tt by unfold addX; rw [if_pos hjz])
        clear hjz
        go_wp2_with (go_at_call 102; refine (HTX.out).mono ?_; rintro e w5 ⟨rfl, hb5⟩; have HS5 := Lib.hid (HSR.out.on hb5); clear hb5)
        go_roundw
        case rel => exact ⟨j + 1, _, by omega, rfl, by go_num, by rw [← HAX.out]; exact Nat.le_trans HAS.out (by omega), Lib.hid (by rw [HF.out, HFS.out, HAX.out]), HS5⟩
        case measure => simp [intOf]; omega
      · have hjb : ((j : Int) == 0) = false := beq_eq_false_iff_ne.2 (by omega)
        have HAX := Lib.hid (show addX ⟨#[40]⟩ out j tt = (out ++ ⟨#[44, 32]⟩) ++ tt by unfold addX; rw [if_neg hjz])
        clear hjz
        go_wp2_with (go_at_call 102; refine (HTX.out).mono ?_; rintro e w5 ⟨rfl, hb5⟩; have HS5 := Lib.hid (HSR.out.on hb5); clear hb5)
        go_roundw
        case rel => exact ⟨j + 1, _, by omega, rfl, by go_num, by rw [← HAX.out]; exact Nat.le_trans HAS.out (by omega), Lib.hid (by rw [HF.out, HFS.out, HAX.out]), HS5⟩
        case measure => simp [intOf]; omega
    · have HE := Lib.hid (show foldX ⟨#[40]⟩ OC 0 (l.args.map Tm.txt) = out by rw [HF.out, foldX_end _ _ _ _ (by simp; omega)])
      clear HF
      by_cases hl0 : l.args.length = 0
      · have hlp : ¬ (0 : Int) < (l.args.length : Int) := by omega
        have HRE := Lib.hid (HR.out.trans (if_pos hl0))
        clear hl0
        go_wp2_with fail
        go_ret
        exact ⟨by rw [HRE.out, HE.out]; rfl, HSR.out.b⟩
      · have hlp : (0 : Int) < (l.args.length : Int) := by omega
        have HRE := Lib.hid (HR.out.trans (if_neg hl0))
        clear hl0
        go_wp2_with fail
        go_ret
        exact ⟨by rw [HRE.out, HE.out]; rfl, HSR.out.b⟩

set_option maxHeartbeats 16000000 in
set_option maxRecDepth 100000 in
theorem reflit_said10 (l : Lp) (w : World) (hi : l.In w w.heap.size) (hn : l.Nb) (hs : l.Short) (hp : l.pred.size ≤ 1000) (h3 : l.kind ≠ 3) (h4 : l.kind ≠ 4) (hk2 : l.kind = 2) (hno : l.who.none = false) :
    Calls Tryz.prog 73 #[l.agg] w fun e w' => e = .returned (.string l.litT) ∧ Below w.heap.size w w' := by
  have HS0 := Lib.hid (LS.start l w hi.args)
  have HR := Lib.hid (lit_fold l h3 h4)
  have HO := Lib.hid (show ∀ X, _ from fun X => refown_any l.who X)
  have HW := Lib.hid (show ∀ X, _ from fun X => reftermText_any l.who X hi.who hn.who)
  have HT := Lib.hid (show ∀ t ∈ l.args, ∀ X, _ from fun t ht X => reftermText_any t X (hi.sz t ht) (hn.args t ht))
  have HTS := Lib.hid hs.args
  have hwt := hs.who
  have hlen : l.args.length ≤ 1000 := hs.len
  have hk3 : (l.kind == 3) = false := beq_eq_false_iff_ne.2 h3
  have hk4 : (l.kind == 4) = false := beq_eq_false_iff_ne.2 h4
  have HP := Lib.hid (pre_eq l)
  have h40 : (⟨#[40]⟩ : ByteArray).size = 1 := rfl
  have h32 : (⟨#[44, 32]⟩ : ByteArray).size = 2 := rfl
  have h41 : (⟨#[41]⟩ : ByteArray).size = 1 := rfl
  have hnt : (⟨#[110, 111, 116, 32]⟩ : ByteArray).size = 4 := rfl
  have hsy : (⟨#[32, 115, 97, 121, 115, 32]⟩ : ByteArray).size = 6 := rfl
  have hz : (⟨#[]⟩ : ByteArray).size = 0 := rfl
  have h2b : (l.kind == 2) = true := beq_iff_eq.2 hk2
  rw [hno] at HO HP
  have hwt : l.who.none = false → l.who.txt.size ≤ 1000 := hwt
  rw [hno] at hwt
  clear hno
  generalize l.litT = T at *
  generalize l.who.txt = wt at *
  unfold Lp.agg
  clear hi hn hs h3 h4
  generalize hpre : l.pre = OC at *
  clear hpre
  have hwt := hwt rfl
  have HC := Lib.hid (show OC = (((⟨#[110, 111, 116, 32]⟩ : ByteArray) ++ (wt ++ ⟨#[32, 115, 97, 121, 115, 32]⟩)) ++ l.pred) by rw [HP.out, if_pos hk2]; exact ba_ext (by simp [dl_append, wdNotB, wdSaid]))
  have HZ := Lib.hid (show (((⟨#[110, 111, 116, 32]⟩ : ByteArray) ++ (wt ++ ⟨#[32, 115, 97, 121, 115, 32]⟩)) ++ l.pred).size ≤ 5000 + 0 * 2000004 by simp only [ByteArray.size_append]; omega)
  clear HP hk2
  go_enter Tryz.func73, Tryz.ntmps73
  go_upto_block 0 with (first
    | (go_at_call 102; refine (HW.out _).mono ?_; rintro e w2 ⟨rfl, hb2⟩; have HS2 := Lib.hid (HS1.out.on hb2); obtain ⟨y0, y1, y2, y3, y4, y5⟩ := HS2.out.x.six; clear hb2)
    | (go_at_call 100; refine (HO.out _).mono ?_; rintro e w1 ⟨rfl, hb1⟩; have HS1 := Lib.hid (HS0.out.on hb1); obtain ⟨x0, x1, x2, x3, x4, x5⟩ := HS1.out.x.six; clear hb1))
  have HSX := HS2
  clear x0 x1 x2 x3 x4 x5
  clear y0 y1 y2 y3 y4 y5
  go_wp2_with fail
  go_loopw [3, 4] (fun o i wr => ∃ (j : Nat) (out : ByteArray), j ≤ l.args.length ∧ o = .string out ∧ i = .int .i64 j ∧ out.size ≤ 5000 + j * 2000004 ∧ Hid (foldX ⟨#[40]⟩ OC 0 (l.args.map Tm.txt) = foldX ⟨#[40]⟩ out j ((l.args.map Tm.txt).drop j)) ∧ Hid (LS l w wr)) (fun _ i _ => l.args.length - (intOf i).toNat)
  case atStart => exact ⟨0, _, Nat.zero_le _, rfl, rfl, HZ.out, Lib.hid (by rw [HC.out]; rfl), HSX⟩
  case round =>
    obtain ⟨j, out, hj, rfl, rfl, hos, HF, HSR⟩ := hrel
    have x5 := HSR.out.x.cell 5 _ rfl
    by_cases hlt : j < l.args.length
    · obtain ⟨b, o, hq, hbb, e0, e1, e2⟩ := rdM_at HSR.out.a j hlt
      rw [hq] at x5
      clear hq
      have HFS := Lib.hid (foldX_step ⟨#[40]⟩ out (l.args.map Tm.txt) j (by simpa using hlt))
      have HTX := Lib.hid (HT.out _ (List.getElem_mem hlt) wr)
      have htz : l.args[j].txt.size ≤ 1000 := HTS.out _ (List.getElem_mem hlt)
      have hj0 : (0 : Int) ≤ (j : Int) := by omega
      have hj1 : (j : Int) < (l.args.length : Int) := by omega
      simp only [List.getElem_map] at HFS
      have HAS := Lib.hid (addX_size ⟨#[40]⟩ out l.args[j].txt j (by decide) (by omega))
      generalize l.args[j].txt = tt at *
      generalize l.args[j] = tm at *
      by_cases hjz : j = 0
      · have hjb : ((j : Int) == 0) = true := by simp [hjz]
        have HAX := Lib.hid (show addX ⟨#[40]⟩ out j tt = (out ++ ⟨#[40]⟩) ++ tt by unfold addX; rw [if_pos hjz])
        clear hjz
        go_wp2_with (go_at_call 102; refine (HTX.out).mono ?_; rintro e w5 ⟨rfl, hb5⟩; have HS5 := Lib.hid (HSR.out.on hb5); clear hb5)
        go_roundw
        case rel => exact ⟨j + 1, _, by omega, rfl, by go_num, by rw [← HAX.out]; exact Nat.le_trans HAS.out (by omega), Lib.hid (by rw [HF.out, HFS.out, HAX.out]), HS5⟩
        case measure => simp [intOf]; omega
      · have hjb : ((j : Int) == 0) = false := beq_eq_false_iff_ne.2 (by omega)
        have HAX := Lib.hid (show addX ⟨#[40]⟩ out j tt = (out ++ ⟨#[44, 32]⟩) ++ tt by unfold addX; rw [if_neg hjz])
        clear hjz
        go_wp2_with (go_at_call 102; refine (HTX.out).mono ?_; rintro e w5 ⟨rfl, hb5⟩; have HS5 := Lib.hid (HSR.out.on hb5); clear hb5)
        go_roundw
        case rel => exact ⟨j + 1, _, by omega, rfl, by go_num, by rw [← HAX.out]; exact Nat.le_trans HAS.out (by omega), Lib.hid (by rw [HF.out, HFS.out, HAX.out]), HS5⟩
        case measure => simp [intOf]; omega
    · have HE := Lib.hid (show foldX ⟨#[40]⟩ OC 0 (l.args.map Tm.txt) = out by rw [HF.out, foldX_end _ _ _ _ (by simp; omega)])
      clear HF
      by_cases hl0 : l.args.length = 0
      · have hlp : ¬ (0 : Int) < (l.args.length : Int) := by omega
        have HRE := Lib.hid (HR.out.trans (if_pos hl0))
        clear hl0
        go_wp2_with fail
        go_ret
        exact ⟨by rw [HRE.out, HE.out]; rfl, HSR.out.b⟩
      · have hlp : (0 : Int) < (l.args.length : Int) := by omega
        have HRE := Lib.hid (HR.out.trans (if_neg hl0))
        clear hl0
        go_wp2_with fail
        go_ret
        exact ⟨by rw [HRE.out, HE.out]; rfl, HSR.out.b⟩

set_option maxHeartbeats 16000000 in
set_option maxRecDepth 100000 in
theorem reflit_said11 (l : Lp) (w : World) (hi : l.In w w.heap.size) (hn : l.Nb) (hs : l.Short) (hp : l.pred.size ≤ 1000) (h3 : l.kind ≠ 3) (h4 : l.kind ≠ 4) (hk2 : l.kind = 2) (hno : l.who.none = true) :
    Calls Tryz.prog 73 #[l.agg] w fun e w' => e = .returned (.string l.litT) ∧ Below w.heap.size w w' := by
  have HS0 := Lib.hid (LS.start l w hi.args)
  have HR := Lib.hid (lit_fold l h3 h4)
  have HO := Lib.hid (show ∀ X, _ from fun X => refown_any l.who X)
  have HW := Lib.hid (show ∀ X, _ from fun X => reftermText_any l.who X hi.who hn.who)
  have HT := Lib.hid (show ∀ t ∈ l.args, ∀ X, _ from fun t ht X => reftermText_any t X (hi.sz t ht) (hn.args t ht))
  have HTS := Lib.hid hs.args
  have hwt := hs.who
  have hlen : l.args.length ≤ 1000 := hs.len
  have hk3 : (l.kind == 3) = false := beq_eq_false_iff_ne.2 h3
  have hk4 : (l.kind == 4) = false := beq_eq_false_iff_ne.2 h4
  have HP := Lib.hid (pre_eq l)
  have h40 : (⟨#[40]⟩ : ByteArray).size = 1 := rfl
  have h32 : (⟨#[44, 32]⟩ : ByteArray).size = 2 := rfl
  have h41 : (⟨#[41]⟩ : ByteArray).size = 1 := rfl
  have hnt : (⟨#[110, 111, 116, 32]⟩ : ByteArray).size = 4 := rfl
  have hsy : (⟨#[32, 115, 97, 121, 115, 32]⟩ : ByteArray).size = 6 := rfl
  have hz : (⟨#[]⟩ : ByteArray).size = 0 := rfl
  have h2b : (l.kind == 2) = true := beq_iff_eq.2 hk2
  rw [hno] at HO HP
  have hwt : l.who.none = false → l.who.txt.size ≤ 1000 := hwt
  rw [hno] at hwt
  clear hno
  generalize l.litT = T at *
  generalize l.who.txt = wt at *
  unfold Lp.agg
  clear hi hn hs h3 h4
  generalize hpre : l.pre = OC at *
  clear hpre
  have HC := Lib.hid (show OC = ((⟨#[110, 111, 116, 32]⟩ : ByteArray) ++ l.pred) by rw [HP.out, if_pos hk2]; exact ba_ext (by simp [dl_append, wdNotB, wdSaid]))
  have HZ := Lib.hid (show ((⟨#[110, 111, 116, 32]⟩ : ByteArray) ++ l.pred).size ≤ 5000 + 0 * 2000004 by simp only [ByteArray.size_append]; omega)
  clear HP hk2
  go_enter Tryz.func73, Tryz.ntmps73
  go_upto_block 0 with (first
    | (go_at_call 102; refine (HW.out _).mono ?_; rintro e w2 ⟨rfl, hb2⟩; have HS2 := Lib.hid (HS1.out.on hb2); obtain ⟨y0, y1, y2, y3, y4, y5⟩ := HS2.out.x.six; clear hb2)
    | (go_at_call 100; refine (HO.out _).mono ?_; rintro e w1 ⟨rfl, hb1⟩; have HS1 := Lib.hid (HS0.out.on hb1); obtain ⟨x0, x1, x2, x3, x4, x5⟩ := HS1.out.x.six; clear hb1))
  have HSX := HS1
  clear x0 x1 x2 x3 x4 x5
  go_wp2_with fail
  go_loopw [3, 4] (fun o i wr => ∃ (j : Nat) (out : ByteArray), j ≤ l.args.length ∧ o = .string out ∧ i = .int .i64 j ∧ out.size ≤ 5000 + j * 2000004 ∧ Hid (foldX ⟨#[40]⟩ OC 0 (l.args.map Tm.txt) = foldX ⟨#[40]⟩ out j ((l.args.map Tm.txt).drop j)) ∧ Hid (LS l w wr)) (fun _ i _ => l.args.length - (intOf i).toNat)
  case atStart => exact ⟨0, _, Nat.zero_le _, rfl, rfl, HZ.out, Lib.hid (by rw [HC.out]; rfl), HSX⟩
  case round =>
    obtain ⟨j, out, hj, rfl, rfl, hos, HF, HSR⟩ := hrel
    have x5 := HSR.out.x.cell 5 _ rfl
    by_cases hlt : j < l.args.length
    · obtain ⟨b, o, hq, hbb, e0, e1, e2⟩ := rdM_at HSR.out.a j hlt
      rw [hq] at x5
      clear hq
      have HFS := Lib.hid (foldX_step ⟨#[40]⟩ out (l.args.map Tm.txt) j (by simpa using hlt))
      have HTX := Lib.hid (HT.out _ (List.getElem_mem hlt) wr)
      have htz : l.args[j].txt.size ≤ 1000 := HTS.out _ (List.getElem_mem hlt)
      have hj0 : (0 : Int) ≤ (j : Int) := by omega
      have hj1 : (j : Int) < (l.args.length : Int) := by omega
      simp only [List.getElem_map] at HFS
      have HAS := Lib.hid (addX_size ⟨#[40]⟩ out l.args[j].txt j (by decide) (by omega))
      generalize l.args[j].txt = tt at *
      generalize l.args[j] = tm at *
      by_cases hjz : j = 0
      · have hjb : ((j : Int) == 0) = true := by simp [hjz]
        have HAX := Lib.hid (show addX ⟨#[40]⟩ out j tt = (out ++ ⟨#[40]⟩) ++ tt by unfold addX; rw [if_pos hjz])
        clear hjz
        go_wp2_with (go_at_call 102; refine (HTX.out).mono ?_; rintro e w5 ⟨rfl, hb5⟩; have HS5 := Lib.hid (HSR.out.on hb5); clear hb5)
        go_roundw
        case rel => exact ⟨j + 1, _, by omega, rfl, by go_num, by rw [← HAX.out]; exact Nat.le_trans HAS.out (by omega), Lib.hid (by rw [HF.out, HFS.out, HAX.out]), HS5⟩
        case measure => simp [intOf]; omega
      · have hjb : ((j : Int) == 0) = false := beq_eq_false_iff_ne.2 (by omega)
        have HAX := Lib.hid (show addX ⟨#[40]⟩ out j tt = (out ++ ⟨#[44, 32]⟩) ++ tt by unfold addX; rw [if_neg hjz])
        clear hjz
        go_wp2_with (go_at_call 102; refine (HTX.out).mono ?_; rintro e w5 ⟨rfl, hb5⟩; have HS5 := Lib.hid (HSR.out.on hb5); clear hb5)
        go_roundw
        case rel => exact ⟨j + 1, _, by omega, rfl, by go_num, by rw [← HAX.out]; exact Nat.le_trans HAS.out (by omega), Lib.hid (by rw [HF.out, HFS.out, HAX.out]), HS5⟩
        case measure => simp [intOf]; omega
    · have HE := Lib.hid (show foldX ⟨#[40]⟩ OC 0 (l.args.map Tm.txt) = out by rw [HF.out, foldX_end _ _ _ _ (by simp; omega)])
      clear HF
      by_cases hl0 : l.args.length = 0
      · have hlp : ¬ (0 : Int) < (l.args.length : Int) := by omega
        have HRE := Lib.hid (HR.out.trans (if_pos hl0))
        clear hl0
        go_wp2_with fail
        go_ret
        exact ⟨by rw [HRE.out, HE.out]; rfl, HSR.out.b⟩
      · have hlp : (0 : Int) < (l.args.length : Int) := by omega
        have HRE := Lib.hid (HR.out.trans (if_neg hl0))
        clear hl0
        go_wp2_with fail
        go_ret
        exact ⟨by rw [HRE.out, HE.out]; rfl, HSR.out.b⟩

theorem reflit_said (l : Lp) (w : World) (hi : l.In w w.heap.size) (hn : l.Nb) (hs : l.Short) (hp : l.pred.size ≤ 1000) (h3 : l.kind ≠ 3) (h4 : l.kind ≠ 4) :
    Calls Tryz.prog 73 #[l.agg] w fun e w' => e = .returned (.string l.litT) ∧ Below w.heap.size w w' := by
  by_cases hk2 : l.kind = 2
  · cases hno : l.who.none with
    | true => exact reflit_said11 l w hi hn hs hp h3 h4 hk2 hno
    | false => exact reflit_said10 l w hi hn hs hp h3 h4 hk2 hno
  · cases hno : l.who.none with
    | true => exact reflit_said01 l w hi hn hs hp h3 h4 hk2 hno
    | false => exact reflit_said00 l w hi hn hs hp h3 h4 hk2 hno
end Go.Proofs.YtfmkfabbiifolaaGreatDoor

/-
  Contracts: the reference's CheckLit and Literal.
-/
namespace Go.Proofs.YtfmkfabbiifolaaGreatDoor
open Go.RowKit

set_option maxHeartbeats 4000000 in
set_option maxRecDepth 100000 in
theorem refcheckLit_any (l : Lp) (w : World) (hi : l.In w w.heap.size) :
    Calls Tryz.prog 74 #[l.agg] w fun e w' => e = .returned (.bool l.ask) ∧ Below w.heap.size w w' := by
  have HS0 := Lib.hid (LS.start l w hi.args)
  have HS := Lib.hid (show ∀ o, _ from fun o => refsaid_any l (w.alloc o) (hi.grow (below1 w o)))
  have HR := Lib.hid (show l.ask = ((l.kind == 1) && l.said) from rfl)
  unfold Lp.agg at HS ⊢
  generalize l.ask = R at *
  generalize l.said = sd at *
  clear hi
  cases hk : (l.kind == 1)
  all_goals rw [hk] at HR
  all_goals
    go_enter Tryz.func74, Tryz.ntmps74
    go_wp2_with (go_at_call 103; refine (HS.out _).mono ?_; rintro e w1 ⟨rfl, hb1⟩; have HS1 := Lib.hid (HS0.out.on hb1))
    go_ret
    exact ⟨by rw [HR.out]; rfl, by first | exact HS1.out.b | exact HS0.out.b⟩

set_option maxHeartbeats 8000000 in
set_option maxRecDepth 100000 in
theorem refliteral_any (l : Lp) (w : World) (hi : l.In w w.heap.size) :
    Calls Tryz.prog 101 #[l.agg] w fun e w' => e = .returned (.bool l.lit) ∧ Below w.heap.size w w' := by
  have HS0 := Lib.hid (LS.start l w hi.args)
  have HS := Lib.hid (show ∀ o, _ from fun o => refsaid_any l (w.alloc o) (hi.grow (below1 w o)))
  have HO := Lib.hid (show ∀ X, _ from fun X => refown_any l.who X)
  have HA := Lib.hid (show ∀ X, Tms X X.heap.size l.ptr l.args → Calls Tryz.prog 126 #[.slice l.ptr l.args.length l.cap] X fun e w' => e = .returned (.bool (l.args.all Tm.ok)) ∧ Below X.heap.size X w' from fun X hX => refterms_any l.ptr l.args l.cap X hX (Nat.le_trans hi.len (by decide)) hi.sz)
  have HR := Lib.hid (show l.lit = if l.kind == 1 || l.kind == 2 then l.said else if l.kind == 3 || l.kind == 4 then (l.who.none && (l.pred.toList.isEmpty && (decide (l.args.length = 2) && l.args.all Tm.ok))) else false from rfl)
  have q0 : ((l.pred.size : Int) == 0) = l.pred.toList.isEmpty := sz_eq l.pred
  have q2 : ((l.args.length : Int) == 2) = decide (l.args.length = 2) := by
    by_cases h : l.args.length = 2
    · simp [h]
    · rw [decide_eq_false h]; exact beq_eq_false_iff_ne.2 (by omega)
  have hlen := hi.len
  unfold Lp.agg at HS ⊢
  generalize l.lit = R at *
  generalize l.said = sd at *
  generalize l.who.none = no at *
  generalize l.args.all Tm.ok = al at *
  generalize l.pred.toList.isEmpty = pe at *
  generalize decide (l.args.length = 2) = d2 at *
  clear hi
  cases h1 : (l.kind == 1) with
  | true =>
    rw [h1] at HR
    go_enter Tryz.func101, Tryz.ntmps101
    go_wp2_with (go_at_call 103; refine (HS.out _).mono ?_; rintro e w1 ⟨rfl, hb1⟩; have HS1 := Lib.hid (HS0.out.on hb1))
    go_ret
    exact ⟨by rw [HR.out]; rfl, HS1.out.b⟩
  | false =>
  cases h2 : (l.kind == 2) with
  | true =>
    rw [h1, h2] at HR
    go_enter Tryz.func101, Tryz.ntmps101
    go_wp2_with (go_at_call 103; refine (HS.out _).mono ?_; rintro e w1 ⟨rfl, hb1⟩; have HS1 := Lib.hid (HS0.out.on hb1))
    go_ret
    exact ⟨by rw [HR.out]; rfl, HS1.out.b⟩
  | false =>
  have hk : (l.kind == 3) = true ∨ ((l.kind == 3) = false ∧ (l.kind == 4) = true) ∨ ((l.kind == 3) = false ∧ (l.kind == 4) = false) := by
    cases l.kind == 3 <;> cases l.kind == 4 <;> simp
  rw [h1, h2] at HR
  rcases hk with h3 | ⟨h3, h4⟩ | ⟨h3, h4⟩
  all_goals rw [h3] at HR
  all_goals (try rw [h4] at HR)
  · cases pe <;> cases no <;> cases d2
    all_goals
      go_enter Tryz.func101, Tryz.ntmps101
      go_wp2_with (first
        | (go_at_call 126; refine (HA.out _ HS1.out.a).mono ?_; rintro e w3 ⟨rfl, hb3⟩; have HS3 := Lib.hid (HS1.out.on hb3))
        | (go_at_call 100; refine (HO.out _).mono ?_; rintro e w1 ⟨rfl, hb1⟩; have HS1 := Lib.hid (HS0.out.on hb1); obtain ⟨x0, x1, x2, x3, x4, x5⟩ := HS1.out.x.six; clear hb1))
      go_ret
      exact ⟨by rw [HR.out]; (first | rfl | simp), by first | exact HS3.out.b | exact HS1.out.b | exact HS0.out.b⟩
  · cases pe <;> cases no <;> cases d2
    all_goals
      go_enter Tryz.func101, Tryz.ntmps101
      go_wp2_with (first
        | (go_at_call 126; refine (HA.out _ HS1.out.a).mono ?_; rintro e w3 ⟨rfl, hb3⟩; have HS3 := Lib.hid (HS1.out.on hb3))
        | (go_at_call 100; refine (HO.out _).mono ?_; rintro e w1 ⟨rfl, hb1⟩; have HS1 := Lib.hid (HS0.out.on hb1); obtain ⟨x0, x1, x2, x3, x4, x5⟩ := HS1.out.x.six; clear hb1))
      go_ret
      exact ⟨by rw [HR.out]; (first | rfl | simp), by first | exact HS3.out.b | exact HS1.out.b | exact HS0.out.b⟩
  · go_enter Tryz.func101, Tryz.ntmps101
    go_wp2_with fail
    go_ret
    exact ⟨by rw [HR.out]; rfl, HS0.out.b⟩
end Go.Proofs.YtfmkfabbiifolaaGreatDoor
