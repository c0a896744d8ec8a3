/-
  Joined of: RvrA, RvrB, VarV.
-/
import Derived.Test.YtnjdganikeganaaGreatDoorJa21
import Derived.Test.YtnjdganikeganaaGreatDoorJa40
import Derived.Test.YtnjdganikeganaaGreatDoorJa23
import Derived.Test.YtnjdganikeganaaGreatDoorJa22
import Derived.Deep.CutBlock
import Derived.Deep.DeepCutAuto
import Derived.Test.YtnjdganikeganaaGreatDoorJa36
import Derived.Deep.RegionHeld3
import Derived.Deep.RegionLaw
import Derived.Deep.QuietTactic
import Derived.BigQuiet
set_option linter.unusedVariables false
set_option linter.unusedSimpArgs false
/-
  Contract: the reference's Put.
-/
namespace Go.Proofs.YtnjdganikeganaaGreatDoor
open Go.RowKit

/-- a name put behind others, unless it is there -/
def putW (xs : List ByteArray) (s : ByteArray) : List ByteArray := if Lib.containsS xs s then xs else xs ++ [s]
theorem putV_W (xs : List ByteArray) (s : ByteArray) : putV xs s = if s.toList.isEmpty then xs else putW xs s := rfl

set_option maxHeartbeats 8000000 in
set_option maxRecDepth 100000 in
theorem refput_any (base : Nat) (v : Value) (xs : List ByteArray) (s : ByteArray) (w : World) (ho : w.ownsRow base 9 1 v xs.length (flatE encS xs)) (hb : base ≤ w.heap.size) (hl : xs.length ≤ 4096) :
    Calls Tryz.prog 53 #[v, .string s] w fun e w' => ∃ v', e = .returned v' ∧ w'.ownsRow base 9 1 v' (putW xs s).length (flatE encS (putW xs s)) ∧ Below base w w' ∧ (∀ k, k < w.heap.size → v.ownBlock ≠ some k → w'.heap[k]? = w.heap[k]? ∧ v'.ownBlock ≠ some k) := by
  obtain ⟨i0, hii, hz0, hz1, hzb⟩ := info_parts infoStr
  obtain ⟨q, c, rfl, hrd, _⟩ := grw_form ES (.inr ho) hb
  have HOW := Lib.hid ho
  have HRD := Lib.hid hrd
  have HL1 := Lib.hid (show xs.length + [s].length ≤ maxLen by unfold maxLen; simp; omega)
  have HL2 := Lib.hid (show (xs.length + [s].length) * 16 ≤ 140737488355328 by simp; omega)
  clear ho hrd
  go_enter Tryz.func53, Tryz.ntmps53
  go_wp2_with fail
  go_loopw [5] (fun i wr => ∃ j : Nat, j ≤ xs.length ∧ i = .int .i64 j ∧ wr = w ∧ Hid (∀ x ∈ xs.take j, x ≠ s)) (fun i _ => xs.length - (intOf i).toNat)
  case atStart => exact ⟨0, Nat.zero_le _, rfl, rfl, Lib.hid (fun x hx => by simp at hx)⟩
  case round =>
    obtain ⟨j, hj, rfl, rfl, HN⟩ := hrel
    by_cases hlt : j < xs.length
    · obtain ⟨b, o, rfl, hbb, x0⟩ := rdS_at HRD.out j hlt
      have hj0 : (0 : Int) ≤ (j : Int) := by omega
      have hj1 : (j : Int) < (xs.length : Int) := by omega
      by_cases heq : xs[j] = s
      · have hq : ((xs[j]).toList == s.toList) = true := ba_eq.2 heq
        have HC := Lib.hid (show putW xs s = xs by unfold putW; rw [if_pos ((Lib.containsS_iff _ _).2 (heq ▸ List.getElem_mem hlt))])
        clear heq
        go_wp2_with fail
        go_ret
        exact ⟨_, rfl, by rw [HC.out]; exact HOW.out, Below.refl _ _, fun k hk hne => ⟨rfl, hne⟩⟩
      · have hq : ((xs[j]).toList == s.toList) = false := by
          cases h : (xs[j]).toList == s.toList
          · rfl
          · exact absurd (ba_eq.1 h) heq
        have HN2 := Lib.hid (show ∀ x ∈ xs.take (j + 1), x ≠ s from fun x hx => by
          rw [List.take_succ_eq_append_getElem hlt] at hx
          rcases List.mem_append.1 hx with hx | hx
          · exact HN.out x hx
          · rw [List.mem_singleton.1 hx]; exact heq)
        clear heq
        go_wp2_with fail
        go_roundw
        case rel => exact ⟨j + 1, by omega, by go_num, by first | rfl | trivial, HN2⟩
        case measure => simp [intOf]; omega
    · have HC := Lib.hid (show putW xs s = xs ++ [s] by
        unfold putW
        rw [if_neg]
        intro h
        have := (Lib.containsS_iff _ _).1 h
        exact HN.out s (by rw [List.take_of_length_le (by omega)]; exact this) rfl)
      go_wp2_with (at_builtin; refine wpList_appendE ES rfl _ _ 56 rfl base 9 i0 _ 16 underSs hii hz0 hz1 hzb rfl _ xs rfl (own_below HOW.out (below1 _ _)) (some ⟨wr.heap.size, 0, none⟩) [s] 1 rfl (rd_fresh ES wr 9 #[.string s] s rfl) HL1.out HL2.out (Nat.le_trans hb (below1 wr _).size) ?_; intro v7 w7 ho7 hb7 hg7 hat7; have HG7 := Lib.hid hg7; have HAT7 := Lib.hid hat7; have HB7 := Lib.hid hb7; have HO7 := Lib.hid ho7; clear hg7 hat7 ho7 hb7)
      go_ret
      refine ⟨_, rfl, by rw [HC.out]; exact HO7.out, ((below1 wr _).mono hb).trans HB7.out, fun k hk hne => ⟨?_, fun e => ?_⟩⟩
      · exact (HG7.out.block k (by simp; omega) (fun e => hne e.symm)).trans ((below1 wr _).block k hk)
      · rcases HAT7.out k e with e | e
        · exact hne e
        · simp at e; omega
end Go.Proofs.YtnjdganikeganaaGreatDoor

/-
  Contract: the reference's Vars.
-/
namespace Go.Proofs.YtnjdganikeganaaGreatDoor
open Go.RowKit

/-- the names found so far lie in a row of the call's own -/
structure VV (W0 : World) (v : Value) (acc : List ByteArray) (wx : World) : Prop where
  b : Below W0.heap.size W0 wx
  row : wx.ownsRow W0.heap.size 9 1 v acc.length (flatE encS acc)
theorem VV.on {W0 wx w' : World} {v : Value} {acc : List ByteArray} (h : VV W0 v acc wx) (hb : Below wx.heap.size wx w') : VV W0 v acc w' := ⟨h.b.trans (hb.mono h.b.size), own_below h.row hb⟩
/-- the same, with the literal that is looked at -/
structure VL (W0 : World) (v : Value) (acc : List ByteArray) (lb : Nat) (la : Lp) (wx : World) : Prop where
  vv : VV W0 v acc wx
  x : Bk wx lb 28 #[.int .u8 la.kind, .string la.who.v, .string la.who.s, .int .i64 la.who.n, .string la.pred, .slice la.ptr la.args.length la.cap]
  n : v.ownBlock ≠ some lb
theorem VL.start {W0 wx : World} {v : Value} {acc : List ByteArray} (h : VV W0 v acc wx) (la : Lp) : VL W0 v acc wx.heap.size la (wx.alloc (.cells #[.int .u8 la.kind, .string la.who.v, .string la.who.s, .int .i64 la.who.n, .string la.pred, .slice la.ptr la.args.length la.cap] 28)) :=
  ⟨h.on (below1 wx _), Bk.new wx _ _, fun e => Nat.lt_irrefl _ (h.row.lt _ e).2⟩
theorem VL.put {W0 wx w' : World} {v v' : Value} {acc acc' : List ByteArray} {lb : Nat} {la : Lp} (h : VL W0 v acc lb la wx) (hr : w'.ownsRow W0.heap.size 9 1 v' acc'.length (flatE encS acc')) (hb : Below W0.heap.size wx w')
    (hk : ∀ k, k < wx.heap.size → v.ownBlock ≠ some k → w'.heap[k]? = wx.heap[k]? ∧ v'.ownBlock ≠ some k) : VL W0 v' acc' lb la w' :=
  ⟨⟨h.vv.b.trans hb, hr⟩, (hk lb h.x.lt h.n).1.trans h.x, (hk lb h.x.lt h.n).2⟩
theorem lit_four {l : Lp} (h : l.lit = true) : l.args.length ≤ 4 := by
  unfold Lp.lit at h
  split at h
  · unfold Lp.said at h
    simp only [Bool.and_eq_true, decide_eq_true_eq] at h
    exact h.2.2.1
  · split at h
    · unfold Lp.comp at h
      simp only [Bool.and_eq_true, decide_eq_true_eq] at h
      omega
    · cases h
theorem putW_len (xs : List ByteArray) (s : ByteArray) : (putW xs s).length ≤ xs.length + 1 := by
  unfold putW
  split
  · omega
  · simp
theorem fold_step {α β : Type} (f : β → α → β) (l : List α) (j : Nat) (h : j < l.length) (x : β) : (l.drop j).foldl f x = (l.drop (j + 1)).foldl f (f x l[j]) := by
  rw [List.drop_eq_getElem_cons h]; rfl
theorem fold_end {α β : Type} (f : β → α → β) (l : List α) (j : Nat) (h : l.length ≤ j) (x : β) : (l.drop j).foldl f x = x := by
  rw [List.drop_eq_nil_of_le h]; rfl
abbrev addA (ys : List ByteArray) (t : Tm) : List ByteArray := putV ys t.v
theorem litV_def (xs : List ByteArray) (l : Lp) : litV xs l = l.args.foldl addA (putV xs l.who.v) := rfl

set_option maxHeartbeats 16000000 in
set_option maxRecDepth 100000 in
theorem refvars_any (k : Kp) (w : World) (hi : k.In w w.heap.size) :
    Calls Tryz.prog 27 #[k.agg] w fun e w' => ∃ q c, e = .returned (.slice q k.vars.length c) ∧ Rd encS 1 w' w'.heap.size q k.vars ∧ Below w.heap.size w w' := by
  have HS0 := Lib.hid (KS.start k w hi)
  have HK := Lib.hid (show ∀ X, k.In X X.heap.size → _ from fun X hX => refcheck_any k X hX)
  have HR := Lib.hid (show k.vars = if k.check then (k.head :: k.body).foldl litV [] else [] from rfl)
  cases hk : k.check with
  | false =>
    rw [hk] at HK HR
    unfold Kp.agg at HK ⊢
    clear hi hk
    go_enter Tryz.func27, Tryz.ntmps27
    go_wp2_with (go_at_call 29; refine (HK.out _ HS0.out.a).mono ?_; rintro e w1 ⟨rfl, hb1⟩; have HS1 := Lib.hid (HS0.out.on hb1))
    go_ret
    exact ⟨none, 0, by rw [HR.out]; rfl, by rw [HR.out]; exact .inl rfl, HS1.out.b⟩
  | true =>
    obtain ⟨hlen, _, hask, hbody⟩ : k.body.length ≤ 6 ∧ k.head.who.none = true ∧ k.head.ask = true ∧ ∀ l ∈ k.body, l.lit = true := by
      have hk2 := hk
      unfold Kp.check at hk2
      simp only [Bool.and_eq_true, decide_eq_true_eq, List.all_eq_true] at hk2
      exact hk2
    have H4 := Lib.hid (show ∀ l ∈ k.head :: k.body, l.args.length ≤ 4 from fun l hl => by
      rcases List.mem_cons.1 hl with rfl | hl
      · unfold Lp.ask at hask
        simp only [Bool.and_eq_true] at hask
        have h := hask.2
        unfold Lp.said at h
        simp only [Bool.and_eq_true, decide_eq_true_eq] at h
        exact h.2.2.1
      · exact lit_four (hbody l hl))
    have HPT := Lib.hid (show ∀ base v xs s wx, wx.ownsRow base 9 1 v xs.length (flatE encS xs) → base ≤ wx.heap.size → xs.length ≤ 4096 → _ from fun base v xs s wx h1 h2 h3 => refput_any base v xs s wx h1 h2 h3)
    rw [hk] at HK HR
    unfold Kp.agg at HK ⊢
    clear hk hask hbody
    generalize hL : k.head :: k.body = L at *
    have hLl : L.length = k.body.length + 1 := by rw [← hL]; rfl
    have hL0 : ∀ h : 0 < L.length, L[0] = k.head := fun h => by subst hL; rfl
    have hLs : ∀ m (h : m + 1 < L.length) (h' : m < k.body.length), L[m + 1] = k.body[m] := fun m h h' => by subst hL; rfl
    have HLS := Lib.hid hLs
    have HL0 := Lib.hid hL0
    have HIN := Lib.hid (show ∀ wx, Below w.heap.size w wx → ∀ l ∈ L, l.In wx wx.heap.size from fun wx hx l hl => by
      rw [← hL] at hl
      rcases List.mem_cons.1 hl with rfl | hl
      · exact hi.head.grow hx
      · exact (hi.body.each l hl).grow hx)
    clear hL hL0 hLs hi
    go_enter Tryz.func27, Tryz.ntmps27
    go_wp2_with (go_at_call 29; refine (HK.out _ HS0.out.a).mono ?_; rintro e W0 ⟨rfl, hb1⟩; have HS1 := Lib.hid (HS0.out.on hb1); clear hb1)
    go_loopw [3, 4] (fun o i wr => ∃ (j : Nat) (acc : List ByteArray) (q : Option Addr) (c : Nat) (iv : Int), j ≤ L.length ∧ o = .slice q acc.length c ∧ i = .int .i64 iv ∧ acc.length ≤ 5 * j ∧ Hid (iv = (j : Int) - 1) ∧ Hid (L.foldl litV [] = (L.drop j).foldl litV acc) ∧ Hid (VV W0 (.slice q acc.length c) acc wr)) (fun _ i _ => L.length - (intOf i + 1).toNat)
    case atStart => exact ⟨0, [], none, 0, -1, Nat.zero_le _, rfl, rfl, Nat.le_refl _, Lib.hid rfl, Lib.hid rfl, Lib.hid ⟨Below.refl _ _, World.ownsRow_nil _ _ _ _⟩⟩
    case round =>
      obtain ⟨j, acc, q, c, iv, hj, rfl, rfl, hal, HIV, HF, HV⟩ := hrel
      have HSR := Lib.hid (HS1.out.on HV.out.b)
      obtain ⟨x0, x1, x2, x3, x4, x5, x6⟩ := HSR.out.x.seven
      have hbs := HV.out.b.size
      have hiv0 : (-1 : Int) ≤ iv := by have := HIV.out; omega
      by_cases hlt : j < L.length
      · have HFS := Lib.hid (fold_step litV L j hlt acc)
        have h4 : L[j].args.length ≤ 4 := H4.out _ (List.getElem_mem hlt)
        have HML := Lib.hid (List.getElem_mem hlt)
        have hc1 : iv < (k.body.length : Int) := by have := HIV.out; omega
        go_upto_if 20 with fail
        go_cut [] (fun wx => ∃ la : Lp, Hid (la = L[j]) ∧ Hid (VL W0 (.slice q acc.length c) acc wr.heap.size la wx))
        case first =>
          rcases j with _ | m
          · have e0 : L[0] = k.head := HL0.out hlt
            have HW := Lib.hid (VL.start HV.out k.head)
            have hn : ¬ (0 : Int) ≤ iv := by have := HIV.out; omega
            go_wp2_with fail
            go_meet
            exact ⟨k.head, Lib.hid e0.symm, HW⟩
          · have hm : m < k.body.length := by omega
            have e0 : L[m + 1] = k.body[m] := HLS.out m hlt hm
            have HW := Lib.hid (VL.start HV.out k.body[m])
            obtain ⟨b, o, hq, hbb, z0, z1, z2, z3, z4, z5⟩ := rdL_at HSR.out.a.body.rd m hm
            have hp0 : (0 : Int) ≤ iv := by have := HIV.out; omega
            have hp1 : iv.toNat = m := by have := HIV.out; omega
            rw [hq] at x6
            have hxw := HSR.out.x.lt
            have w6 : ∀ O, (wr.alloc O).cell? ⟨w.heap.size, 6, none⟩ = some (.slice (some ⟨b, o, none⟩) k.body.length k.cap) := fun O => ((below1 wr O).cell (p := ⟨w.heap.size, 6, none⟩) hxw).trans x6
            have w0' : ∀ O, (wr.alloc O).cell? ⟨b, o + m * 6, none⟩ = some (.int .u8 k.body[m].kind) := fun O => ((below1 wr O).cell (p := ⟨b, o + m * 6, none⟩) hbb).trans z0
            have w1' : ∀ O, (wr.alloc O).cell? ⟨b, o + m * 6 + 1, none⟩ = some (.string k.body[m].who.v) := fun O => ((below1 wr O).cell (p := ⟨b, o + m * 6 + 1, none⟩) hbb).trans z1
            have w2' : ∀ O, (wr.alloc O).cell? ⟨b, o + m * 6 + 2, none⟩ = some (.string k.body[m].who.s) := fun O => ((below1 wr O).cell (p := ⟨b, o + m * 6 + 2, none⟩) hbb).trans z2
            have w3' : ∀ O, (wr.alloc O).cell? ⟨b, o + m * 6 + 3, none⟩ = some (.int .i64 k.body[m].who.n) := fun O => ((below1 wr O).cell (p := ⟨b, o + m * 6 + 3, none⟩) hbb).trans z3
            have w4' : ∀ O, (wr.alloc O).cell? ⟨b, o + m * 6 + 4, none⟩ = some (.string k.body[m].pred) := fun O => ((below1 wr O).cell (p := ⟨b, o + m * 6 + 4, none⟩) hbb).trans z4
            have w5' : ∀ O, (wr.alloc O).cell? ⟨b, o + m * 6 + 5, none⟩ = some (.slice k.body[m].ptr k.body[m].args.length k.body[m].cap) := fun O => ((below1 wr O).cell (p := ⟨b, o + m * 6 + 5, none⟩) hbb).trans z5
            clear hq
            go_wp2_with fail
            go_meet
            exact ⟨k.body[m], Lib.hid e0.symm, HW⟩
        case rest =>
          obtain ⟨la, HLA, HVL⟩ := hcut
          have h4' : la.args.length ≤ 4 := by rw [HLA.out]; exact h4
          have HIA := Lib.hid (show ∀ wx, Below w.heap.size w wx → la.In wx wx.heap.size from fun wx hx => HIN.out wx hx la (by rw [HLA.out]; exact HML.out))
          obtain ⟨y0, y1, y2, y3, y4, y5⟩ := HVL.out.x.six
          go_upto_if 30 with fail
          go_cut [3] (fun o wx => ∃ (acc2 : List ByteArray) (q2 : Option Addr) (c2 : Nat), o = .slice q2 acc2.length c2 ∧ acc2.length ≤ acc.length + 1 ∧ Hid (acc2 = putV acc la.who.v) ∧ Hid (VL W0 (.slice q2 acc2.length c2) acc2 wr.heap.size la wx))
          case first =>
            have HFW := Lib.hid (putV_W acc la.who.v)
            have hle := HVL.out.vv.b.size
            have hacc : acc.length ≤ 4096 := by omega
            cases h0 : la.who.v.toList.isEmpty with
            | true =>
              have hp : ¬ (0 : Int) < (la.who.v.size : Int) := by rw [size_posI, h0]; decide
              rw [h0] at HFW
              clear h0
              go_wp2_with fail
              go_meet
              exact ⟨acc, q, c, rfl, by omega, Lib.hid (HFW.out.trans rfl).symm, HVL⟩
            | false =>
              obtain ⟨hp, hp1, hp2⟩ := ba_full h0
              rw [h0] at HFW
              clear h0
              go_wp2_with (go_at_call 53; refine (HPT.out _ _ acc la.who.v _ HVL.out.vv.row HVL.out.vv.b.size hacc).mono ?_; rintro e w5 ⟨v5, rfl, hr5, hb5, hk5⟩; have HV5 := Lib.hid (HVL.out.put hr5 hb5 hk5); clear hr5 hb5 hk5)
              obtain ⟨q5, c5, rfl, _, _⟩ := grw_form ES (.inr HV5.out.vv.row) HV5.out.vv.b.size
              go_meet
              exact ⟨putW acc la.who.v, q5, c5, rfl, putW_len _ _, Lib.hid (HFW.out.trans rfl).symm, HV5⟩
          case rest =>
            obtain ⟨acc2, q2, c2, rfl, hal2, HA2, HV2⟩ := hcut
            clear y0 y1 y2 y3 y4 y5 x0 x1 x2 x3 x4 x5 x6
            go_wp2_with fail
            go_loopw [3, 6] (fun o i wz => ∃ (m : Nat) (acc3 : List ByteArray) (q3 : Option Addr) (c3 : Nat), m ≤ la.args.length ∧ o = .slice q3 acc3.length c3 ∧ i = .int .i64 m ∧ acc3.length ≤ acc.length + 1 + m ∧ Hid (la.args.foldl addA acc2 = (la.args.drop m).foldl addA acc3) ∧ Hid (VL W0 (.slice q3 acc3.length c3) acc3 wr.heap.size la wz)) (fun _ i _ => la.args.length - (intOf i).toNat)
            case atStart => exact ⟨0, acc2, q2, c2, Nat.zero_le _, rfl, rfl, by omega, Lib.hid rfl, HV2⟩
            case round =>
              obtain ⟨m, acc3, q3, c3, hm, rfl, rfl, hal3, HG, HV3⟩ := hrel
              obtain ⟨y0, y1, y2, y3, y4, y5⟩ := HV3.out.x.six
              by_cases hlt3 : m < la.args.length
              · obtain ⟨b, o, hq, hbb, e0, e1, e2⟩ := rdM_at (HIA.out _ (HS1.out.on HV3.out.vv.b).b).args m hlt3
                rw [hq] at y5
                clear hq
                have HGS := Lib.hid (fold_step addA la.args m hlt3 acc3)
                have HFW := Lib.hid (putV_W acc3 la.args[m].v)
                have hm0 : (0 : Int) ≤ (m : Int) := by omega
                have hm1 : (m : Int) < (la.args.length : Int) := by omega
                have hacc : acc3.length ≤ 4096 := by omega
                generalize la.args[m] = ta at *
                obtain ⟨tv, ts, tn⟩ := ta
                simp only at e0 HFW
                cases h0 : tv.toList.isEmpty with
                | true =>
                  have hp : ¬ (0 : Int) < (tv.size : Int) := by rw [size_posI, h0]; decide
                  rw [h0] at HFW
                  clear h0
                  go_wp2_with fail
                  go_roundw
                  case rel => exact ⟨m + 1, acc3, q3, c3, by omega, rfl, by go_num, by omega, Lib.hid ((HG.out.trans HGS.out).trans (by rw [show addA acc3 ⟨tv, ts, tn⟩ = putV acc3 tv from rfl, HFW.out]; rfl)), HV3⟩
                  case measure => simp [intOf]; omega
                | false =>
                  obtain ⟨hp, hp1, hp2⟩ := ba_full h0
                  rw [h0] at HFW
                  clear h0
                  go_wp2_with (go_at_call 53; refine (HPT.out _ _ acc3 tv _ HV3.out.vv.row HV3.out.vv.b.size hacc).mono ?_; rintro e w5 ⟨v5, rfl, hr5, hb5, hk5⟩; have HV5 := Lib.hid (HV3.out.put hr5 hb5 hk5); clear hr5 hb5 hk5)
                  obtain ⟨q5, c5, rfl, _, _⟩ := grw_form ES (.inr HV5.out.vv.row) HV5.out.vv.b.size
                  have hpl := putW_len acc3 tv
                  go_roundw
                  case rel => exact ⟨m + 1, putW acc3 tv, q5, c5, by omega, rfl, by go_num, by omega, Lib.hid ((HG.out.trans HGS.out).trans (by rw [show addA acc3 ⟨tv, ts, tn⟩ = putV acc3 tv from rfl, HFW.out]; rfl)), HV5⟩
                  case measure => simp [intOf]; omega
              · have HE := Lib.hid (show la.args.foldl addA acc2 = acc3 by rw [HG.out, fold_end _ _ _ (by omega)])
                clear HG
                go_wp2_with fail
                go_roundw
                case rel => exact ⟨j + 1, acc3, q3, c3, iv + 1, by omega, rfl, by go_num, by omega, Lib.hid (by have := HIV.out; omega), Lib.hid (by rw [HF.out, HFS.out, litV_def, ← HLA.out, ← HA2.out, HE.out]), Lib.hid HV3.out.vv⟩
                case measure => have := HIV.out; simp [intOf]; omega
      · have HVE := Lib.hid (show k.vars = acc by rw [HR.out, if_pos (by simp), HF.out, fold_end _ _ _ (by omega)])
        have hn : ¬ iv < (k.body.length : Int) := by have := HIV.out; omega
        obtain ⟨q', c', he, hrd, _⟩ := grw_form ES (.inr HV.out.row) HV.out.b.size
        injection he with he1 he2 he3
        subst he1 he3
        have HRD := Lib.hid hrd
        clear hrd
        go_wp2_with fail
        go_ret
        first
          | exact ⟨q, c, by rw [HVE.out]; rfl, by rw [HVE.out]; exact HRD.out, HSR.out.b⟩
          | exact ⟨q, ⟨c, by rw [HVE.out]; rfl⟩, by rw [HVE.out]; exact HRD.out, HSR.out.b⟩
          | (rw [HVE.out]; exact ⟨q, ⟨c, rfl⟩, HRD.out, HSR.out.b⟩)
end Go.Proofs.YtnjdganikeganaaGreatDoor

/-
  How many variables a clause has; the boxed clause's cells.
-/
namespace Go.Proofs.YtnjdganikeganaaGreatDoor
open Go.RowKit

theorem FS.cells {k : Kp} {w X : World} (h : FS k w X) : X.cell? ⟨w.heap.size, 0, none⟩ = some (.int .u8 k.head.kind) ∧ X.cell? ⟨w.heap.size, 1, none⟩ = some (.string k.head.who.v) ∧ X.cell? ⟨w.heap.size, 2, none⟩ = some (.string k.head.who.s) ∧ X.cell? ⟨w.heap.size, 3, none⟩ = some (.int .i64 k.head.who.n) ∧ X.cell? ⟨w.heap.size, 4, none⟩ = some (.string k.head.pred) ∧ X.cell? ⟨w.heap.size, 5, none⟩ = some (.slice k.head.ptr k.head.args.length k.head.cap) ∧ X.cell? ⟨w.heap.size, 6, none⟩ = some (.slice k.ptr k.body.length k.cap) ∧ Hid (FS k w X) := by
  obtain ⟨x0, x1, x2, x3, x4, x5, x6⟩ := h.x.seven
  exact ⟨x0, x1, x2, x3, x4, x5, x6, Lib.hid h⟩

theorem litV_bd (l : Lp) (xs : List ByteArray) (h : l.args.length ≤ 4) : (litV xs l).length ≤ xs.length + 5 := by
  have h1 := putArgs_len l.args (putV xs l.who.v)
  have h2 := putV_len xs l.who.v
  unfold litV
  omega
theorem foldV_bd : ∀ (ls : List Lp) (xs : List ByteArray), (∀ l ∈ ls, l.args.length ≤ 4) → (ls.foldl litV xs).length ≤ xs.length + 5 * ls.length
  | [], xs, _ => by simp
  | l :: r, xs, h => by
    have h1 := foldV_bd r (litV xs l) (fun x hx => h x (List.mem_cons_of_mem _ hx))
    have h2 := litV_bd l xs (h l List.mem_cons_self)
    rw [List.foldl_cons, List.length_cons]
    omega
theorem vars_bd (k : Kp) : k.vars.length ≤ 1000 := by
  unfold Kp.vars
  cases hck : k.check with
  | false => simp
  | true =>
    unfold Kp.check at hck
    simp only [Bool.and_eq_true, decide_eq_true_eq, List.all_eq_true] at hck
    obtain ⟨hlen, _, hask, hbody⟩ := hck
    have h := foldV_bd (k.head :: k.body) [] (fun l hl => by
      rcases List.mem_cons.1 hl with rfl | hl
      · unfold Lp.ask at hask
        simp only [Bool.and_eq_true] at hask
        have h := hask.2
        unfold Lp.said at h
        simp only [Bool.and_eq_true, decide_eq_true_eq] at h
        exact h.2.2.1
      · exact lit_four (hbody l hl))
    simp only [List.length_nil, List.length_cons] at h
    simp only [if_true]
    omega

end Go.Proofs.YtnjdganikeganaaGreatDoor
