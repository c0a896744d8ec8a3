/-
  The walk of WalBack.
-/
import Derived.Test.YtlhbjpnmeimciaaDoorWbp
import Derived.Test.YtlhbjpnmeimciaaDoorWrl
import Derived.Test.YtlhbjpnmeimciaaDoorWsc
import Derived.Test.YtlhbjpnmeimciaaDoorStp
set_option linter.unusedVariables false
set_option linter.unusedSimpArgs false
namespace Go.Proofs.YtlhbjpnmeimciaaDoor
open Go.RowKit

/-- what is kept of the argument -/
structure Bp (X w : World) (n cut : Int) (p : Option Addr) (m : List UInt8) (d : Nat) (q : Option Addr) (r : List UInt8) (c : Nat) : Prop where
  env : Env X
  rm : Rd0 X p m
  rr : Rd0 X q r
  box : ∀ k j, k = m.length → j = r.length → Bk X w.heap.size 36 #[.int .i64 n, .slice p k d, .slice q j c, .int .i64 cut]
  bel : Below w.heap.size w X
theorem Bp.on {X X' w : World} {n cut : Int} {p q : Option Addr} {m r : List UInt8} {d c : Nat} (h : Bp X w n cut p m d q r c) (hb : Below X.heap.size X X') : Bp X' w n cut p m d q r c :=
  ⟨h.env.on hb h.env.size, h.rm.on hb, h.rr.on hb, fun k j hk hj => (h.box k j hk hj).on hb, h.bel.trans (hb.mono h.bel.size)⟩
theorem Bp.S {X w : World} {n cut : Int} {p q : Option Addr} {m r : List UInt8} {d c : Nat} (h : Bp X w n cut p m d q r c) (k j : Nat) (hk : k = m.length) (hj : j = r.length) :
    X.cell? ⟨w.heap.size, 0, none⟩ = some (.int .i64 n) ∧ X.cell? ⟨w.heap.size, 1, none⟩ = some (.slice p k d) ∧ X.cell? ⟨w.heap.size, 2, none⟩ = some (.slice q j c) ∧ X.cell? ⟨w.heap.size, 3, none⟩ = some (.int .i64 cut) :=
  ⟨(h.box k j hk hj).cell 0 _ rfl, (h.box k j hk hj).cell 1 _ rfl, (h.box k j hk hj).cell 2 _ rfl, (h.box k j hk hj).cell 3 _ rfl⟩
theorem Bp.S2 {X w : World} {n cut : Int} {p q : Option Addr} {m r : List UInt8} {d c : Nat} (h : Bp X w n cut p m d q r c) (k j : Nat) (hk : k = m.length) (hj : j = r.length) :
    X.cell? ⟨w.heap.size, 0, none⟩ = some (.int .i64 n) ∧ X.cell? ⟨w.heap.size, 1, none⟩ = some (.slice p k d) ∧ Hid (Bp X w n cut p m d q r c) := ⟨(h.S k j hk hj).1, (h.S k j hk hj).2.1, Lib.hid h⟩
theorem Bp.S3 {X w : World} {n cut : Int} {p q : Option Addr} {m r : List UInt8} {d c : Nat} (h : Bp X w n cut p m d q r c) (k j : Nat) (hk : k = m.length) (hj : j = r.length) :
    X.cell? ⟨w.heap.size, 2, none⟩ = some (.slice q j c) ∧ Hid (Bp X w n cut p m d q r c) := ⟨(h.S k j hk hj).2.2.1, Lib.hid h⟩
theorem Pl.first {w : World} {base : Nat} {v : Value} {x : SlA} {l : List SlA} (h : Pl w base v (x :: l)) : ∃ g cap, v = .slice (some ⟨g, 0, none⟩) (l.length + 1) cap ∧ w.cell? ⟨g, 0, none⟩ = some (.slice x.q x.m.length x.c) ∧ Rd0 w x.q x.m := by
  obtain ⟨g, cap, rfl, hge, hgl⟩ := h.own.form (by simp)
  refine ⟨g, cap, rfl, ?_, (h.ok x (by simp)).1⟩
  have := h.own.cells (g := g) rfl 0 (.slice x.q x.m.length x.c) rfl
  rwa [Addr.add_mid, Nat.zero_add] at this
/-- what lies above the box may turn -/
theorem Bp.on5 {X X' w : World} {n cut : Int} {p q : Option Addr} {m r : List UInt8} {d c : Nat} {o : Obj} {B : Nat} (h : Bp X w n cut p m d q r c) (hb : Below B (X.alloc o) X') (hB : B = X.heap.size) : Bp X' w n cut p m d q r c :=
  h.on ((below1 X o).trans (hB ▸ hb))

set_option maxRecDepth 100000 in
set_option maxHeartbeats 4000000 in
theorem back_walk (n : Int) (hi : n ≤ 9223372036854775807) (cut : Int) (p : Option Addr) (k : Nat) (m : List UInt8) (hk : k = m.length) (d : Nat) (hd : m.length ≤ d) (q : Option Addr) (j : Nat) (r : List UInt8) (hj : j = r.length) (c : Nat) (hc : r.length ≤ c) (w : World) (hE : Env w) (hm : Rd0 w p m) (hr : Rd0 w q r) :
    Calls Tryd.prog 5 #[.agg #[.int .i64 n, .slice p k d, .slice q j c, .int .i64 cut]] w fun r w' => r = .returned (.bool true) ∧ Below w.heap.size w w' := by
  have hb0 := below1 w (.cells #[.int .i64 n, .slice p k d, .slice q j c, .int .i64 cut] 36)
  have HA := Lib.hid (show Bp (w.alloc (.cells #[.int .i64 n, .slice p k d, .slice q j c, .int .i64 cut] 36)) w n cut p m d q r c from ⟨hE.on hb0 hE.size, hm.on hb0, hr.on hb0, fun k' j' hk' hj' => by rw [hk', hj', ← hk, ← hj]; exact Bk.new w _ _, hb0⟩)
  have HK := Lib.hid hk
  have HD := Lib.hid hd
  have HJ := Lib.hid hj
  have HC := Lib.hid hc
  have HI := Lib.hid hi
  clear hE hm hr hk hd hj hc hi hb0
  go_enter Tryd.func5, Tryd.ntmps5
  go_upto_region 3 with (go_at_call 9; refine (wfixed_any _ HA.out.env).mono ?_; rintro r w1 ⟨rfl, hb⟩; have HA1 := Lib.hid (HA.out.on hb); clear hb)
  have hI := HA1
  have HDR := Lib.hid (HA1.out.on (Below.drew (Below.refl _ _)))
  by_cases hbig : 3000 < k
  · have h1 : (3000 : Int) < (k : Int) := by omega
    obtain ⟨x0, x1, x2, x3⟩ := HA1.out.S _ _ HK.out HJ.out
    go_wp2_with fail
    go_ret
    exact ⟨by rfl, HA1.out.bel⟩
  have h1 : (k : Int) ≤ 3000 := by omega
  have h1' : ¬ (3000 : Int) < (k : Int) := by omega
  by_cases hbig2 : 3000 < j
  · have h2 : (3000 : Int) < (j : Int) := by omega
    obtain ⟨x0, x1, x2, x3⟩ := HA1.out.S _ _ HK.out HJ.out
    go_wp2_with fail
    go_ret
    exact ⟨by rfl, HA1.out.bel⟩
  have h2 : (j : Int) ≤ 3000 := by omega
  have h2' : ¬ (3000 : Int) < (j : Int) := by omega
  have HN := Lib.hid (show k ≤ 3000 ∧ j ≤ 3000 by omega)
  clear hbig hbig2
  obtain ⟨x0, x1, x2, x3⟩ := HA1.out.S _ _ HK.out HJ.out
  go_upto_region 5 with fail
  by_cases hlow : n < 1
  · have h3 : ¬ (1 ≤ n) := by omega
    have C1 := Lib.hid (fun qq X (h1 : Bp X w n cut p m d q r c) => record_low n hlow qq X)
    clear x0 x1 x2 x3
    obtain ⟨x0, x1, x2, x3⟩ := HDR.out.S _ _ HK.out HJ.out
    go_cut [3, 4] (fun s3 s4 wx => s3 = .slice none 0 0 ∧ s4 = .int .i64 1 ∧ Hid (Bp wx w n cut p m d q r c))
    case first =>
      go_region_held3 (fun X => X.cell? ⟨w.heap.size, 0, none⟩ = some (.int .i64 n) ∧ X.cell? ⟨w.heap.size, 1, none⟩ = some (.slice p k d) ∧ Hid (Bp X w n cut p m d q r c))
        (first
          | (exact (HDR.out).S2 _ _ HK.out HJ.out)
          | (exact ((Hid.out hI).on (below1 _ _)).S2 _ _ HK.out HJ.out)
          | (exact (HDR.out.on (below1 _ _)).S2 _ _ HK.out HJ.out)
          | (exact (Hid.out hI).S2 _ _ HK.out HJ.out)
          | go_keep)
        (first
          | (go_at_call 10; refine (C1.out _ _ (Hid.out hI)).mono ?_; rintro e wn ⟨rfl, hx⟩; have hI' := (Hid.out hI).on hx; have hI := Lib.hid hI'; clear hI' hx)
          | (refine step_app8 rfl _ _ rfl rfl w1.drew.heap.size _ [] rfl (acc_made (Nat.le_refl _)) p m k d rfl HK.out (HDR.out.on (below1 _ _)).rm (by have := HN.out; have := HK.out; simp; omega) (by simp) ?_; intro v5 w5 hA5 hb5; have hI' := HDR.out.on5 hb5 rfl; have hI := Lib.hid hI'; clear hI' hb5))
      go_wp2_with fail
      go_meet
      exact ⟨rfl, rfl, Lib.hid (Hid.out hI)⟩
    case rest =>
      obtain ⟨rfl, rfl, HQ⟩ := hcut
      clear x0 x1 x2 x3
      obtain ⟨x0, x1, x2, x3⟩ := HQ.out.S _ _ HK.out HJ.out
      go_wp2_with fail
      go_ret
      exact ⟨by rfl, HQ.out.bel⟩
  obtain ⟨n, rfl⟩ : ∃ i : Nat, n = (i : Int) := ⟨n.toNat, by omega⟩
  have HI2 := Lib.hid (show 1 ≤ n ∧ n < 9223372036854775808 by have := HI.out; omega)
  have w1n : (1 : Int) ≤ (n : Int) := by omega
  have w2n : ¬ (n : Int) < 1 := by omega
  have C1 := Lib.hid (fun qq cc X (h1 : Bp X w (n : Int) cut p m d q r c) (h2 : Rd0 X qq m) (h3 : m.length ≤ cc) => record_good n HI2.out.1 HI2.out.2 qq k cc m HK.out X h2 h3 h1.env (by have := HN.out; omega))
  obtain ⟨K7, hK7⟩ : ∃ K7, K7 = k + 17 := ⟨_, rfl⟩
  have HK7 := Lib.hid hK7
  clear x0 x1 x2 x3 hlow HI hK7
  obtain ⟨x0, x1, x2, x3⟩ := HDR.out.S _ _ HK.out HJ.out
  go_cut [3, 4] (fun s3 s4 wx => ∃ q3 c3, s3 = .slice q3 K7 c3 ∧ s4 = .int .i64 0 ∧ Hid (K7 ≤ c3 ∧ Rd0 wx q3 (recS n m) ∧ Bp wx w n cut p m d q r c))
  case first =>
    go_region_held3 (fun X => X.cell? ⟨w.heap.size, 0, none⟩ = some (.int .i64 n) ∧ X.cell? ⟨w.heap.size, 1, none⟩ = some (.slice p k d) ∧ Hid (Bp X w n cut p m d q r c))
      (first
        | (exact (HDR.out).S2 _ _ HK.out HJ.out)
        | (exact ((Hid.out hI).on (below1 _ _)).S2 _ _ HK.out HJ.out)
        | (exact (HDR.out.on (below1 _ _)).S2 _ _ HK.out HJ.out)
        | (exact (Hid.out hI).S2 _ _ HK.out HJ.out)
        | go_keep)
      (first
        | (go_at_call 10; refine (C1.out p5 c5 _ (Hid.out hI) (Hid.out hr5) (Hid.out hl5)).mono ?_; rintro e wn ⟨v', rfl, hA', hx⟩; have hA := Lib.hid hA'; have hI' := (Hid.out hI).on hx; have hI := Lib.hid hI'; clear hI' hx hA')
        | (refine step_app8 rfl _ _ rfl rfl w1.drew.heap.size _ [] rfl (acc_made (Nat.le_refl _)) p m k d rfl HK.out (HDR.out.on (below1 _ _)).rm (by have := HN.out; have := HK.out; simp; omega) (by simp) ?_; intro v5 w5 hA5 hb5; obtain ⟨p5, c5, he5, hl5', hr5'⟩ := hA5.rd; rw [List.nil_append] at he5 hl5' hr5'; rw [← HK.out] at he5; subst he5; have hl5 := Lib.hid hl5'; have hr5 := Lib.hid hr5'; have hI' := HDR.out.on5 hb5 rfl; have hI := Lib.hid hI'; clear hI' hb5 hl5' hr5' hA5))
    obtain ⟨q6, c6, rfl, hl6, hr6⟩ := hA.out.rd
    have HRL := Lib.hid (show (recS n m).length = K7 by rw [recS_len, ← HK.out, HK7.out])
    rw [HRL.out] at hl6 ⊢
    have HH6 := Lib.hid (And.intro hl6 (And.intro hr6 (Hid.out hI)))
    clear hl6 hr6 hA
    go_wp2_with fail
    go_meet
    exact ⟨_, _, rfl, rfl, HH6⟩
  case rest =>
    obtain ⟨q3, c3, rfl, rfl, HQ⟩ := hcut
    clear x0 x1 x2 x3
    obtain ⟨x0, x1, x2, x3⟩ := HQ.out.2.2.S _ _ HK.out HJ.out
    by_cases hgr : (1099511627776 : Int) < (n : Int)
    · go_wp2_with fail
      go_ret
      exact ⟨by rfl, HQ.out.2.2.bel⟩
    have hgr2 : (n : Int) ≤ 1099511627776 := by omega
    go_upto_region 8 with fail
    obtain ⟨ext, e', hsg, he'⟩ := scan_rec n m r HI2.out.1 (by omega) (by have := HN.out; have := HK.out; omega)
    obtain ⟨L8, hL8⟩ : ∃ L8, (recS n m ++ r).length = L8 := ⟨_, rfl⟩
    have HL8 := Lib.hid hL8
    have HB8 := Lib.hid (show L8 ≤ 10000 by rw [← hL8, List.length_append, recS_len]; have := HN.out; have := HK.out; have := HJ.out; omega)
    have C2 := Lib.hid (fun qq cc X (h1 : Env X) (h2 : Rd0 X qq (recS n m ++ r)) (h3 : L8 ≤ cc) => scan_any qq L8 cc (recS n m ++ r) HL8.out.symm X h2 (by rw [HL8.out]; exact h3) h1 (by rw [HL8.out]; have := HB8.out; omega))
    simp only [hsg] at C2
    have HCUT := Lib.hid (fun i hi => scan_cut n m (by have := HN.out; have := HK.out; omega) i hi)
    have HE' := Lib.hid (show K7 ≤ e' by rw [HK7.out, HK.out]; exact he')
    have HRL := Lib.hid (show (recS n m).length = K7 by rw [recS_len, ← HK.out, HK7.out])
    generalize recS n m = RS at *
    clear hL8
    clear hsg he' x0 x1 x3 hgr C1
    have HDQ := Lib.hid (HQ.out.2.2.on (Below.drew (Below.refl _ _)))
    have HRQ := Lib.hid (HQ.out.2.1.on (Below.drew (Below.refl _ _)))
    have hI := HDQ
    obtain ⟨_, _, x2, _⟩ := HDQ.out.S _ _ HK.out HJ.out
    go_cut [5, 6, 7] (fun s5 s6 s7 wx => ∃ g6 c6 L6 xq xc, s5 = .int .i64 (n : Int) ∧ s6 = .slice (some ⟨g6, 0, none⟩) L6 c6 ∧ s7 = .int .i64 (e' : Int) ∧ Hid (1 ≤ L6 ∧ wx.cell? ⟨g6, 0, none⟩ = some (.slice xq k xc) ∧ Rd0 wx xq m ∧ Rd0 wx q3 (RS) ∧ Bp wx w n cut p m d q r c))
    case first =>
      go_region_held3 (fun X => X.cell? ⟨w.heap.size, 2, none⟩ = some (.slice q j c) ∧ Hid (Bp X w n cut p m d q r c))
        (first
          | (exact (Hid.out hI).S3 _ _ HK.out HJ.out)
          | (exact ((Hid.out hI).on (below1 _ _)).S3 _ _ HK.out HJ.out)
          | go_keep)
        (first
          | (go_at_call 12; refine (C2.out p6 c6 _ (Hid.out hI).env (Hid.out hr6) (Hid.out hl6)).mono ?_; rintro e wn ⟨⟨v7, l7, rfl, hP', hM'⟩, hx⟩; have hP := Lib.hid hP'; have hM := Lib.hid hM'; have hrq' := (Hid.out hrq).on hx; have hrq := Lib.hid hrq'; have hI' := (Hid.out hI).on hx; have hI := Lib.hid hI'; clear hI' hx hP' hM' hrq')
          | (refine step_app8 rfl _ _ rfl rfl wc.drew.heap.size _ _ rfl (Hid.out hA5) q r j c rfl HJ.out (Hid.out hI).rr (by rw [HRL.out]; have := HN.out; have := HK7.out; have := HJ.out; omega) (Hid.out hs5) ?_; intro v6 w6 hA6 hb6; obtain ⟨p6, c6, he6, hl6', hr6'⟩ := hA6.rd; rw [HL8.out] at he6 hl6'; subst he6; have hl6 := Lib.hid hl6'; have hr6 := Lib.hid hr6'; have hI' := HDQ.out.on ((Hid.out hb5).trans hb6); have hI := Lib.hid hI'; have hrq := Lib.hid (HRQ.out.on ((Hid.out hb5).trans hb6)); clear hI' hl6' hr6' hA6)
          | (refine step_app8 rfl _ _ rfl rfl wc.drew.heap.size _ [] rfl (acc_made (Nat.le_refl _)) q3 (RS) K7 c3 rfl HRL.out.symm (HRQ.out.on (below1 _ _)) (by rw [HRL.out]; have := HN.out; have := HK7.out; simp; omega) (by simp) ?_; intro v5 w5 hA5' hb5'; rw [List.nil_append] at hA5'; have hA5 := Lib.hid hA5'; have hb5 := Lib.hid ((below1 wc.drew _).trans hb5'); have hs5 := Lib.hid (Hid.out hb5).size; have hI' := HDQ.out.on (Hid.out hb5); have hI := Lib.hid hI'; clear hI' hb5' hA5'))
      obtain ⟨x, l', rfl, hxm⟩ : ∃ x l', l7 = x :: l' ∧ x.m = m := by
        match l7, hM.out with
        | x :: l', h => exact ⟨x, l', rfl, (List.cons.inj h).1⟩
      obtain ⟨g6, c9, rfl, hg6, hr9⟩ := (Hid.out hP).first
      subst hxm
      have HF := Lib.hid (show 1 ≤ l'.length + 1 ∧ wn.cell? ⟨g6, 0, none⟩ = some (.slice x.q k x.c) ∧ Rd0 wn x.q x.m ∧ Rd0 wn q3 RS ∧ Bp wn w n cut p x.m d q r c from ⟨by omega, by rw [HK.out]; exact hg6, hr9, Hid.out hrq, Hid.out hI⟩)
      clear hg6 hr9 hP hM
      generalize l'.length + 1 = L6 at *
      go_wp2_with fail
      go_meet
      exact ⟨_, _, _, _, _, rfl, rfl, rfl, HF⟩
    case rest =>
      obtain ⟨g6, c6, L6, xq, xc, rfl, rfl, rfl, HR⟩ := hcut
      have HRD := Lib.hid (HR.out.2.2.2.2.on (Below.drew (Below.refl _ _)))
      have HCC := HR.out.2.1
      have l1 : (1 : Int) ≤ (L6 : Int) := by have := HR.out.1; omega
      have l2 : ¬ (L6 : Int) < 1 := by omega
      have l3 : (0 : Int) < (L6 : Int) := by omega
      have l4 : 0 < L6 := by omega
      have e1 : (K7 : Int) ≤ (e' : Int) := by have := HE'.out; omega
      have e2 : ¬ (e' : Int) < (K7 : Int) := by omega
      have hcv1 := run_back8 wc.drew xq m xc (HR.out.2.2.1.on (Below.drew (Below.refl _ _)))
      have hcv2 := run_back8 wc.drew p m d HRD.out.rm
      rw [← HK.out] at hcv1 hcv2
      have y0 := (HRD.out.S _ _ HK.out HJ.out).1
      have y1 := (HRD.out.S _ _ HK.out HJ.out).2.1
      have y2 : wc.drew.cell? ⟨g6, 0, none⟩ = some (.slice xq k xc) := HCC
      clear C2 x2 HCC
      go_upto_region 9 with fail
      go_region_held3 (fun X => X = wc.drew) (first | rfl | go_keep) (fail)
      clear hcv1 hcv2 y0 y1 y2 l1 l2 l3 l4 e1 e2
      have y3 := (HRD.out.S _ _ HK.out HJ.out).2.2.2
      have HRS := Lib.hid (HR.out.2.2.2.1.on (Below.drew (Below.refl _ _)))
      clear HR
      generalize wc.drew = W9 at *
      go_upto_region 11 with fail
      have u1 : IntKind.u64.wrap (K7 : Int) = (K7 : Int) := IntWalk.u64_in _ (by have := HK7.out; have := HN.out; omega)
      have u2 : ¬ K7 = 0 := by have := HK7.out; omega
      have u3 : ((K7 : Int) == 0) = false := by rw [beq_eq_false_iff_ne]; omega
      go_upto_region 12 with fail
      clear u1 u2 u3
      obtain ⟨J, hJ, HJ7⟩ : ∃ J : Nat, wrap64 ((IntKind.u64.wrap cut).tmod (K7 : Int)) = (J : Int) ∧ Hid (J < K7) := by
        have h0 : 0 ≤ IntKind.u64.wrap cut := by
          rw [show IntKind.u64.wrap cut = cut % 18446744073709551616 by simp [IntKind.wrap, IntKind.bits, IntKind.signed]]
          exact Int.emod_nonneg _ (by decide)
        have hk0 : (0 : Int) < (K7 : Int) := by have := HK7.out; omega
        have h1 := Int.tmod_nonneg (K7 : Int) h0
        have h2 := Int.tmod_lt_of_pos (IntKind.u64.wrap cut) hk0
        refine ⟨((IntKind.u64.wrap cut).tmod (K7 : Int)).toNat, ?_, Lib.hid (by omega)⟩
        rw [Int.toNat_of_nonneg h1]
        exact IntWalk.wrap64_in _ (by have := HK7.out; have := HN.out; omega)
      simp only [hJ]
      clear hJ
      have HLJ := Lib.hid (show J = (RS.take J).length by rw [List.length_take, HRL.out]; have := HJ7.out; omega)
      have hs1 := fun wx => run_slice_to (P := Tryd.prog) 22 5 Tryd.underlying22 (by kernel_rfl) q3 K7 c3 .i64 (J : Int) J rfl (by have := HJ7.out; have := HQ.out.1; omega) wx
      have C3 := Lib.hid (scan_any q3 J c3 (RS.take J) HLJ.out W9 (HRS.out.take J) (by rw [← HLJ.out]; have := HJ7.out; have := HQ.out.1; omega) HRD.out.env (by rw [← HLJ.out]; have := HJ7.out; have := HK7.out; have := HN.out; omega))
      rw [HCUT.out J (by rw [← HK.out]; have := HJ7.out; have := HK7.out; omega)] at C3
      go_upto_region 13 with (go_at_call 12; refine C3.out.mono ?_; rintro e wn ⟨⟨v7, l7, rfl, hP', hM'⟩, hx⟩; have HW := Lib.hid (HRD.out.on hx); have hP := Lib.hid hP'; have hM := Lib.hid hM'; clear hx hP' hM')
      obtain rfl : l7 = [] := List.map_eq_nil_iff.1 hM.out
      obtain ⟨p9, d9, rfl, _⟩ := hP.out.form
      clear hP hM C3 hs1
      go_wp2_with fail
      go_ret
      exact ⟨by rfl, HW.out.bel⟩
end Go.Proofs.YtlhbjpnmeimciaaDoor
