/-
  Wll, joined.
-/
import Derived.Test.YtooiaadnhglifaaDoorJwf
namespace Go.Proofs.YtooiaadnhglifaaDoor
section
set_option linter.unusedVariables false
set_option linter.unusedSimpArgs false
open Go.Maps Go.RowKit

theorem lw_fuse {X w : World} {lb : Nat} {s : LS} (h : Lw X w lb s) (n : Int) (hn : n ≤ 9223372036854775807) :
    Calls Tryd.prog 19 #[.pointer (some ⟨w.heap.size + 1, 0, none⟩), .int .i64 n] X fun r w' => r = .returned (.tuple #[]) ∧ Lw w' w lb ⟨fuseS s.d n, s.ps, s.dn⟩ := by
  obtain ⟨O, v, l0, hW, h2⟩ := h.ex
  obtain ⟨⟨fs, on, left⟩, ps, dn⟩ := s
  obtain ⟨mb, l, hD, hfs, hO⟩ := id hW.dk
  simp only at hD hfs
  subst hfs
  refine (fuse_any w.heap.size (w.heap.size + 1) mb l on left n hn X hD).mono fun r w' ⟨h1, h2', h3⟩ => ⟨h1, ?_⟩
  have g2 := Only.fr h3 (O := OwnD (w.heap.size + 1) mb l) (.inl rfl)
  have hDk : Dk w' w.heap.size (w.heap.size + 1) (fuseS ⟨l.map absF, on, left⟩ n) (OwnD (w.heap.size + 1) mb l) := ⟨mb, l, by cases on <;> exact h2', by cases on <;> rfl, rfl⟩
  subst hO
  obtain ⟨O', k1, _, _⟩ := hW.disk ⟨_, hDk, g2⟩
  exact ⟨⟨O', v, l0, k1, h2⟩, h.bel.trans (g2.below (fun b hb => (hW.dk.lt b hb).2) h.bel.size)⟩
theorem lz_append0 {Z : Nat → Prop} {X1 X W w : World} {lb : Nat} {s S : LS} (h : Lz Z X1 W w lb s) (hb : Below X1.heap.size X1 X) {v0 : Value} (m : List UInt8) (hA : Acc X X1.heap.size v0 m) (hE : Env w) (hl : s.ps.length ≤ 1000000) (he : wAppS s m = (S, 0)) :
    Calls Tryd.prog 17 #[.pointer (some ⟨lb, 0, none⟩), v0] X fun r w' => r = .returned (.int .i64 0) ∧ Lz Z w' W w lb S := by
  have h1 := lz_append h hb m hA hE hl
  rw [he] at h1
  exact h1
theorem lz_chk0 {Z : Nat → Prop} {X W w : World} {lb : Nat} {s S : LS} (h : Lz Z X W w lb s) (hE : Env w) (hl : s.ps.length ≤ 1000000) (hz : (recsS 0 s.ps).length ≤ 10000000) (he : wChkS s = (S, 0)) :
    Calls Tryd.prog 18 #[.pointer (some ⟨lb, 0, none⟩)] X fun r w' => r = .returned (.int .i64 0) ∧ Lz Z w' W w lb S := by
  have h1 := lz_chk h hE hl hz
  rw [he] at h1
  exact h1
/-- the cells of the argument's box -/
def boxL (X : World) (b : Nat) (p0 : Option Addr) (n0 c0 : Nat) (chk : Bool) (p2 : Option Addr) (n2 c2 : Nat) (kind units keep : Int) (p6 : Option Addr) (n6 c6 : Nat) (p7 : Option Addr) (n7 c7 : Nat) : Prop :=
  X.cell? ⟨b, 0, none⟩ = some (.slice p0 n0 c0) ∧ X.cell? ⟨b, 1, none⟩ = some (.bool chk) ∧ X.cell? ⟨b, 2, none⟩ = some (.slice p2 n2 c2) ∧ X.cell? ⟨b, 3, none⟩ = some (.int .i64 kind) ∧ X.cell? ⟨b, 4, none⟩ = some (.int .i64 units) ∧ X.cell? ⟨b, 5, none⟩ = some (.int .i64 keep) ∧ X.cell? ⟨b, 6, none⟩ = some (.slice p6 n6 c6) ∧ X.cell? ⟨b, 7, none⟩ = some (.slice p7 n7 c7)
abbrev lifeV (p0 : Option Addr) (n0 c0 : Nat) (chk : Bool) (p2 : Option Addr) (n2 c2 : Nat) (kind units keep : Int) (p6 : Option Addr) (n6 c6 : Nat) (p7 : Option Addr) (n7 c7 : Nat) : Array Value :=
  #[.slice p0 n0 c0, .bool chk, .slice p2 n2 c2, .int .i64 kind, .int .i64 units, .int .i64 keep, .slice p6 n6 c6, .slice p7 n7 c7]
theorem boxL_of {X : World} {b T : Nat} {p0 p2 p6 p7 : Option Addr} {n0 c0 n2 c2 n6 c6 n7 c7 : Nat} {chk : Bool} {kind units keep : Int} (h : Bk X b T (lifeV p0 n0 c0 chk p2 n2 c2 kind units keep p6 n6 c6 p7 n7 c7)) : boxL X b p0 n0 c0 chk p2 n2 c2 kind units keep p6 n6 c6 p7 n7 c7 :=
  ⟨h.cell 0 _ rfl, h.cell 1 _ rfl, h.cell 2 _ rfl, h.cell 3 _ rfl, h.cell 4 _ rfl, h.cell 5 _ rfl, h.cell 6 _ rfl, h.cell 7 _ rfl⟩

set_option maxRecDepth 100000 in
set_option maxHeartbeats 8000000 in
theorem wlasts_walk (p0 : Option Addr) (n0 c0 : Nat) (l : List SlA) (hn0 : n0 = l.length) (chk : Bool) (p2 : Option Addr) (n2 c2 : Nat) (m2 : List UInt8) (hn2 : n2 = m2.length) (hc2 : m2.length ≤ c2) (kind units keep : Int) (hu : units ≤ 9223372036854775807) (hk : keep ≤ 9223372036854775807)
    (p6 : Option Addr) (n6 c6 : Nat) (p7 : Option Addr) (n7 c7 : Nat) (m7 : List UInt8) (hn7 : n7 = m7.length) (hc7 : m7.length ≤ c7) (w : World) (hE : Env w) (hl : Lsa w p0 l) (hm2 : Rd0 w p2 m2) (hm7 : Rd0 w p7 m7)
    (hA : ∀ k, k < n6 → ∃ b off z, p6 = some ⟨b, off, none⟩ ∧ b < w.heap.size ∧ z ≤ 9223372036854775807 ∧ w.cell? ⟨b, off + k, none⟩ = some (.int .i64 z)) :
    Calls Tryd.prog 6 #[.agg (lifeV p0 n0 c0 chk p2 n2 c2 kind units keep p6 n6 c6 p7 n7 c7)] w fun r w' => r = .returned (.bool true) ∧ Below w.heap.size w w' := by
  have hb0 := below1 w (.cells (lifeV p0 n0 c0 chk p2 n2 c2 kind units keep p6 n6 c6 p7 n7 c7) 41)
  have HBK := Lib.hid (Bk.new w 41 (lifeV p0 n0 c0 chk p2 n2 c2 kind units keep p6 n6 c6 p7 n7 c7))
  have HB0 := Lib.hid hb0
  have HE := Lib.hid (hE.on hb0 hE.size)
  have HL := Lib.hid (hl.onW hb0)
  have HM2 := Lib.hid (hm2.on hb0)
  have HM7 := Lib.hid (hm7.on hb0)
  have HAG := Lib.hid (show ∀ k, k < n6 → ∃ b off z, p6 = some ⟨b, off, none⟩ ∧ b < w.heap.size ∧ z ≤ 9223372036854775807 ∧ (w.alloc (.cells (lifeV p0 n0 c0 chk p2 n2 c2 kind units keep p6 n6 c6 p7 n7 c7) 41)).cell? ⟨b, off + k, none⟩ = some (.int .i64 z) from fun k hk => by
    obtain ⟨b, off, z, h1, h2, h3, h4⟩ := hA k hk
    exact ⟨b, off, z, h1, h2, h3, (hb0.cell (p := ⟨b, off + k, none⟩) h2).trans h4⟩)
  have HN := Lib.hid (And.intro hn0 (And.intro hn2 (And.intro hc2 (And.intro hn7 hc7))))
  have HU := Lib.hid (And.intro hu hk)
  clear hE hl hm2 hm7 hA hn0 hn2 hc2 hn7 hc7 hu hk hb0
  go_enter Tryd.func6, Tryd.ntmps6
  go_upto_region 3 with (go_at_call 9; refine (wfixed_any _ HE.out).mono ?_; rintro r w1 ⟨rfl, hb⟩; have HB1 := Lib.hid hb; clear hb)
  have HBB := Lib.hid (show Below w.heap.size w w1 from HB0.out.trans (HB1.out.mono (by simp)))
  have HX := Lib.hid (fun X (h : Below w1.heap.size w1 X) => boxL_of ((HBK.out.on HB1.out).on h))
  have HE1 := Lib.hid (HE.out.on HB1.out HE.out.size)
  have HL1 := Lib.hid (HL.out.onW HB1.out)
  have HR2 := Lib.hid (HM2.out.on HB1.out)
  have HR7 := Lib.hid (HM7.out.on HB1.out)
  have HAA := Lib.hid (show ∀ k, k < n6 → ∃ b off z, p6 = some ⟨b, off, none⟩ ∧ b < w1.heap.size ∧ z ≤ 9223372036854775807 ∧ w1.cell? ⟨b, off + k, none⟩ = some (.int .i64 z) from fun k hk => by
    obtain ⟨b, off, z, h1, h2, h3, h4⟩ := HAG.out k hk
    have h5 : b < (w.alloc (.cells (lifeV p0 n0 c0 chk p2 n2 c2 kind units keep p6 n6 c6 p7 n7 c7) 41)).heap.size := by simp; omega
    exact ⟨b, off, z, h1, Nat.lt_of_lt_of_le h5 HB1.out.size, h3, (HB1.out.cell (p := ⟨b, off + k, none⟩) h5).trans h4⟩)
  clear HBK HB0 HE HL HM2 HM7 HAG HB1
  obtain ⟨bx, hbx⟩ : ∃ bx, bx = w.heap.size := ⟨_, rfl⟩
  rw [← hbx] at HX ⊢
  clear hbx
  obtain ⟨x0, x1, x2, x3, x4, x5, x6, x7⟩ := HX.out w1 (Below.refl _ _)
  by_cases h1 : 12 < n0
  · have z1 : (12 : Int) < (n0 : Int) := by omega
    go_wp2_with fail
    go_ret
    exact ⟨by rfl, HBB.out⟩
  have z1 : ¬ (12 : Int) < (n0 : Int) := by omega
  by_cases h2 : 200 < n2
  · have z2 : (200 : Int) < (n2 : Int) := by omega
    go_wp2_with fail
    go_ret
    exact ⟨by rfl, HBB.out⟩
  have z2 : ¬ (200 : Int) < (n2 : Int) := by omega
  by_cases h3 : 200 < n7
  · have z3 : (200 : Int) < (n7 : Int) := by omega
    go_wp2_with fail
    go_ret
    exact ⟨by rfl, HBB.out⟩
  have z3 : ¬ (200 : Int) < (n7 : Int) := by omega
  by_cases h4 : 8 < n6
  · have z4 : (8 : Int) < (n6 : Int) := by omega
    go_wp2_with fail
    go_ret
    exact ⟨by rfl, HBB.out⟩
  have z4 : ¬ (8 : Int) < (n6 : Int) := by omega
  have HZ := Lib.hid (show l.length ≤ 12 ∧ m2.length ≤ 200 ∧ m7.length ≤ 200 ∧ n6 ≤ 8 by have := HN.out; omega)
  go_upto_region 5 with fail
  clear h1 h2 h3 h4 z1 z2 z3 z4 x0 x1 x2 x3 x4 x5 x6 x7
  obtain ⟨K, hK⟩ : ∃ K, K = l.length := ⟨_, rfl⟩
  have HKK := Lib.hid hK
  rw [show n0 = K by have := HN.out; omega] at *
  clear hK
  go_upto_region 7 with (first
    | (go_at_call 15; refine (sd_new _).mono ?_; rintro r w2 ⟨rfl, hs⟩; have H2 := Lib.hid hs; clear hs)
    | (go_at_call 16; refine (lw_open0 H2.out HE1.out new_sizes open_new).mono ?_; rintro r w3 ⟨lb, rfl, hs⟩; have H3 := Lib.hid hs; clear hs))
  go_wp2_with fail
  go_loopw [6] (fun i wr => ∃ k : Nat, k ≤ K ∧ i = .int .i64 (k : Int) ∧ w3 = wr ∧ Hid (∀ x ∈ (l.map (·.m)).take k, x.length ≤ 200)) (fun i _ => K - (intOf i).toNat)
  case atStart => exact ⟨0, Nat.zero_le _, rfl, rfl, Lib.hid fun x hx => by simp at hx⟩
  case round =>
    obtain ⟨k, hk, rfl, rfl, HP⟩ := hrel
    have k0 : (0 : Int) ≤ (k : Int) := by omega
    obtain ⟨x0, x1, x2, x3, x4, x5, x6, x7⟩ := HX.out _ H3.out.bel
    by_cases hlt : k < K
    · have k1 : (k : Int) < (K : Int) := by omega
      have k6 : IntKind.i64.wrap ((k : Int) + 1) = (k : Int) + 1 := IntWalk.i64_in _ (by have := HKK.out; have := HZ.out; omega)
      have hx1 : k < l.length := by rw [← HKK.out]; exact hlt
      obtain ⟨g1, o1, rfl, hg1, hc1, hr1, hd1⟩ := HL1.out.at k hx1
      have y1 := (H3.out.bel.cell (p := ⟨g1, o1 + k, none⟩) hg1).trans hc1
      have HTA := Lib.hid (show (l.map (·.m)).take (k + 1) = (l.map (·.m)).take k ++ [l[k].m] by rw [List.take_succ_eq_append_getElem (by simpa using hx1)]; simp)
      clear hc1 hr1 hd1
      generalize l[k].q = qx at *
      generalize l[k].m = mx at *
      generalize l[k].c = cx at *
      by_cases hb : 200 < mx.length
      · have z1 : (200 : Int) < (mx.length : Int) := by omega
        go_wp2_with fail
        go_ret
        exact ⟨by rfl, HBB.out.trans (H3.out.bel.mono HBB.out.size)⟩
      have z1 : ¬ (200 : Int) < (mx.length : Int) := by omega
      have HNX := Lib.hid (show ∀ x ∈ (l.map (·.m)).take (k + 1), x.length ≤ 200 from fun x hx => by
        rw [HTA.out] at hx
        rcases List.mem_append.1 hx with hx | hx
        · exact HP.out x hx
        · obtain rfl := List.mem_singleton.1 hx; omega)
      clear hb hx1
      go_wp2_with fail
      go_roundw
      case rel => exact ⟨k + 1, hlt, rfl, by first | rfl | trivial, HNX⟩
      case measure => simp [intOf]; omega
    · obtain rfl : k = K := by omega
      have HPS := Lib.hid (show ∀ x ∈ l.map (·.m), x.length ≤ 200 by
        have := HP.out
        rwa [List.take_of_length_le (by rw [List.length_map, HKK.out]; exact Nat.le_refl _)] at this)
      have z9 : ¬ (k : Int) < (k : Int) := by omega
      clear HP hlt hk
      go_upto_region 14 with fail
      clear x0 x1 x2 x3 x4 x5 x6 x7 z9
      have z9 : ¬ (k : Int) < (k : Int) := by omega
      have HPM := Lib.hid (show ∀ x ∈ l.map (·.m), x.length ≤ 300 from fun x hx => by have := HPS.out x hx; omega)
      go_wp2_with fail
      go_loopw [7] (fun i wr => ∃ j : Nat, j ≤ k ∧ i = .int .i64 (j : Int) ∧ Hid (∃ f S i Q, Cs f S i Q [] ∧ f.n = none ∧ allC S i Q = (l.map (·.m)).take j ∧ Lw wr w1 lb ⟨f.d (-1), allC S i Q, false⟩)) (fun i _ => k - (intOf i).toNat)
      case atStart => exact ⟨0, Nat.zero_le _, rfl, Lib.hid ⟨⟨none, none, none⟩, [], 0, [], ⟨.inl ⟨rfl, rfl⟩, .inl ⟨rfl, rfl, rfl⟩, fun p hp => (nomatch (show (none : Option Fc) = some p from hp)), ⟨whole_nil, by simp⟩, Nat.le_refl _, Nat.le_refl _, .inr rfl, by simp, fun m hm => (by cases hm), fun m hm => (by cases hm)⟩, rfl, rfl, H3.out⟩⟩
      case round =>
        obtain ⟨j, hj, rfl, HW⟩ := hrel
        obtain ⟨f, S, i, Q, hC, hfn, hps, hW⟩ := HW.out
        have HC := Lib.hid hC
        have HFN := Lib.hid hfn
        have HPJ := Lib.hid hps
        have HLW := Lib.hid hW
        have j0 : (0 : Int) ≤ (j : Int) := by omega
        clear HW hC hfn hps hW
        obtain ⟨x0, x1, x2, x3, x4, x5, x6, x7⟩ := HX.out _ HLW.out.bel
        have HLN := Lib.hid (show i + Q.length = j by rw [← HC.out.len, HPJ.out, List.length_take, List.length_map, ← HKK.out]; omega)
        by_cases hlt : j < k
        · have j1 : (j : Int) < (k : Int) := by omega
          have k6 : IntKind.i64.wrap ((j : Int) + 1) = (j : Int) + 1 := IntWalk.i64_in _ (by have := HKK.out; have := HZ.out; omega)
          have hx1 : j < l.length := by rw [← HKK.out]; exact hlt
          obtain ⟨g1, o1, rfl, hg1, hc1, hr1, hd1⟩ := HL1.out.at j hx1
          have HB := Lib.hid HLW.out.bel
          have c1 := (HB.out.cell (p := ⟨g1, o1 + j, none⟩) hg1).trans hc1
          have hgw : g1 < wr.heap.size := Nat.lt_of_lt_of_le hg1 HB.out.size
          have y1 : ∀ o, (wr.alloc o).cell? ⟨g1, o1 + j, none⟩ = some (.slice l[j].q l[j].m.length l[j].c) := fun o => ((below1 wr o).cell (p := ⟨g1, o1 + j, none⟩) hgw).trans c1
          have HY := Lib.hid (fun o => HX.out (wr.alloc o) (HB.out.trans ((below1 wr o).mono HB.out.size)))
          obtain ⟨y0, _⟩ := HY.out (.cells #[] 5)
          have HR := Lib.hid (fun o => (hr1.on HB.out).on (below1 wr o))
          have HTA := Lib.hid (show (l.map (·.m)).take (j + 1) = (l.map (·.m)).take j ++ [l[j].m] by rw [List.take_succ_eq_append_getElem (by simpa using hx1)]; simp)
          have HMX := Lib.hid (show l[j].m.length ≤ 300 from HPM.out _ (List.mem_map_of_mem (List.getElem_mem hx1)))
          clear hc1 hr1 hd1
          generalize l[j].q = qx at *
          generalize l[j].m = mx at *
          generalize l[j].c = cx at *
          clear hx1
          obtain ⟨f2, ha, hC2, hn2⟩ := app_cs HC.out HFN.out mx HMX.out (by have := HLN.out; have := HKK.out; have := HZ.out; omega)
          have HAP := Lib.hid ha
          have HC2 := Lib.hid hC2
          have HN2 := Lib.hid hn2
          have HP2 := Lib.hid (show allC S i (Q ++ [mx]) = (l.map (·.m)).take (j + 1) by rw [allC_snoc HC.out.hjq HC.out.hj, HPJ.out, HTA.out])
          clear ha hC2 hn2
          have HL2 := Lib.hid (show (allC S i Q).length ≤ 1000000 by rw [HC.out.len]; have := HC.out.hz; omega)
          have HL3 := Lib.hid (show (allC S i (Q ++ [mx])).length ≤ 1000000 ∧ (recsS 0 (allC S i (Q ++ [mx]))).length ≤ 10000000 from ⟨by rw [HC2.out.len]; have := HC2.out.hz; omega, by have := recs_le HC2.out; omega⟩)
          obtain ⟨f3, hk3, hC3, hn3⟩ := chk_cs HC2.out HN2.out
          have HCK := Lib.hid hk3
          have HC3 := Lib.hid hC3
          have HN3 := Lib.hid hn3
          clear hk3 hC3 hn3
          cases chk with
          | false =>
            go_wp2_with (first
              | (refine wpList_app8 rfl _ _ rfl rfl wr.heap.size _ [] rfl (acc_made (Nat.le_refl _)) qx mx _ cx rfl rfl (HR.out _) (by have := HMX.out; simp; omega) (by simp) ?_; intro v5 w5 hA5 hb5; rw [List.nil_append] at hA5; have HA5 := Lib.hid hA5; have HB5 := Lib.hid ((below1 wr (.cells #[] 5)).trans hb5); clear hA5 hb5)
              | (go_at_call 17; refine (lw_append0 HLW.out HB5.out mx HA5.out HE1.out HL2.out HAP.out).mono ?_; rintro r w6 ⟨rfl, hs⟩; have H6 := Lib.hid hs; have q1 := (HX.out _ hs.bel).2.1; clear hs))
            go_roundw
            case rel => exact ⟨j + 1, hlt, rfl, Lib.hid ⟨f2, S, i, Q ++ [mx], HC2.out, HN2.out, HP2.out, H6.out⟩⟩
            case measure => simp [intOf]; omega
          | true =>
            by_cases h3 : j % 3 = 2
            · have z5 : (j : Int) % 3 = 2 := by omega
              have z6 : (j : Int).tmod 3 = 2 := by rw [Int.tmod_eq_emod_of_nonneg (by omega)]; omega
              clear h3
              go_wp2_with (first
                | (go_at_call 18; refine (lw_chk0 H6.out HE1.out HL3.out.1 HL3.out.2 HCK.out).mono ?_; rintro r w7 ⟨rfl, hs⟩; have H7 := Lib.hid hs; clear hs)
                | (refine wpList_app8 rfl _ _ rfl rfl wr.heap.size _ [] rfl (acc_made (Nat.le_refl _)) qx mx _ cx rfl rfl (HR.out _) (by have := HMX.out; simp; omega) (by simp) ?_; intro v5 w5 hA5 hb5; rw [List.nil_append] at hA5; have HA5 := Lib.hid hA5; have HB5 := Lib.hid ((below1 wr (.cells #[] 5)).trans hb5); clear hA5 hb5)
                | (go_at_call 17; refine (lw_append0 HLW.out HB5.out mx HA5.out HE1.out HL2.out HAP.out).mono ?_; rintro r w6 ⟨rfl, hs⟩; have H6 := Lib.hid hs; have q1 := (HX.out _ hs.bel).2.1; clear hs))
              go_roundw
              case rel => exact ⟨j + 1, hlt, rfl, Lib.hid ⟨f3, allC S i (Q ++ [mx]), (allC S i (Q ++ [mx])).length, [], HC3.out, HN3.out, by rw [allC_nil]; exact HP2.out, by rw [allC_nil]; exact H7.out⟩⟩
              case measure => simp [intOf]; omega
            · have z5 : ¬ (j : Int) % 3 = 2 := by omega
              have z6 : ¬ (j : Int).tmod 3 = 2 := by rw [Int.tmod_eq_emod_of_nonneg (by omega)]; omega
              clear h3
              go_wp2_with (first
                | (go_at_call 18; refine (lw_chk0 H6.out HE1.out HL3.out.1 HL3.out.2 HCK.out).mono ?_; rintro r w7 ⟨rfl, hs⟩; have H7 := Lib.hid hs; clear hs)
                | (refine wpList_app8 rfl _ _ rfl rfl wr.heap.size _ [] rfl (acc_made (Nat.le_refl _)) qx mx _ cx rfl rfl (HR.out _) (by have := HMX.out; simp; omega) (by simp) ?_; intro v5 w5 hA5 hb5; rw [List.nil_append] at hA5; have HA5 := Lib.hid hA5; have HB5 := Lib.hid ((below1 wr (.cells #[] 5)).trans hb5); clear hA5 hb5)
                | (go_at_call 17; refine (lw_append0 HLW.out HB5.out mx HA5.out HE1.out HL2.out HAP.out).mono ?_; rintro r w6 ⟨rfl, hs⟩; have H6 := Lib.hid hs; have q1 := (HX.out _ hs.bel).2.1; clear hs))
              go_roundw
              case rel => exact ⟨j + 1, hlt, rfl, Lib.hid ⟨f2, S, i, Q ++ [mx], HC2.out, HN2.out, HP2.out, H6.out⟩⟩
              case measure => simp [intOf]; omega
        · obtain rfl : j = k := by omega
          have HPA := Lib.hid (show allC S i Q = l.map (·.m) by rw [HPJ.out]; exact List.take_of_length_le (by rw [List.length_map, HKK.out]; exact Nat.le_refl _))
          go_upto_region 19 with fail
          have z10 : ¬ (j : Int) < (j : Int) := by omega
          have HUN := Lib.hid (show (if units < 0 then 0 else units) ≤ 9223372036854775807 by split <;> have := HU.out <;> omega)
          go_upto_region 20 with (go_at_call 19; refine (lw_fuse HLW.out _ HUN.out).mono ?_; rintro r w4 ⟨rfl, hs⟩; have H4 := Lib.hid hs; clear hs)
          have HLU : Hid (Lw w4 w1 lb ⟨f.d (max (if units < 0 then 0 else units) (-1)), allC S i Q, false⟩) := Lib.hid H4.out
          clear H4 HUN x0 x1 x2 x3 x4 x5 x6 x7 z9
          generalize (if units < 0 then 0 else units) = un at *
          generalize max un (-1) = left at *
          have HY := Lib.hid (fun o => HX.out (w4.alloc o) (HLU.out.bel.trans ((below1 w4 o).mono HLU.out.bel.size)))
          obtain ⟨y0, _⟩ := HY.out (.cells #[] 22)
          go_upto_region 22 with (refine wpList_row (w := w1) rfl _ _ rfl _ [] rfl (Row.made HLU.out.bel.size) p0 l j c0 rfl HKK.out ((HL1.out.onW HLU.out.bel).onW (below1 _ _)) (fun y hy => (HL1.out.el y hy).1) (Nat.le_trans HLU.out.bel.size (by simp)) (by have := HZ.out; simp; omega) ?_; intro pv nv cv w5 hnv hR hg hv hi; rw [List.nil_append] at hR hnv; have HR5 := Lib.hid hR; have HN5 := Lib.hid hnv; have HZ5 := Lib.hid (HLU.out.row (Row.made HLU.out.bel.size) hR hg hv); clear hnv hR hg hv hi)
          clear y0 HY
          obtain ⟨x0, x1, x2, x3, x4, x5, x6, x7⟩ := HX.out _ HZ5.out.bel
          have HS13 := Lib.hid (show i + Q.length + 1 ≤ 100 by have := HLN.out; have := HKK.out; have := HZ.out; omega)
          have HLL := Lib.hid (show (allC S i Q).length ≤ 1000000 ∧ (recsS 0 (allC S i Q)).length ≤ 10000000 from ⟨by rw [HC.out.len]; have := HC.out.hz; omega, by have := recs_le HC.out; omega⟩)
          by_cases hkd : kind.tmod 2 = 0
          · have HY := Lib.hid (fun o => HX.out (w5.alloc o) (HZ5.out.bel.trans ((below1 w5 o).mono HZ5.out.bel.size)))
            obtain ⟨_, _, y2, _⟩ := HY.out (.cells #[] 5)
            obtain ⟨fx, Qx, tx, hc9, hC9, hq9⟩ := app_fail HC.out m2 (by have := HZ.out; omega) HS13.out left keep
            have HCT := Lib.hid hc9
            have HCS := Lib.hid hC9
            have HQ9 := Lib.hid hq9
            clear hc9 hC9 hq9
            obtain ⟨ec, hec⟩ : ∃ ec, ec = (wAppS ⟨f.d left, allC S i Q, false⟩ m2).2 := ⟨_, rfl⟩
            obtain ⟨Sx, hSx⟩ : ∃ Sx, Sx = S := ⟨_, rfl⟩
            obtain ⟨jx, hjx⟩ : ∃ jx, jx = i := ⟨_, rfl⟩
            by_cases he0 : ec = 0
            · have HE0 := Lib.hid (show (wAppS ⟨f.d left, allC S i Q, false⟩ m2).2 = 0 by rw [← hec]; exact he0)
              clear he0 hec ec
              go_upto_region 24 with (first
              | (refine wpList_app8 rfl _ _ rfl rfl w5.heap.size _ [] rfl (acc_made (Nat.le_refl _)) p2 m2 n2 c2 rfl HN.out.2.1 ((HR2.out.on HZ5.out.bel).on (below1 _ _)) (by have := HZ.out; simp; omega) (by simp) ?_; intro v6 w6 hA hb; rw [List.nil_append] at hA; have HA6 := Lib.hid hA; have HB6 := Lib.hid ((below1 w5 (.cells #[] 5)).trans hb); clear hA hb)
              | (go_at_call 17; refine (lz_append HZ5.out HB6.out m2 HA6.out HE1.out HLL.out.1).mono ?_; rintro r w7 ⟨rfl, hs⟩; rw [HE0.out]; have H7 := Lib.hid hs; clear hs))
              have x2 := (HX.out _ H7.out.bel).2.2.1
              have HR8 := Lib.hid (HR5.out.keep H7.out.low H7.out.bel)
              go_upto_region 27 with (refine wpList_row (w := w1) rfl _ _ rfl _ l rfl (HR8.out.on (below1 _ _) (H7.out.bel.trans ((below1 w7 _).mono H7.out.bel.size))) (some ⟨w7.heap.size, 0, none⟩) [⟨p2, c2, m2⟩] 1 1 rfl rfl (lsa_one (T := 22) (HR2.out.on H7.out.bel) HN.out.2.1 HN.out.2.2.1) (fun y hy => by obtain rfl := List.mem_singleton.1 hy; exact HR2.out) (Nat.le_trans H7.out.bel.size (by simp)) (by have := HZ.out; simp; omega) ?_; intro qv qn qc W0 hn hR hg hv hi; have HNT := Lib.hid hn; have HRT := Lib.hid hR; have HST := Lib.hid ((H7.out.sz.on (below1 w7 (.cells #[.slice p2 n2 c2] 22))).grow2 (HR8.out.on (below1 w7 (.cells #[.slice p2 n2 c2] 22)) (H7.out.bel.trans ((below1 w7 (.cells #[.slice p2 n2 c2] 22)).mono H7.out.bel.size))) hR hg hv); clear hn hR hg hv hi)
              clear x0 x1 x2 x3 x4 x5 x6 x7 y2 HY H7 HR8
              have HQX := Lib.hid (show Qx = Q ++ [m2] from HQ9.out.elim id (fun h => absurd HE0.out h.2))
              obtain ⟨ls, hls⟩ : ∃ ls, ls = l ++ [(⟨p2, c2, m2⟩ : SlA)] := ⟨_, rfl⟩
              rw [← hls] at HNT HRT
              have HSM := Lib.hid (show allC Sx jx Qx = ls.map (·.m) ∨ (false = true ∧ allC Sx jx Qx = ls.map (·.m) ++ [m2]) from .inl (by rw [hSx, hjx, HQX.out, allC_snoc HC.out.hjq HC.out.hj, HPA.out, hls, List.map_append]; rfl))
              have HLT := Lib.hid (show ls.length ≤ 13 by rw [hls]; have := HZ.out; simp; omega)
              have HJT := Lib.hid (show jx + Qx.length ≤ 13 by rw [hjx, HQX.out, List.length_append]; have := HLN.out; have := HKK.out; have := HZ.out; simp; omega)
              rw [← hSx, ← hjx] at HCS
              clear hls HQX HQ9 HE0 hSx hjx
              obtain ⟨t0, t1, t2, t3, t4, t5, t6, t7⟩ := HX.out _ HST.out.bel
              go_upto_region 28 with (go_at_call 20; refine (sz_crash HST.out keep HU.out.2 HCT.out).mono ?_; rintro r wc2 ⟨rfl, hs⟩; have HSC := Lib.hid hs; clear hs)
              clear t0 t1 t2 t3 t4 t5 t6 t7
              go_wp2_with fail
              go_loopw [10] (fun i wr => ∃ k2 : Nat, k2 ≤ n6 ∧ i = .int .i64 (k2 : Int) ∧ Hid (∃ f t, Cs f Sx jx Qx t ∧ Sz (fun b => (Value.slice qv qn qc).ownBlock = some b) wr W0 w1 (f.d (-1)))) (fun i _ => n6 - (intOf i).toNat)
              case atStart => exact ⟨0, Nat.zero_le _, rfl, Lib.hid ⟨_, _, HCS.out, HSC.out⟩⟩
              case round =>
                obtain ⟨k2, hk2, rfl, HWR⟩ := hrel
                obtain ⟨fr, tr, hCr, hSr⟩ := HWR.out
                have HCr := Lib.hid hCr
                have HSr := Lib.hid hSr
                clear HWR hCr hSr
                obtain ⟨x0, x1, x2, x3, x4, x5, x6, x7⟩ := HX.out _ HSr.out.bel
                have k20 : (0 : Int) ≤ (k2 : Int) := by omega
                by_cases hlt : k2 < n6
                · have k21 : (k2 : Int) < (n6 : Int) := by omega
                  have k26 : IntKind.i64.wrap ((k2 : Int) + 1) = (k2 : Int) + 1 := IntWalk.i64_in _ (by have := HZ.out; omega)
                  obtain ⟨g6, o6, z6, rfl, hg6, hz6, hc6⟩ := HAA.out k2 hlt
                  have y6 := (HSr.out.bel.cell (p := ⟨g6, o6 + k2, none⟩) hg6).trans hc6
                  have HUZ := Lib.hid (show (if z6 < 0 then 0 else z6) ≤ 9223372036854775807 by split <;> omega)
                  clear hz6 hc6
                  go_upto_region 32 with (go_at_call 19; refine (sz_fuse HSr.out _ HUZ.out rfl).mono ?_; rintro r wf ⟨rfl, hs⟩; have HSf := Lib.hid hs; clear hs)
                  have HSg : Hid (Sz (fun b => (Value.slice qv qn qc).ownBlock = some b) wf W0 w1 (fr.d (max (if z6 < 0 then 0 else z6) (-1)))) := Lib.hid HSf.out
                  clear HSf HUZ y6
                  generalize (if z6 < 0 then 0 else z6) = zn at *
                  generalize max zn (-1) = lf at *
                  obtain ⟨fo, tlo, ono, lo, ho1, ho2, _⟩ := open_cs HCr.out lf
                  have HO1 := Lib.hid ho1
                  have HO2 := Lib.hid ho2
                  clear ho1 ho2
                  go_upto_region 33 with (go_at_call 16; refine (sz_open_any HSg.out HE1.out (cs_sizes HCr.out lf)).mono ?_; rintro r wo ⟨po, eo, rfl, hs⟩; rw [HO1.out] at hs; have HSo := Lib.hid hs; have q5 := (HX.out _ hs.bel).2.2.2.2.2.1; clear hs)
                  go_wp2_with (go_at_call 20; refine (sz_crash HSo.out keep HU.out.2 (HO2.out.crash _ _ _)).mono ?_; rintro r wd ⟨rfl, hs⟩; have HSd := Lib.hid hs; clear hs)
                  go_roundw
                  case rel => exact ⟨k2 + 1, hlt, rfl, Lib.hid ⟨fo, tlo, HO2.out, HSd.out⟩⟩
                  case measure => simp [intOf]; omega
                · obtain rfl : k2 = n6 := by omega
                  obtain ⟨fz, tz, onz, loz, _, hz1, hz2⟩ := open_cs HCr.out (-1)
                  obtain ⟨hz3, hz4, hz5⟩ := hz2 rfl
                  subst hz5
                  have HZO := Lib.hid hz3
                  have HZC := Lib.hid hz1
                  have HZN := Lib.hid hz4
                  clear hz1 hz2 hz3 hz4
                  go_upto_region 34 with fail
                  clear x0 x1 x2 x3 x4 x5 x6 x7
                  have HCM := Lib.hid (show (allC Sx jx Qx).length ≤ 1000000 ∧ ∀ m ∈ allC Sx jx Qx, m.length ≤ 1000000000 from ⟨by rw [HZC.out.len]; have := HZC.out.hz; omega, fun m hm => by have := HZC.out.all_le m hm; omega⟩)
                  have HJQ := Lib.hid (show jx + Qx.length + 1 ≤ 100 by have := HJT.out; omega)
                  go_upto_region 38 with (first
                    | (go_at_call 21; refine (lz_all H9.out HCM.out.1 HCM.out.2 _ rfl).mono ?_; rintro r w10 ⟨q10, l10, n10, c10, rfl, hn10, h1, h2, h3, hb⟩; have HN10 := Lib.hid hn10; have HA10 := Lib.hid (And.intro h1 (And.intro h2 h3)); have H10 := Lib.hid (H9.out.on hb); have HR10 := Lib.hid (HRT.out.keep (H9.out.on hb).low (H9.out.on hb).bel); clear hn10 h1 h2 h3 hb)
                    | (go_at_call 16; refine (sz_open0 HSr.out HE1.out (cs_sizes HCr.out (-1)) HZO.out).mono ?_; rintro r w9 ⟨lc, rfl, hs⟩; have H9 := Lib.hid hs; clear hs))
                  by_cases hsame : l10.map (·.m) = ls.map (·.m)
                  · have HSA := Lib.hid hsame
                    have HPX := Lib.hid (show ls.map (·.m) = allC Sx jx Qx from hsame.symm.trans HA10.out.2.1)
                    have HLX := Lib.hid (show ls.length ≤ 14 by have := HLT.out; omega)
                    clear hsame
                    go_upto_region 42 with (go_at_call 14; refine (sameL_any q10 qv n10 qn c10 qc l10 ls HN10.out HNT.out _ (lsa_of_pl HA10.out.1) HR10.out.lsa (by rw [HA10.out.2.2]; have := HCM.out.1; omega) (by have := HLX.out; omega)).mono ?_; rintro r w11 ⟨⟨kb, rfl, hkb⟩, hb⟩; obtain rfl : kb = true := hkb.2 HSA.out; have H11 := Lib.hid (H10.out.on hb); clear hkb hb)
                    have HY7 := Lib.hid (fun o => HX.out (World.alloc w11 o) (H11.out.bel.trans ((below1 w11 o).mono H11.out.bel.size)))
                    have y7 := (HY7.out (.cells #[] 5)).2.2.2.2.2.2.2
                    obtain ⟨fa, ha, hCa, hna⟩ := app_cs HZC.out HZN.out m7 (by have := HZ.out; omega) HJQ.out
                    obtain ⟨fb, hbk, hCb, hnb⟩ := chk_cs hCa hna
                    obtain ⟨fc, tc, onc, loc, _, _, hc3⟩ := open_cs hCb (-1)
                    obtain ⟨hc4, _, _⟩ := hc3 rfl
                    rw [allC_nil] at hc4
                    have HT1 := Lib.hid ha
                    have HT2 := Lib.hid hbk
                    have HT3 := Lib.hid (hCb.crash true (-1) 0)
                    have HT4 := Lib.hid hc4
                    have HT5 := Lib.hid (cs_sizes hCb (-1))
                    have HT6 := Lib.hid (show (allC Sx jx (Qx ++ [m7])).length ≤ 1000000 ∧ (recsS 0 (allC Sx jx (Qx ++ [m7]))).length ≤ 10000000 ∧ ∀ m ∈ allC Sx jx (Qx ++ [m7]), m.length ≤ 1000000000 from ⟨by rw [hCa.len]; have := hCa.hz; omega, by have := recs_le hCa; omega, fun m hm => by have := hCa.all_le m hm; omega⟩)
                    have HT7 := Lib.hid (show (ls ++ [(⟨p7, c7, m7⟩ : SlA)]).map (·.m) = allC Sx jx (Qx ++ [m7]) ∧ (ls ++ [(⟨p7, c7, m7⟩ : SlA)]).length ≤ 1000000000 from ⟨by rw [List.map_append, HPX.out, allC_snoc HZC.out.hjq HZC.out.hj]; rfl, by have := HLX.out; simp at this ⊢; omega⟩)
                    clear ha hbk hc3 hc4 hCa hna hCb hnb
                    go_upto_region 44 with (first
                      | (go_at_call 18; refine (lz_chk0 H21.out HE1.out HT6.out.1 HT6.out.2.1 HT2.out).mono ?_; rintro r w22 ⟨rfl, hs⟩; have H22 := Lib.hid hs; clear hs)
                      | (refine wpList_app8 rfl _ _ rfl rfl w11.heap.size _ [] rfl (acc_made (Nat.le_refl _)) p7 m7 n7 c7 rfl HN.out.2.2.2.1 ((HR7.out.on H11.out.bel).on (below1 _ _)) (by have := HZ.out; simp; omega) (by simp) ?_; intro v20 w20 hA hb; rw [List.nil_append] at hA; have HA20 := Lib.hid hA; have HB20 := Lib.hid ((below1 w11 (.cells #[] 5)).trans hb); clear hA hb)
                      | (go_at_call 17; refine (lz_append0 H11.out HB20.out m7 HA20.out HE1.out HCM.out.1 HT1.out).mono ?_; rintro r w21 ⟨rfl, hs⟩; have H21 := Lib.hid hs; clear hs))
                    go_upto_region 46 with (first
                      | (go_at_call 20; refine (sz_crash H22.out.sz 0 (by decide) HT3.out).mono ?_; rintro r w23 ⟨rfl, hs⟩; have H23 := Lib.hid hs; clear hs)
                      | (go_at_call 16; refine (sz_open0 H23.out HE1.out HT5.out HT4.out).mono ?_; rintro r w24 ⟨ld, rfl, hs⟩; have H24 := Lib.hid hs; clear hs))
                    have HD24 := Lib.hid (H24.out.on (Below.refl _ _).drew)
                    have y46 := (HX.out _ HD24.out.bel).2.2.2.2.2.2.2
                    have y47 : ∀ o, (w24.alloc o).drew.cell? ⟨bx, 7, none⟩ = some (.slice p7 n7 c7) := fun o => (HX.out _ (H24.out.bel.trans ((Below.mono (below1 w24 o) H24.out.bel.size).drew))).2.2.2.2.2.2.2
                    have HQB := Lib.hid (fun o => (H24.out.on (below1 w24 o)).on (Below.refl _ (w24.alloc o)).drew)
                    go_region_held3 (fun X => X.cell? ⟨bx, 7, none⟩ = some (.slice p7 n7 c7)) (first | exact y46 | exact y47 _ | exact HC27.out | exact HC26.out | exact HC25.out | go_keep)
                      (first
                        | (go_at_call 14; refine (sameL_any q25 q26 n25 n26 c25 c26 l25 _ HN25.out HN26.out _ (lsa_of_pl HP26.out) HR26.out.lsa (by rw [HA25.out.2.2]; have := HT6.out.1; omega) HT7.out.2).mono ?_; rintro r w27 ⟨⟨kb, rfl, hkb⟩, hb⟩; obtain rfl : kb = true := hkb.2 (HA25.out.2.1.trans HT7.out.1.symm); have HB27 := Lib.hid (HB26.out.trans (hb.mono HB26.out.size)); have HC27 := Lib.hid ((HX.out _ HB27.out).2.2.2.2.2.2.2); clear hkb hb)
                        | (have _hq := HA25; refine step_row (w := w1) rfl _ _ rfl _ (ls) rfl (HR25.out.on (below1 _ _) (H25.out.bel.trans ((below1 w25 _).mono H25.out.bel.size))) (some ⟨w25.heap.size, 0, none⟩) [⟨p7, c7, m7⟩] 1 1 rfl rfl (lsa_one (T := 22) (HR7.out.on H25.out.bel) HN.out.2.2.2.1 HN.out.2.2.2.2) (fun y hy => by obtain rfl := List.mem_singleton.1 hy; exact HR7.out) (Nat.le_trans H25.out.bel.size (by simp)) (by have := HLX.out; simp; omega) ?_; intro q26 n26 c26 w26 hn hR hg hv hi; have HN26 := Lib.hid hn; have HR26 := Lib.hid hR; have HP26 := Lib.hid ((HA25.out.1.on (below1 w25 (.cells #[.slice p7 n7 c7] 22))).beside (fun b hb => (HQ24.out.low b hb).1) hg hi); have HB26 := Lib.hid (grown_bel (HR25.out.on (below1 w25 (.cells #[.slice p7 n7 c7] 22)) (H25.out.bel.trans ((below1 w25 (.cells #[.slice p7 n7 c7] 22)).mono H25.out.bel.size))) (H25.out.bel.trans ((below1 w25 (.cells #[.slice p7 n7 c7] 22)).mono H25.out.bel.size)) hg); have HC26 := Lib.hid ((HX.out _ HB26.out).2.2.2.2.2.2.2); clear hn hR hg hv hi)
                        | (have _hq := HA25; refine wp_row (w := w1) _ _ rfl _ (ls) rfl (HR25.out.on (below1 _ _) (H25.out.bel.trans ((below1 w25 _).mono H25.out.bel.size))) (some ⟨w25.heap.size, 0, none⟩) [⟨p7, c7, m7⟩] 1 1 rfl rfl (lsa_one (T := 22) (HR7.out.on H25.out.bel) HN.out.2.2.2.1 HN.out.2.2.2.2) (fun y hy => by obtain rfl := List.mem_singleton.1 hy; exact HR7.out) (Nat.le_trans H25.out.bel.size (by simp)) (by have := HLX.out; simp; omega) ?_; intro q26 n26 c26 w26 hn hR hg hv hi; have HN26 := Lib.hid hn; have HR26 := Lib.hid hR; have HP26 := Lib.hid ((HA25.out.1.on (below1 w25 (.cells #[.slice p7 n7 c7] 22))).beside (fun b hb => (HQ24.out.low b hb).1) hg hi); have HB26 := Lib.hid (grown_bel (HR25.out.on (below1 w25 (.cells #[.slice p7 n7 c7] 22)) (H25.out.bel.trans ((below1 w25 (.cells #[.slice p7 n7 c7] 22)).mono H25.out.bel.size))) (H25.out.bel.trans ((below1 w25 (.cells #[.slice p7 n7 c7] 22)).mono H25.out.bel.size)) hg); have HC26 := Lib.hid ((HX.out _ HB26.out).2.2.2.2.2.2.2); clear hn hR hg hv hi)
                        | (have _hq := HLT7; refine step_row (w := w1) rfl _ _ rfl _ (ls) rfl HR25.out (some ⟨w24.heap.size, 0, none⟩) [⟨p7, c7, m7⟩] 1 1 rfl rfl HLT7.out (fun y hy => by obtain rfl := List.mem_singleton.1 hy; exact HR7.out) H25.out.bel.size (by have := HLX.out; simp; omega) ?_; intro q26 n26 c26 w26 hn hR hg hv hi; have HN26 := Lib.hid hn; have HR26 := Lib.hid hR; have HP26 := Lib.hid (HA25.out.1.beside (fun b hb => (HQ24.out.low b hb).1) hg hi); have HB26 := Lib.hid (grown_bel HR25.out H25.out.bel hg); have HC26 := Lib.hid ((HX.out _ HB26.out).2.2.2.2.2.2.2); clear hn hR hg hv hi)
                        | (have _hq := HLT7; refine wp_row (w := w1) _ _ rfl _ (ls) rfl HR25.out (some ⟨w24.heap.size, 0, none⟩) [⟨p7, c7, m7⟩] 1 1 rfl rfl HLT7.out (fun y hy => by obtain rfl := List.mem_singleton.1 hy; exact HR7.out) H25.out.bel.size (by have := HLX.out; simp; omega) ?_; intro q26 n26 c26 w26 hn hR hg hv hi; have HN26 := Lib.hid hn; have HR26 := Lib.hid hR; have HP26 := Lib.hid (HA25.out.1.beside (fun b hb => (HQ24.out.low b hb).1) hg hi); have HB26 := Lib.hid (grown_bel HR25.out H25.out.bel hg); have HC26 := Lib.hid ((HX.out _ HB26.out).2.2.2.2.2.2.2); clear hn hR hg hv hi)
                        | (go_at_call 21; refine (lz_all HD24.out HT6.out.1 HT6.out.2.2 _ rfl).mono ?_; rintro r w25 ⟨q25, l25, n25, c25, rfl, hn25, h1, h2, h3, hb⟩; have HN25 := Lib.hid hn25; have HQ24 := HD24; have HA25 := Lib.hid (And.intro h1 (And.intro h2 h3)); have H25 := Lib.hid (HD24.out.on hb); have HR25 := Lib.hid (HRT.out.keep (HD24.out.on hb).low (HD24.out.on hb).bel); have HC25 := Lib.hid ((HX.out _ (HD24.out.on hb).bel).2.2.2.2.2.2.2); clear hn25 h1 h2 h3 hb)
                        | (go_at_call 21; refine (lz_all (HQB.out (.cells #[.slice p7 n7 c7] 22)) HT6.out.1 HT6.out.2.2 _ rfl).mono ?_; rintro r w25 ⟨q25, l25, n25, c25, rfl, hn25, h1, h2, h3, hb⟩; have HN25 := Lib.hid hn25; have HQ24 := Lib.hid (HQB.out (.cells #[.slice p7 n7 c7] 22)); have HLT7 := Lib.hid (((lsa_one (w := w24) (T := 22) (HR7.out.on H24.out.bel) HN.out.2.2.2.1 HN.out.2.2.2.2).onW (Below.refl _ _).drew).onW hb); have HA25 := Lib.hid (And.intro h1 (And.intro h2 h3)); have H25 := Lib.hid (HQ24.out.on hb); have HR25 := Lib.hid (HRT.out.keep (HQ24.out.on hb).low (HQ24.out.on hb).bel); have HC25 := Lib.hid ((HX.out _ (HQ24.out.on hb).bel).2.2.2.2.2.2.2); clear hn25 h1 h2 h3 hb))
                    all_goals
                      go_wp2_with fail
                      go_ret
                      exact ⟨by rfl, HBB.out.trans (HB27.out.mono HBB.out.size)⟩
                  · rcases HSM.out with hsm | ⟨hob, _⟩
                    · exact absurd (HA10.out.2.1.trans hsm) hsame
                    · exact absurd hob (by decide)
            · have HE0 := Lib.hid hec.symm
              have HX0 := Lib.hid he0
              have z8 : (ec == 0) = false := by simpa using he0
              clear hec
              go_upto_region 27 with (first
              | (refine wpList_app8 rfl _ _ rfl rfl w5.heap.size _ [] rfl (acc_made (Nat.le_refl _)) p2 m2 n2 c2 rfl HN.out.2.1 ((HR2.out.on HZ5.out.bel).on (below1 _ _)) (by have := HZ.out; simp; omega) (by simp) ?_; intro v6 w6 hA hb; rw [List.nil_append] at hA; have HA6 := Lib.hid hA; have HB6 := Lib.hid ((below1 w5 (.cells #[] 5)).trans hb); clear hA hb)
              | (go_at_call 17; refine (lz_append HZ5.out HB6.out m2 HA6.out HE1.out HLL.out.1).mono ?_; rintro r w7 ⟨rfl, hs⟩; rw [HE0.out]; have H7 := Lib.hid hs; clear hs))
              have HST := Lib.hid H7.out.sz
              clear x0 x1 x2 x3 x4 x5 x6 x7 y2 HY H7
              obtain ⟨ls, hls⟩ : ∃ ls, ls = l := ⟨_, rfl⟩
              obtain ⟨W0, hW0⟩ : ∃ W0, W0 = w5 := ⟨_, rfl⟩
              obtain ⟨qv, hqv⟩ : ∃ qv, qv = pv := ⟨_, rfl⟩
              obtain ⟨qn, hqn⟩ : ∃ qn, qn = nv := ⟨_, rfl⟩
              obtain ⟨qc, hqc⟩ : ∃ qc, qc = cv := ⟨_, rfl⟩
              have HNT := Lib.hid (show qn = ls.length by rw [hqn, hls]; exact HN5.out)
              have HRT := Lib.hid (show Row W0 w1 (.slice qv qn qc) ls by rw [hW0, hqv, hqn, hqc, hls]; exact HR5.out)
              rw [← hW0, ← hqv, ← hqn, ← hqc] at HST
              rw [← hqv, ← hqn, ← hqc]
              have HSM := Lib.hid (show allC Sx jx Qx = ls.map (·.m) ∨ (true = true ∧ allC Sx jx Qx = ls.map (·.m) ++ [m2]) by
                rw [hSx, hjx, hls]
                rcases HQ9.out with h | ⟨h, _⟩
                · exact .inr ⟨rfl, by rw [h, allC_snoc HC.out.hjq HC.out.hj, HPA.out]⟩
                · exact .inl (by rw [h, HPA.out]))
              have HLT := Lib.hid (show ls.length ≤ 13 by rw [hls]; have := HZ.out; omega)
              have HJT := Lib.hid (show jx + Qx.length ≤ 13 by
                have := HLN.out; have := HKK.out; have := HZ.out
                rw [hjx]
                rcases HQ9.out with h | ⟨h, _⟩
                · rw [h, List.length_append]; simp; omega
                · rw [h]; omega)
              rw [← hSx, ← hjx] at HCS
              clear hls HQ9 HE0 hSx hjx hqv hqn hqc hW0 z8 he0
              obtain ⟨t0, t1, t2, t3, t4, t5, t6, t7⟩ := HX.out _ HST.out.bel
              go_upto_region 28 with (go_at_call 20; refine (sz_crash HST.out keep HU.out.2 HCT.out).mono ?_; rintro r wc2 ⟨rfl, hs⟩; have HSC := Lib.hid hs; clear hs)
              clear t0 t1 t2 t3 t4 t5 t6 t7
              go_wp2_with fail
              go_loopw [10] (fun i wr => ∃ k2 : Nat, k2 ≤ n6 ∧ i = .int .i64 (k2 : Int) ∧ Hid (∃ f t, Cs f Sx jx Qx t ∧ Sz (fun b => (Value.slice qv qn qc).ownBlock = some b) wr W0 w1 (f.d (-1)))) (fun i _ => n6 - (intOf i).toNat)
              case atStart => exact ⟨0, Nat.zero_le _, rfl, Lib.hid ⟨_, _, HCS.out, HSC.out⟩⟩
              case round =>
                obtain ⟨k2, hk2, rfl, HWR⟩ := hrel
                obtain ⟨fr, tr, hCr, hSr⟩ := HWR.out
                have HCr := Lib.hid hCr
                have HSr := Lib.hid hSr
                clear HWR hCr hSr
                obtain ⟨x0, x1, x2, x3, x4, x5, x6, x7⟩ := HX.out _ HSr.out.bel
                have k20 : (0 : Int) ≤ (k2 : Int) := by omega
                by_cases hlt : k2 < n6
                · have k21 : (k2 : Int) < (n6 : Int) := by omega
                  have k26 : IntKind.i64.wrap ((k2 : Int) + 1) = (k2 : Int) + 1 := IntWalk.i64_in _ (by have := HZ.out; omega)
                  obtain ⟨g6, o6, z6, rfl, hg6, hz6, hc6⟩ := HAA.out k2 hlt
                  have y6 := (HSr.out.bel.cell (p := ⟨g6, o6 + k2, none⟩) hg6).trans hc6
                  have HUZ := Lib.hid (show (if z6 < 0 then 0 else z6) ≤ 9223372036854775807 by split <;> omega)
                  clear hz6 hc6
                  go_upto_region 32 with (go_at_call 19; refine (sz_fuse HSr.out _ HUZ.out rfl).mono ?_; rintro r wf ⟨rfl, hs⟩; have HSf := Lib.hid hs; clear hs)
                  have HSg : Hid (Sz (fun b => (Value.slice qv qn qc).ownBlock = some b) wf W0 w1 (fr.d (max (if z6 < 0 then 0 else z6) (-1)))) := Lib.hid HSf.out
                  clear HSf HUZ y6
                  generalize (if z6 < 0 then 0 else z6) = zn at *
                  generalize max zn (-1) = lf at *
                  obtain ⟨fo, tlo, ono, lo, ho1, ho2, _⟩ := open_cs HCr.out lf
                  have HO1 := Lib.hid ho1
                  have HO2 := Lib.hid ho2
                  clear ho1 ho2
                  go_upto_region 33 with (go_at_call 16; refine (sz_open_any HSg.out HE1.out (cs_sizes HCr.out lf)).mono ?_; rintro r wo ⟨po, eo, rfl, hs⟩; rw [HO1.out] at hs; have HSo := Lib.hid hs; have q5 := (HX.out _ hs.bel).2.2.2.2.2.1; clear hs)
                  go_wp2_with (go_at_call 20; refine (sz_crash HSo.out keep HU.out.2 (HO2.out.crash _ _ _)).mono ?_; rintro r wd ⟨rfl, hs⟩; have HSd := Lib.hid hs; clear hs)
                  go_roundw
                  case rel => exact ⟨k2 + 1, hlt, rfl, Lib.hid ⟨fo, tlo, HO2.out, HSd.out⟩⟩
                  case measure => simp [intOf]; omega
                · obtain rfl : k2 = n6 := by omega
                  obtain ⟨fz, tz, onz, loz, _, hz1, hz2⟩ := open_cs HCr.out (-1)
                  obtain ⟨hz3, hz4, hz5⟩ := hz2 rfl
                  subst hz5
                  have HZO := Lib.hid hz3
                  have HZC := Lib.hid hz1
                  have HZN := Lib.hid hz4
                  clear hz1 hz2 hz3 hz4
                  go_upto_region 34 with fail
                  clear x0 x1 x2 x3 x4 x5 x6 x7
                  have HCM := Lib.hid (show (allC Sx jx Qx).length ≤ 1000000 ∧ ∀ m ∈ allC Sx jx Qx, m.length ≤ 1000000000 from ⟨by rw [HZC.out.len]; have := HZC.out.hz; omega, fun m hm => by have := HZC.out.all_le m hm; omega⟩)
                  have HJQ := Lib.hid (show jx + Qx.length + 1 ≤ 100 by have := HJT.out; omega)
                  go_upto_region 38 with (first
                    | (go_at_call 21; refine (lz_all H9.out HCM.out.1 HCM.out.2 _ rfl).mono ?_; rintro r w10 ⟨q10, l10, n10, c10, rfl, hn10, h1, h2, h3, hb⟩; have HN10 := Lib.hid hn10; have HA10 := Lib.hid (And.intro h1 (And.intro h2 h3)); have H10 := Lib.hid (H9.out.on hb); have HR10 := Lib.hid (HRT.out.keep (H9.out.on hb).low (H9.out.on hb).bel); clear hn10 h1 h2 h3 hb)
                    | (go_at_call 16; refine (sz_open0 HSr.out HE1.out (cs_sizes HCr.out (-1)) HZO.out).mono ?_; rintro r w9 ⟨lc, rfl, hs⟩; have H9 := Lib.hid hs; clear hs))
                  by_cases hsame : l10.map (·.m) = ls.map (·.m)
                  · have HSA := Lib.hid hsame
                    have HPX := Lib.hid (show ls.map (·.m) = allC Sx jx Qx from hsame.symm.trans HA10.out.2.1)
                    have HLX := Lib.hid (show ls.length ≤ 14 by have := HLT.out; omega)
                    clear hsame
                    go_upto_region 42 with (go_at_call 14; refine (sameL_any q10 qv n10 qn c10 qc l10 ls HN10.out HNT.out _ (lsa_of_pl HA10.out.1) HR10.out.lsa (by rw [HA10.out.2.2]; have := HCM.out.1; omega) (by have := HLX.out; omega)).mono ?_; rintro r w11 ⟨⟨kb, rfl, hkb⟩, hb⟩; obtain rfl : kb = true := hkb.2 HSA.out; have H11 := Lib.hid (H10.out.on hb); clear hkb hb)
                    have HY7 := Lib.hid (fun o => HX.out (World.alloc w11 o) (H11.out.bel.trans ((below1 w11 o).mono H11.out.bel.size)))
                    have y7 := (HY7.out (.cells #[] 5)).2.2.2.2.2.2.2
                    obtain ⟨fa, ha, hCa, hna⟩ := app_cs HZC.out HZN.out m7 (by have := HZ.out; omega) HJQ.out
                    obtain ⟨fb, hbk, hCb, hnb⟩ := chk_cs hCa hna
                    obtain ⟨fc, tc, onc, loc, _, _, hc3⟩ := open_cs hCb (-1)
                    obtain ⟨hc4, _, _⟩ := hc3 rfl
                    rw [allC_nil] at hc4
                    have HT1 := Lib.hid ha
                    have HT2 := Lib.hid hbk
                    have HT3 := Lib.hid (hCb.crash true (-1) 0)
                    have HT4 := Lib.hid hc4
                    have HT5 := Lib.hid (cs_sizes hCb (-1))
                    have HT6 := Lib.hid (show (allC Sx jx (Qx ++ [m7])).length ≤ 1000000 ∧ (recsS 0 (allC Sx jx (Qx ++ [m7]))).length ≤ 10000000 ∧ ∀ m ∈ allC Sx jx (Qx ++ [m7]), m.length ≤ 1000000000 from ⟨by rw [hCa.len]; have := hCa.hz; omega, by have := recs_le hCa; omega, fun m hm => by have := hCa.all_le m hm; omega⟩)
                    have HT7 := Lib.hid (show (ls ++ [(⟨p7, c7, m7⟩ : SlA)]).map (·.m) = allC Sx jx (Qx ++ [m7]) ∧ (ls ++ [(⟨p7, c7, m7⟩ : SlA)]).length ≤ 1000000000 from ⟨by rw [List.map_append, HPX.out, allC_snoc HZC.out.hjq HZC.out.hj]; rfl, by have := HLX.out; simp at this ⊢; omega⟩)
                    clear ha hbk hc3 hc4 hCa hna hCb hnb
                    go_upto_region 44 with (first
                      | (go_at_call 18; refine (lz_chk0 H21.out HE1.out HT6.out.1 HT6.out.2.1 HT2.out).mono ?_; rintro r w22 ⟨rfl, hs⟩; have H22 := Lib.hid hs; clear hs)
                      | (refine wpList_app8 rfl _ _ rfl rfl w11.heap.size _ [] rfl (acc_made (Nat.le_refl _)) p7 m7 n7 c7 rfl HN.out.2.2.2.1 ((HR7.out.on H11.out.bel).on (below1 _ _)) (by have := HZ.out; simp; omega) (by simp) ?_; intro v20 w20 hA hb; rw [List.nil_append] at hA; have HA20 := Lib.hid hA; have HB20 := Lib.hid ((below1 w11 (.cells #[] 5)).trans hb); clear hA hb)
                      | (go_at_call 17; refine (lz_append0 H11.out HB20.out m7 HA20.out HE1.out HCM.out.1 HT1.out).mono ?_; rintro r w21 ⟨rfl, hs⟩; have H21 := Lib.hid hs; clear hs))
                    go_upto_region 46 with (first
                      | (go_at_call 20; refine (sz_crash H22.out.sz 0 (by decide) HT3.out).mono ?_; rintro r w23 ⟨rfl, hs⟩; have H23 := Lib.hid hs; clear hs)
                      | (go_at_call 16; refine (sz_open0 H23.out HE1.out HT5.out HT4.out).mono ?_; rintro r w24 ⟨ld, rfl, hs⟩; have H24 := Lib.hid hs; clear hs))
                    have HD24 := Lib.hid (H24.out.on (Below.refl _ _).drew)
                    have y46 := (HX.out _ HD24.out.bel).2.2.2.2.2.2.2
                    have y47 : ∀ o, (w24.alloc o).drew.cell? ⟨bx, 7, none⟩ = some (.slice p7 n7 c7) := fun o => (HX.out _ (H24.out.bel.trans ((Below.mono (below1 w24 o) H24.out.bel.size).drew))).2.2.2.2.2.2.2
                    have HQB := Lib.hid (fun o => (H24.out.on (below1 w24 o)).on (Below.refl _ (w24.alloc o)).drew)
                    go_region_held3 (fun X => X.cell? ⟨bx, 7, none⟩ = some (.slice p7 n7 c7)) (first | exact y46 | exact y47 _ | exact HC27.out | exact HC26.out | exact HC25.out | go_keep)
                      (first
                        | (go_at_call 14; refine (sameL_any q25 q26 n25 n26 c25 c26 l25 _ HN25.out HN26.out _ (lsa_of_pl HP26.out) HR26.out.lsa (by rw [HA25.out.2.2]; have := HT6.out.1; omega) HT7.out.2).mono ?_; rintro r w27 ⟨⟨kb, rfl, hkb⟩, hb⟩; obtain rfl : kb = true := hkb.2 (HA25.out.2.1.trans HT7.out.1.symm); have HB27 := Lib.hid (HB26.out.trans (hb.mono HB26.out.size)); have HC27 := Lib.hid ((HX.out _ HB27.out).2.2.2.2.2.2.2); clear hkb hb)
                        | (have _hq := HA25; refine step_row (w := w1) rfl _ _ rfl _ (ls) rfl (HR25.out.on (below1 _ _) (H25.out.bel.trans ((below1 w25 _).mono H25.out.bel.size))) (some ⟨w25.heap.size, 0, none⟩) [⟨p7, c7, m7⟩] 1 1 rfl rfl (lsa_one (T := 22) (HR7.out.on H25.out.bel) HN.out.2.2.2.1 HN.out.2.2.2.2) (fun y hy => by obtain rfl := List.mem_singleton.1 hy; exact HR7.out) (Nat.le_trans H25.out.bel.size (by simp)) (by have := HLX.out; simp; omega) ?_; intro q26 n26 c26 w26 hn hR hg hv hi; have HN26 := Lib.hid hn; have HR26 := Lib.hid hR; have HP26 := Lib.hid ((HA25.out.1.on (below1 w25 (.cells #[.slice p7 n7 c7] 22))).beside (fun b hb => (HQ24.out.low b hb).1) hg hi); have HB26 := Lib.hid (grown_bel (HR25.out.on (below1 w25 (.cells #[.slice p7 n7 c7] 22)) (H25.out.bel.trans ((below1 w25 (.cells #[.slice p7 n7 c7] 22)).mono H25.out.bel.size))) (H25.out.bel.trans ((below1 w25 (.cells #[.slice p7 n7 c7] 22)).mono H25.out.bel.size)) hg); have HC26 := Lib.hid ((HX.out _ HB26.out).2.2.2.2.2.2.2); clear hn hR hg hv hi)
                        | (have _hq := HA25; refine wp_row (w := w1) _ _ rfl _ (ls) rfl (HR25.out.on (below1 _ _) (H25.out.bel.trans ((below1 w25 _).mono H25.out.bel.size))) (some ⟨w25.heap.size, 0, none⟩) [⟨p7, c7, m7⟩] 1 1 rfl rfl (lsa_one (T := 22) (HR7.out.on H25.out.bel) HN.out.2.2.2.1 HN.out.2.2.2.2) (fun y hy => by obtain rfl := List.mem_singleton.1 hy; exact HR7.out) (Nat.le_trans H25.out.bel.size (by simp)) (by have := HLX.out; simp; omega) ?_; intro q26 n26 c26 w26 hn hR hg hv hi; have HN26 := Lib.hid hn; have HR26 := Lib.hid hR; have HP26 := Lib.hid ((HA25.out.1.on (below1 w25 (.cells #[.slice p7 n7 c7] 22))).beside (fun b hb => (HQ24.out.low b hb).1) hg hi); have HB26 := Lib.hid (grown_bel (HR25.out.on (below1 w25 (.cells #[.slice p7 n7 c7] 22)) (H25.out.bel.trans ((below1 w25 (.cells #[.slice p7 n7 c7] 22)).mono H25.out.bel.size))) (H25.out.bel.trans ((below1 w25 (.cells #[.slice p7 n7 c7] 22)).mono H25.out.bel.size)) hg); have HC26 := Lib.hid ((HX.out _ HB26.out).2.2.2.2.2.2.2); clear hn hR hg hv hi)
                        | (have _hq := HLT7; refine step_row (w := w1) rfl _ _ rfl _ (ls) rfl HR25.out (some ⟨w24.heap.size, 0, none⟩) [⟨p7, c7, m7⟩] 1 1 rfl rfl HLT7.out (fun y hy => by obtain rfl := List.mem_singleton.1 hy; exact HR7.out) H25.out.bel.size (by have := HLX.out; simp; omega) ?_; intro q26 n26 c26 w26 hn hR hg hv hi; have HN26 := Lib.hid hn; have HR26 := Lib.hid hR; have HP26 := Lib.hid (HA25.out.1.beside (fun b hb => (HQ24.out.low b hb).1) hg hi); have HB26 := Lib.hid (grown_bel HR25.out H25.out.bel hg); have HC26 := Lib.hid ((HX.out _ HB26.out).2.2.2.2.2.2.2); clear hn hR hg hv hi)
                        | (have _hq := HLT7; refine wp_row (w := w1) _ _ rfl _ (ls) rfl HR25.out (some ⟨w24.heap.size, 0, none⟩) [⟨p7, c7, m7⟩] 1 1 rfl rfl HLT7.out (fun y hy => by obtain rfl := List.mem_singleton.1 hy; exact HR7.out) H25.out.bel.size (by have := HLX.out; simp; omega) ?_; intro q26 n26 c26 w26 hn hR hg hv hi; have HN26 := Lib.hid hn; have HR26 := Lib.hid hR; have HP26 := Lib.hid (HA25.out.1.beside (fun b hb => (HQ24.out.low b hb).1) hg hi); have HB26 := Lib.hid (grown_bel HR25.out H25.out.bel hg); have HC26 := Lib.hid ((HX.out _ HB26.out).2.2.2.2.2.2.2); clear hn hR hg hv hi)
                        | (go_at_call 21; refine (lz_all HD24.out HT6.out.1 HT6.out.2.2 _ rfl).mono ?_; rintro r w25 ⟨q25, l25, n25, c25, rfl, hn25, h1, h2, h3, hb⟩; have HN25 := Lib.hid hn25; have HQ24 := HD24; have HA25 := Lib.hid (And.intro h1 (And.intro h2 h3)); have H25 := Lib.hid (HD24.out.on hb); have HR25 := Lib.hid (HRT.out.keep (HD24.out.on hb).low (HD24.out.on hb).bel); have HC25 := Lib.hid ((HX.out _ (HD24.out.on hb).bel).2.2.2.2.2.2.2); clear hn25 h1 h2 h3 hb)
                        | (go_at_call 21; refine (lz_all (HQB.out (.cells #[.slice p7 n7 c7] 22)) HT6.out.1 HT6.out.2.2 _ rfl).mono ?_; rintro r w25 ⟨q25, l25, n25, c25, rfl, hn25, h1, h2, h3, hb⟩; have HN25 := Lib.hid hn25; have HQ24 := Lib.hid (HQB.out (.cells #[.slice p7 n7 c7] 22)); have HLT7 := Lib.hid (((lsa_one (w := w24) (T := 22) (HR7.out.on H24.out.bel) HN.out.2.2.2.1 HN.out.2.2.2.2).onW (Below.refl _ _).drew).onW hb); have HA25 := Lib.hid (And.intro h1 (And.intro h2 h3)); have H25 := Lib.hid (HQ24.out.on hb); have HR25 := Lib.hid (HRT.out.keep (HQ24.out.on hb).low (HQ24.out.on hb).bel); have HC25 := Lib.hid ((HX.out _ (HQ24.out.on hb).bel).2.2.2.2.2.2.2); clear hn25 h1 h2 h3 hb))
                    all_goals
                      go_wp2_with fail
                      go_ret
                      exact ⟨by rfl, HBB.out.trans (HB27.out.mono HBB.out.size)⟩
                  · have HSM2 := Lib.hid (show allC Sx jx Qx = ls.map (·.m) ++ [m2] by
                      rcases HSM.out with hsm | ⟨_, hsm⟩
                      · exact absurd (HA10.out.2.1.trans hsm) hsame
                      · exact hsm)
                    have HSA := Lib.hid hsame
                    have HPX := Lib.hid (show (ls ++ [(⟨p2, c2, m2⟩ : SlA)]).map (·.m) = allC Sx jx Qx by rw [HSM2.out, List.map_append]; rfl)
                    have HLX := Lib.hid (show (ls ++ [(⟨p2, c2, m2⟩ : SlA)]).length ≤ 14 by have := HLT.out; simp; omega)
                    clear hsame
                    go_upto_region 39 with (go_at_call 14; refine (sameL_any q10 qv n10 qn c10 qc l10 ls HN10.out HNT.out _ (lsa_of_pl HA10.out.1) HR10.out.lsa (by rw [HA10.out.2.2]; have := HCM.out.1; omega) (by have := HLT.out; omega)).mono ?_; rintro r w11 ⟨⟨kb, rfl, hkb⟩, hb⟩; obtain rfl : kb = false := (by cases kb with | false => rfl | true => exact absurd (hkb.1 rfl) HSA.out); have H11 := Lib.hid (H10.out.on hb); have HA11 := Lib.hid (HA10.out.1.on hb); have HR11 := Lib.hid (HRT.out.keep (H10.out.on hb).low (H10.out.on hb).bel); clear hkb hb)
                    obtain ⟨_, _, x2, _⟩ := HX.out _ H11.out.bel
                    go_upto_region 40 with (refine wpList_row (w := w1) rfl _ _ rfl _ ls rfl (HR11.out.on (below1 _ _) (H11.out.bel.trans ((below1 w11 _).mono H11.out.bel.size))) (some ⟨w11.heap.size, 0, none⟩) [⟨p2, c2, m2⟩] 1 1 rfl rfl (lsa_one (T := 22) (HR2.out.on H11.out.bel) HN.out.2.1 HN.out.2.2.1) (fun y hy => by obtain rfl := List.mem_singleton.1 hy; exact HR2.out) (Nat.le_trans H11.out.bel.size (by simp)) (by have := HLT.out; simp; omega) ?_; intro q13 n13 c13 w13 hn hR hg hv hi; have HN13 := Lib.hid hn; have HR13 := Lib.hid hR; have HP13 := Lib.hid ((HA11.out.on (below1 w11 (.cells #[.slice p2 n2 c2] 22))).beside (fun b hb => (H9.out.low b hb).1) hg hi); have H13 := Lib.hid ((H11.out.on (below1 w11 (.cells #[.slice p2 n2 c2] 22))).grow (HR11.out.on (below1 w11 (.cells #[.slice p2 n2 c2] 22)) (H11.out.bel.trans ((below1 w11 (.cells #[.slice p2 n2 c2] 22)).mono H11.out.bel.size))) hR hg hv hi); clear hn hR hg hv hi)
                    clear x2
                    go_upto_region 42 with (go_at_call 14; refine (sameL_any q10 q13 n10 n13 c10 c13 l10 _ HN10.out HN13.out _ (lsa_of_pl HP13.out) HR13.out.lsa (by rw [HA10.out.2.2]; have := HCM.out.1; omega) (by have := HLX.out; omega)).mono ?_; rintro r w14 ⟨⟨kb, rfl, hkb⟩, hb⟩; obtain rfl : kb = true := hkb.2 (HA10.out.2.1.trans HPX.out.symm); have H14 := Lib.hid (H13.out.on hb); clear hkb hb)
                    obtain ⟨l2, hl2⟩ : ∃ l2, l2 = ls ++ [(⟨p2, c2, m2⟩ : SlA)] := ⟨_, rfl⟩
                    rw [← hl2] at HR13 HPX HLX HN13
                    clear hl2
                    have HY7 := Lib.hid (fun o => HX.out (World.alloc w14 o) (H14.out.bel.trans ((below1 w14 o).mono H14.out.bel.size)))
                    have y7 := (HY7.out (.cells #[] 5)).2.2.2.2.2.2.2
                    obtain ⟨fa, ha, hCa, hna⟩ := app_cs HZC.out HZN.out m7 (by have := HZ.out; omega) HJQ.out
                    obtain ⟨fb, hbk, hCb, hnb⟩ := chk_cs hCa hna
                    obtain ⟨fc, tc, onc, loc, _, _, hc3⟩ := open_cs hCb (-1)
                    obtain ⟨hc4, _, _⟩ := hc3 rfl
                    rw [allC_nil] at hc4
                    have HT1 := Lib.hid ha
                    have HT2 := Lib.hid hbk
                    have HT3 := Lib.hid (hCb.crash true (-1) 0)
                    have HT4 := Lib.hid hc4
                    have HT5 := Lib.hid (cs_sizes hCb (-1))
                    have HT6 := Lib.hid (show (allC Sx jx (Qx ++ [m7])).length ≤ 1000000 ∧ (recsS 0 (allC Sx jx (Qx ++ [m7]))).length ≤ 10000000 ∧ ∀ m ∈ allC Sx jx (Qx ++ [m7]), m.length ≤ 1000000000 from ⟨by rw [hCa.len]; have := hCa.hz; omega, by have := recs_le hCa; omega, fun m hm => by have := hCa.all_le m hm; omega⟩)
                    have HT7 := Lib.hid (show (l2 ++ [(⟨p7, c7, m7⟩ : SlA)]).map (·.m) = allC Sx jx (Qx ++ [m7]) ∧ (l2 ++ [(⟨p7, c7, m7⟩ : SlA)]).length ≤ 1000000000 from ⟨by rw [List.map_append, HPX.out, allC_snoc HZC.out.hjq HZC.out.hj]; rfl, by have := HLX.out; simp at this ⊢; omega⟩)
                    clear ha hbk hc3 hc4 hCa hna hCb hnb
                    go_upto_region 44 with (first
                      | (go_at_call 18; refine (lz_chk0 H21.out HE1.out HT6.out.1 HT6.out.2.1 HT2.out).mono ?_; rintro r w22 ⟨rfl, hs⟩; have H22 := Lib.hid hs; clear hs)
                      | (refine wpList_app8 rfl _ _ rfl rfl w14.heap.size _ [] rfl (acc_made (Nat.le_refl _)) p7 m7 n7 c7 rfl HN.out.2.2.2.1 ((HR7.out.on H14.out.bel).on (below1 _ _)) (by have := HZ.out; simp; omega) (by simp) ?_; intro v20 w20 hA hb; rw [List.nil_append] at hA; have HA20 := Lib.hid hA; have HB20 := Lib.hid ((below1 w14 (.cells #[] 5)).trans hb); clear hA hb)
                      | (go_at_call 17; refine (lz_append0 H14.out HB20.out m7 HA20.out HE1.out HCM.out.1 HT1.out).mono ?_; rintro r w21 ⟨rfl, hs⟩; have H21 := Lib.hid hs; clear hs))
                    go_upto_region 46 with (first
                      | (go_at_call 20; refine (sz_crash H22.out.sz 0 (by decide) HT3.out).mono ?_; rintro r w23 ⟨rfl, hs⟩; have H23 := Lib.hid hs; clear hs)
                      | (go_at_call 16; refine (sz_open0 H23.out HE1.out HT5.out HT4.out).mono ?_; rintro r w24 ⟨ld, rfl, hs⟩; have H24 := Lib.hid hs; clear hs))
                    have HD24 := Lib.hid (H24.out.on (Below.refl _ _).drew)
                    have y46 := (HX.out _ HD24.out.bel).2.2.2.2.2.2.2
                    have y47 : ∀ o, (w24.alloc o).drew.cell? ⟨bx, 7, none⟩ = some (.slice p7 n7 c7) := fun o => (HX.out _ (H24.out.bel.trans ((Below.mono (below1 w24 o) H24.out.bel.size).drew))).2.2.2.2.2.2.2
                    have HQB := Lib.hid (fun o => (H24.out.on (below1 w24 o)).on (Below.refl _ (w24.alloc o)).drew)
                    go_region_held3 (fun X => X.cell? ⟨bx, 7, none⟩ = some (.slice p7 n7 c7)) (first | exact y46 | exact y47 _ | exact HC27.out | exact HC26.out | exact HC25.out | go_keep)
                      (first
                        | (go_at_call 14; refine (sameL_any q25 q26 n25 n26 c25 c26 l25 _ HN25.out HN26.out _ (lsa_of_pl HP26.out) HR26.out.lsa (by rw [HA25.out.2.2]; have := HT6.out.1; omega) HT7.out.2).mono ?_; rintro r w27 ⟨⟨kb, rfl, hkb⟩, hb⟩; obtain rfl : kb = true := hkb.2 (HA25.out.2.1.trans HT7.out.1.symm); have HB27 := Lib.hid (HB26.out.trans (hb.mono HB26.out.size)); have HC27 := Lib.hid ((HX.out _ HB27.out).2.2.2.2.2.2.2); clear hkb hb)
                        | (have _hq := HA25; refine step_row (w := w1) rfl _ _ rfl _ (l2) rfl (HR25.out.on (below1 _ _) (H25.out.bel.trans ((below1 w25 _).mono H25.out.bel.size))) (some ⟨w25.heap.size, 0, none⟩) [⟨p7, c7, m7⟩] 1 1 rfl rfl (lsa_one (T := 22) (HR7.out.on H25.out.bel) HN.out.2.2.2.1 HN.out.2.2.2.2) (fun y hy => by obtain rfl := List.mem_singleton.1 hy; exact HR7.out) (Nat.le_trans H25.out.bel.size (by simp)) (by have := HLX.out; simp; omega) ?_; intro q26 n26 c26 w26 hn hR hg hv hi; have HN26 := Lib.hid hn; have HR26 := Lib.hid hR; have HP26 := Lib.hid ((HA25.out.1.on (below1 w25 (.cells #[.slice p7 n7 c7] 22))).beside (fun b hb => (HQ24.out.low b hb).1) hg hi); have HB26 := Lib.hid (grown_bel (HR25.out.on (below1 w25 (.cells #[.slice p7 n7 c7] 22)) (H25.out.bel.trans ((below1 w25 (.cells #[.slice p7 n7 c7] 22)).mono H25.out.bel.size))) (H25.out.bel.trans ((below1 w25 (.cells #[.slice p7 n7 c7] 22)).mono H25.out.bel.size)) hg); have HC26 := Lib.hid ((HX.out _ HB26.out).2.2.2.2.2.2.2); clear hn hR hg hv hi)
                        | (have _hq := HA25; refine wp_row (w := w1) _ _ rfl _ (l2) rfl (HR25.out.on (below1 _ _) (H25.out.bel.trans ((below1 w25 _).mono H25.out.bel.size))) (some ⟨w25.heap.size, 0, none⟩) [⟨p7, c7, m7⟩] 1 1 rfl rfl (lsa_one (T := 22) (HR7.out.on H25.out.bel) HN.out.2.2.2.1 HN.out.2.2.2.2) (fun y hy => by obtain rfl := List.mem_singleton.1 hy; exact HR7.out) (Nat.le_trans H25.out.bel.size (by simp)) (by have := HLX.out; simp; omega) ?_; intro q26 n26 c26 w26 hn hR hg hv hi; have HN26 := Lib.hid hn; have HR26 := Lib.hid hR; have HP26 := Lib.hid ((HA25.out.1.on (below1 w25 (.cells #[.slice p7 n7 c7] 22))).beside (fun b hb => (HQ24.out.low b hb).1) hg hi); have HB26 := Lib.hid (grown_bel (HR25.out.on (below1 w25 (.cells #[.slice p7 n7 c7] 22)) (H25.out.bel.trans ((below1 w25 (.cells #[.slice p7 n7 c7] 22)).mono H25.out.bel.size))) (H25.out.bel.trans ((below1 w25 (.cells #[.slice p7 n7 c7] 22)).mono H25.out.bel.size)) hg); have HC26 := Lib.hid ((HX.out _ HB26.out).2.2.2.2.2.2.2); clear hn hR hg hv hi)
                        | (have _hq := HLT7; refine step_row (w := w1) rfl _ _ rfl _ (l2) rfl HR25.out (some ⟨w24.heap.size, 0, none⟩) [⟨p7, c7, m7⟩] 1 1 rfl rfl HLT7.out (fun y hy => by obtain rfl := List.mem_singleton.1 hy; exact HR7.out) H25.out.bel.size (by have := HLX.out; simp; omega) ?_; intro q26 n26 c26 w26 hn hR hg hv hi; have HN26 := Lib.hid hn; have HR26 := Lib.hid hR; have HP26 := Lib.hid (HA25.out.1.beside (fun b hb => (HQ24.out.low b hb).1) hg hi); have HB26 := Lib.hid (grown_bel HR25.out H25.out.bel hg); have HC26 := Lib.hid ((HX.out _ HB26.out).2.2.2.2.2.2.2); clear hn hR hg hv hi)
                        | (have _hq := HLT7; refine wp_row (w := w1) _ _ rfl _ (l2) rfl HR25.out (some ⟨w24.heap.size, 0, none⟩) [⟨p7, c7, m7⟩] 1 1 rfl rfl HLT7.out (fun y hy => by obtain rfl := List.mem_singleton.1 hy; exact HR7.out) H25.out.bel.size (by have := HLX.out; simp; omega) ?_; intro q26 n26 c26 w26 hn hR hg hv hi; have HN26 := Lib.hid hn; have HR26 := Lib.hid hR; have HP26 := Lib.hid (HA25.out.1.beside (fun b hb => (HQ24.out.low b hb).1) hg hi); have HB26 := Lib.hid (grown_bel HR25.out H25.out.bel hg); have HC26 := Lib.hid ((HX.out _ HB26.out).2.2.2.2.2.2.2); clear hn hR hg hv hi)
                        | (go_at_call 21; refine (lz_all HD24.out HT6.out.1 HT6.out.2.2 _ rfl).mono ?_; rintro r w25 ⟨q25, l25, n25, c25, rfl, hn25, h1, h2, h3, hb⟩; have HN25 := Lib.hid hn25; have HQ24 := HD24; have HA25 := Lib.hid (And.intro h1 (And.intro h2 h3)); have H25 := Lib.hid (HD24.out.on hb); have HR25 := Lib.hid (HR13.out.keep (HD24.out.on hb).low (HD24.out.on hb).bel); have HC25 := Lib.hid ((HX.out _ (HD24.out.on hb).bel).2.2.2.2.2.2.2); clear hn25 h1 h2 h3 hb)
                        | (go_at_call 21; refine (lz_all (HQB.out (.cells #[.slice p7 n7 c7] 22)) HT6.out.1 HT6.out.2.2 _ rfl).mono ?_; rintro r w25 ⟨q25, l25, n25, c25, rfl, hn25, h1, h2, h3, hb⟩; have HN25 := Lib.hid hn25; have HQ24 := Lib.hid (HQB.out (.cells #[.slice p7 n7 c7] 22)); have HLT7 := Lib.hid (((lsa_one (w := w24) (T := 22) (HR7.out.on H24.out.bel) HN.out.2.2.2.1 HN.out.2.2.2.2).onW (Below.refl _ _).drew).onW hb); have HA25 := Lib.hid (And.intro h1 (And.intro h2 h3)); have H25 := Lib.hid (HQ24.out.on hb); have HR25 := Lib.hid (HR13.out.keep (HQ24.out.on hb).low (HQ24.out.on hb).bel); have HC25 := Lib.hid ((HX.out _ (HQ24.out.on hb).bel).2.2.2.2.2.2.2); clear hn25 h1 h2 h3 hb))
                    all_goals
                      go_wp2_with fail
                      go_ret
                      exact ⟨by rfl, HBB.out.trans (HB27.out.mono HBB.out.size)⟩
          · obtain ⟨fx, Sx, jx, Qx, hc9, hC9, hq9, hl9⟩ := chk_fail HC.out HFN.out left keep
            have HCT := Lib.hid hc9
            have HCS := Lib.hid hC9
            have HQ9 := Lib.hid (And.intro hq9 hl9)
            clear hc9 hC9 hq9 hl9
            go_upto_region 27 with (go_at_call 18; refine (lz_chk HZ5.out HE1.out HLL.out.1 HLL.out.2).mono ?_; rintro r w7 ⟨rfl, hs⟩; have H7 := Lib.hid hs; clear hs)
            have HST := Lib.hid H7.out.sz
            clear x0 x1 x2 x3 x4 x5 x6 x7 H7
            obtain ⟨ls, hls⟩ : ∃ ls, ls = l := ⟨_, rfl⟩
            obtain ⟨W0, hW0⟩ : ∃ W0, W0 = w5 := ⟨_, rfl⟩
            obtain ⟨qv, hqv⟩ : ∃ qv, qv = pv := ⟨_, rfl⟩
            obtain ⟨qn, hqn⟩ : ∃ qn, qn = nv := ⟨_, rfl⟩
            obtain ⟨qc, hqc⟩ : ∃ qc, qc = cv := ⟨_, rfl⟩
            have HNT := Lib.hid (show qn = ls.length by rw [hqn, hls]; exact HN5.out)
            have HRT := Lib.hid (show Row W0 w1 (.slice qv qn qc) ls by rw [hW0, hqv, hqn, hqc, hls]; exact HR5.out)
            rw [← hW0, ← hqv, ← hqn, ← hqc] at HST
            rw [← hqv, ← hqn, ← hqc]
            have HSM := Lib.hid (show allC Sx jx Qx = ls.map (·.m) ∨ (false = true ∧ allC Sx jx Qx = ls.map (·.m) ++ [m2]) from .inl (by rw [HQ9.out.1, HPA.out, hls]))
            have HLT := Lib.hid (show ls.length ≤ 13 by rw [hls]; have := HZ.out; omega)
            have HJT := Lib.hid (show jx + Qx.length ≤ 13 by have := HQ9.out.2; have := HLN.out; have := HKK.out; have := HZ.out; omega)
            clear hls HQ9 hqv hqn hqc hW0 hkd
            obtain ⟨t0, t1, t2, t3, t4, t5, t6, t7⟩ := HX.out _ HST.out.bel
            go_upto_region 28 with (go_at_call 20; refine (sz_crash HST.out keep HU.out.2 HCT.out).mono ?_; rintro r wc2 ⟨rfl, hs⟩; have HSC := Lib.hid hs; clear hs)
            clear t0 t1 t2 t3 t4 t5 t6 t7
            go_wp2_with fail
            go_loopw [10] (fun i wr => ∃ k2 : Nat, k2 ≤ n6 ∧ i = .int .i64 (k2 : Int) ∧ Hid (∃ f t, Cs f Sx jx Qx t ∧ Sz (fun b => (Value.slice qv qn qc).ownBlock = some b) wr W0 w1 (f.d (-1)))) (fun i _ => n6 - (intOf i).toNat)
            case atStart => exact ⟨0, Nat.zero_le _, rfl, Lib.hid ⟨_, _, HCS.out, HSC.out⟩⟩
            case round =>
              obtain ⟨k2, hk2, rfl, HWR⟩ := hrel
              obtain ⟨fr, tr, hCr, hSr⟩ := HWR.out
              have HCr := Lib.hid hCr
              have HSr := Lib.hid hSr
              clear HWR hCr hSr
              obtain ⟨x0, x1, x2, x3, x4, x5, x6, x7⟩ := HX.out _ HSr.out.bel
              have k20 : (0 : Int) ≤ (k2 : Int) := by omega
              by_cases hlt : k2 < n6
              · have k21 : (k2 : Int) < (n6 : Int) := by omega
                have k26 : IntKind.i64.wrap ((k2 : Int) + 1) = (k2 : Int) + 1 := IntWalk.i64_in _ (by have := HZ.out; omega)
                obtain ⟨g6, o6, z6, rfl, hg6, hz6, hc6⟩ := HAA.out k2 hlt
                have y6 := (HSr.out.bel.cell (p := ⟨g6, o6 + k2, none⟩) hg6).trans hc6
                have HUZ := Lib.hid (show (if z6 < 0 then 0 else z6) ≤ 9223372036854775807 by split <;> omega)
                clear hz6 hc6
                go_upto_region 32 with (go_at_call 19; refine (sz_fuse HSr.out _ HUZ.out rfl).mono ?_; rintro r wf ⟨rfl, hs⟩; have HSf := Lib.hid hs; clear hs)
                have HSg : Hid (Sz (fun b => (Value.slice qv qn qc).ownBlock = some b) wf W0 w1 (fr.d (max (if z6 < 0 then 0 else z6) (-1)))) := Lib.hid HSf.out
                clear HSf HUZ y6
                generalize (if z6 < 0 then 0 else z6) = zn at *
                generalize max zn (-1) = lf at *
                obtain ⟨fo, tlo, ono, lo, ho1, ho2, _⟩ := open_cs HCr.out lf
                have HO1 := Lib.hid ho1
                have HO2 := Lib.hid ho2
                clear ho1 ho2
                go_upto_region 33 with (go_at_call 16; refine (sz_open_any HSg.out HE1.out (cs_sizes HCr.out lf)).mono ?_; rintro r wo ⟨po, eo, rfl, hs⟩; rw [HO1.out] at hs; have HSo := Lib.hid hs; have q5 := (HX.out _ hs.bel).2.2.2.2.2.1; clear hs)
                go_wp2_with (go_at_call 20; refine (sz_crash HSo.out keep HU.out.2 (HO2.out.crash _ _ _)).mono ?_; rintro r wd ⟨rfl, hs⟩; have HSd := Lib.hid hs; clear hs)
                go_roundw
                case rel => exact ⟨k2 + 1, hlt, rfl, Lib.hid ⟨fo, tlo, HO2.out, HSd.out⟩⟩
                case measure => simp [intOf]; omega
              · obtain rfl : k2 = n6 := by omega
                obtain ⟨fz, tz, onz, loz, _, hz1, hz2⟩ := open_cs HCr.out (-1)
                obtain ⟨hz3, hz4, hz5⟩ := hz2 rfl
                subst hz5
                have HZO := Lib.hid hz3
                have HZC := Lib.hid hz1
                have HZN := Lib.hid hz4
                clear hz1 hz2 hz3 hz4
                go_upto_region 34 with fail
                clear x0 x1 x2 x3 x4 x5 x6 x7
                have HCM := Lib.hid (show (allC Sx jx Qx).length ≤ 1000000 ∧ ∀ m ∈ allC Sx jx Qx, m.length ≤ 1000000000 from ⟨by rw [HZC.out.len]; have := HZC.out.hz; omega, fun m hm => by have := HZC.out.all_le m hm; omega⟩)
                have HJQ := Lib.hid (show jx + Qx.length + 1 ≤ 100 by have := HJT.out; omega)
                go_upto_region 38 with (first
                  | (go_at_call 21; refine (lz_all H9.out HCM.out.1 HCM.out.2 _ rfl).mono ?_; rintro r w10 ⟨q10, l10, n10, c10, rfl, hn10, h1, h2, h3, hb⟩; have HN10 := Lib.hid hn10; have HA10 := Lib.hid (And.intro h1 (And.intro h2 h3)); have H10 := Lib.hid (H9.out.on hb); have HR10 := Lib.hid (HRT.out.keep (H9.out.on hb).low (H9.out.on hb).bel); clear hn10 h1 h2 h3 hb)
                  | (go_at_call 16; refine (sz_open0 HSr.out HE1.out (cs_sizes HCr.out (-1)) HZO.out).mono ?_; rintro r w9 ⟨lc, rfl, hs⟩; have H9 := Lib.hid hs; clear hs))
                by_cases hsame : l10.map (·.m) = ls.map (·.m)
                · have HSA := Lib.hid hsame
                  have HPX := Lib.hid (show ls.map (·.m) = allC Sx jx Qx from hsame.symm.trans HA10.out.2.1)
                  have HLX := Lib.hid (show ls.length ≤ 14 by have := HLT.out; omega)
                  clear hsame
                  go_upto_region 42 with (go_at_call 14; refine (sameL_any q10 qv n10 qn c10 qc l10 ls HN10.out HNT.out _ (lsa_of_pl HA10.out.1) HR10.out.lsa (by rw [HA10.out.2.2]; have := HCM.out.1; omega) (by have := HLX.out; omega)).mono ?_; rintro r w11 ⟨⟨kb, rfl, hkb⟩, hb⟩; obtain rfl : kb = true := hkb.2 HSA.out; have H11 := Lib.hid (H10.out.on hb); clear hkb hb)
                  have HY7 := Lib.hid (fun o => HX.out (World.alloc w11 o) (H11.out.bel.trans ((below1 w11 o).mono H11.out.bel.size)))
                  have y7 := (HY7.out (.cells #[] 5)).2.2.2.2.2.2.2
                  obtain ⟨fa, ha, hCa, hna⟩ := app_cs HZC.out HZN.out m7 (by have := HZ.out; omega) HJQ.out
                  obtain ⟨fb, hbk, hCb, hnb⟩ := chk_cs hCa hna
                  obtain ⟨fc, tc, onc, loc, _, _, hc3⟩ := open_cs hCb (-1)
                  obtain ⟨hc4, _, _⟩ := hc3 rfl
                  rw [allC_nil] at hc4
                  have HT1 := Lib.hid ha
                  have HT2 := Lib.hid hbk
                  have HT3 := Lib.hid (hCb.crash true (-1) 0)
                  have HT4 := Lib.hid hc4
                  have HT5 := Lib.hid (cs_sizes hCb (-1))
                  have HT6 := Lib.hid (show (allC Sx jx (Qx ++ [m7])).length ≤ 1000000 ∧ (recsS 0 (allC Sx jx (Qx ++ [m7]))).length ≤ 10000000 ∧ ∀ m ∈ allC Sx jx (Qx ++ [m7]), m.length ≤ 1000000000 from ⟨by rw [hCa.len]; have := hCa.hz; omega, by have := recs_le hCa; omega, fun m hm => by have := hCa.all_le m hm; omega⟩)
                  have HT7 := Lib.hid (show (ls ++ [(⟨p7, c7, m7⟩ : SlA)]).map (·.m) = allC Sx jx (Qx ++ [m7]) ∧ (ls ++ [(⟨p7, c7, m7⟩ : SlA)]).length ≤ 1000000000 from ⟨by rw [List.map_append, HPX.out, allC_snoc HZC.out.hjq HZC.out.hj]; rfl, by have := HLX.out; simp at this ⊢; omega⟩)
                  clear ha hbk hc3 hc4 hCa hna hCb hnb
                  go_upto_region 44 with (first
                    | (go_at_call 18; refine (lz_chk0 H21.out HE1.out HT6.out.1 HT6.out.2.1 HT2.out).mono ?_; rintro r w22 ⟨rfl, hs⟩; have H22 := Lib.hid hs; clear hs)
                    | (refine wpList_app8 rfl _ _ rfl rfl w11.heap.size _ [] rfl (acc_made (Nat.le_refl _)) p7 m7 n7 c7 rfl HN.out.2.2.2.1 ((HR7.out.on H11.out.bel).on (below1 _ _)) (by have := HZ.out; simp; omega) (by simp) ?_; intro v20 w20 hA hb; rw [List.nil_append] at hA; have HA20 := Lib.hid hA; have HB20 := Lib.hid ((below1 w11 (.cells #[] 5)).trans hb); clear hA hb)
                    | (go_at_call 17; refine (lz_append0 H11.out HB20.out m7 HA20.out HE1.out HCM.out.1 HT1.out).mono ?_; rintro r w21 ⟨rfl, hs⟩; have H21 := Lib.hid hs; clear hs))
                  go_upto_region 46 with (first
                    | (go_at_call 20; refine (sz_crash H22.out.sz 0 (by decide) HT3.out).mono ?_; rintro r w23 ⟨rfl, hs⟩; have H23 := Lib.hid hs; clear hs)
                    | (go_at_call 16; refine (sz_open0 H23.out HE1.out HT5.out HT4.out).mono ?_; rintro r w24 ⟨ld, rfl, hs⟩; have H24 := Lib.hid hs; clear hs))
                  have HD24 := Lib.hid (H24.out.on (Below.refl _ _).drew)
                  have y46 := (HX.out _ HD24.out.bel).2.2.2.2.2.2.2
                  have y47 : ∀ o, (w24.alloc o).drew.cell? ⟨bx, 7, none⟩ = some (.slice p7 n7 c7) := fun o => (HX.out _ (H24.out.bel.trans ((Below.mono (below1 w24 o) H24.out.bel.size).drew))).2.2.2.2.2.2.2
                  have HQB := Lib.hid (fun o => (H24.out.on (below1 w24 o)).on (Below.refl _ (w24.alloc o)).drew)
                  go_region_held3 (fun X => X.cell? ⟨bx, 7, none⟩ = some (.slice p7 n7 c7)) (first | exact y46 | exact y47 _ | exact HC27.out | exact HC26.out | exact HC25.out | go_keep)
                    (first
                      | (go_at_call 14; refine (sameL_any q25 q26 n25 n26 c25 c26 l25 _ HN25.out HN26.out _ (lsa_of_pl HP26.out) HR26.out.lsa (by rw [HA25.out.2.2]; have := HT6.out.1; omega) HT7.out.2).mono ?_; rintro r w27 ⟨⟨kb, rfl, hkb⟩, hb⟩; obtain rfl : kb = true := hkb.2 (HA25.out.2.1.trans HT7.out.1.symm); have HB27 := Lib.hid (HB26.out.trans (hb.mono HB26.out.size)); have HC27 := Lib.hid ((HX.out _ HB27.out).2.2.2.2.2.2.2); clear hkb hb)
                      | (have _hq := HA25; refine step_row (w := w1) rfl _ _ rfl _ (ls) rfl (HR25.out.on (below1 _ _) (H25.out.bel.trans ((below1 w25 _).mono H25.out.bel.size))) (some ⟨w25.heap.size, 0, none⟩) [⟨p7, c7, m7⟩] 1 1 rfl rfl (lsa_one (T := 22) (HR7.out.on H25.out.bel) HN.out.2.2.2.1 HN.out.2.2.2.2) (fun y hy => by obtain rfl := List.mem_singleton.1 hy; exact HR7.out) (Nat.le_trans H25.out.bel.size (by simp)) (by have := HLX.out; simp; omega) ?_; intro q26 n26 c26 w26 hn hR hg hv hi; have HN26 := Lib.hid hn; have HR26 := Lib.hid hR; have HP26 := Lib.hid ((HA25.out.1.on (below1 w25 (.cells #[.slice p7 n7 c7] 22))).beside (fun b hb => (HQ24.out.low b hb).1) hg hi); have HB26 := Lib.hid (grown_bel (HR25.out.on (below1 w25 (.cells #[.slice p7 n7 c7] 22)) (H25.out.bel.trans ((below1 w25 (.cells #[.slice p7 n7 c7] 22)).mono H25.out.bel.size))) (H25.out.bel.trans ((below1 w25 (.cells #[.slice p7 n7 c7] 22)).mono H25.out.bel.size)) hg); have HC26 := Lib.hid ((HX.out _ HB26.out).2.2.2.2.2.2.2); clear hn hR hg hv hi)
                      | (have _hq := HA25; refine wp_row (w := w1) _ _ rfl _ (ls) rfl (HR25.out.on (below1 _ _) (H25.out.bel.trans ((below1 w25 _).mono H25.out.bel.size))) (some ⟨w25.heap.size, 0, none⟩) [⟨p7, c7, m7⟩] 1 1 rfl rfl (lsa_one (T := 22) (HR7.out.on H25.out.bel) HN.out.2.2.2.1 HN.out.2.2.2.2) (fun y hy => by obtain rfl := List.mem_singleton.1 hy; exact HR7.out) (Nat.le_trans H25.out.bel.size (by simp)) (by have := HLX.out; simp; omega) ?_; intro q26 n26 c26 w26 hn hR hg hv hi; have HN26 := Lib.hid hn; have HR26 := Lib.hid hR; have HP26 := Lib.hid ((HA25.out.1.on (below1 w25 (.cells #[.slice p7 n7 c7] 22))).beside (fun b hb => (HQ24.out.low b hb).1) hg hi); have HB26 := Lib.hid (grown_bel (HR25.out.on (below1 w25 (.cells #[.slice p7 n7 c7] 22)) (H25.out.bel.trans ((below1 w25 (.cells #[.slice p7 n7 c7] 22)).mono H25.out.bel.size))) (H25.out.bel.trans ((below1 w25 (.cells #[.slice p7 n7 c7] 22)).mono H25.out.bel.size)) hg); have HC26 := Lib.hid ((HX.out _ HB26.out).2.2.2.2.2.2.2); clear hn hR hg hv hi)
                      | (have _hq := HLT7; refine step_row (w := w1) rfl _ _ rfl _ (ls) rfl HR25.out (some ⟨w24.heap.size, 0, none⟩) [⟨p7, c7, m7⟩] 1 1 rfl rfl HLT7.out (fun y hy => by obtain rfl := List.mem_singleton.1 hy; exact HR7.out) H25.out.bel.size (by have := HLX.out; simp; omega) ?_; intro q26 n26 c26 w26 hn hR hg hv hi; have HN26 := Lib.hid hn; have HR26 := Lib.hid hR; have HP26 := Lib.hid (HA25.out.1.beside (fun b hb => (HQ24.out.low b hb).1) hg hi); have HB26 := Lib.hid (grown_bel HR25.out H25.out.bel hg); have HC26 := Lib.hid ((HX.out _ HB26.out).2.2.2.2.2.2.2); clear hn hR hg hv hi)
                      | (have _hq := HLT7; refine wp_row (w := w1) _ _ rfl _ (ls) rfl HR25.out (some ⟨w24.heap.size, 0, none⟩) [⟨p7, c7, m7⟩] 1 1 rfl rfl HLT7.out (fun y hy => by obtain rfl := List.mem_singleton.1 hy; exact HR7.out) H25.out.bel.size (by have := HLX.out; simp; omega) ?_; intro q26 n26 c26 w26 hn hR hg hv hi; have HN26 := Lib.hid hn; have HR26 := Lib.hid hR; have HP26 := Lib.hid (HA25.out.1.beside (fun b hb => (HQ24.out.low b hb).1) hg hi); have HB26 := Lib.hid (grown_bel HR25.out H25.out.bel hg); have HC26 := Lib.hid ((HX.out _ HB26.out).2.2.2.2.2.2.2); clear hn hR hg hv hi)
                      | (go_at_call 21; refine (lz_all HD24.out HT6.out.1 HT6.out.2.2 _ rfl).mono ?_; rintro r w25 ⟨q25, l25, n25, c25, rfl, hn25, h1, h2, h3, hb⟩; have HN25 := Lib.hid hn25; have HQ24 := HD24; have HA25 := Lib.hid (And.intro h1 (And.intro h2 h3)); have H25 := Lib.hid (HD24.out.on hb); have HR25 := Lib.hid (HRT.out.keep (HD24.out.on hb).low (HD24.out.on hb).bel); have HC25 := Lib.hid ((HX.out _ (HD24.out.on hb).bel).2.2.2.2.2.2.2); clear hn25 h1 h2 h3 hb)
                      | (go_at_call 21; refine (lz_all (HQB.out (.cells #[.slice p7 n7 c7] 22)) HT6.out.1 HT6.out.2.2 _ rfl).mono ?_; rintro r w25 ⟨q25, l25, n25, c25, rfl, hn25, h1, h2, h3, hb⟩; have HN25 := Lib.hid hn25; have HQ24 := Lib.hid (HQB.out (.cells #[.slice p7 n7 c7] 22)); have HLT7 := Lib.hid (((lsa_one (w := w24) (T := 22) (HR7.out.on H24.out.bel) HN.out.2.2.2.1 HN.out.2.2.2.2).onW (Below.refl _ _).drew).onW hb); have HA25 := Lib.hid (And.intro h1 (And.intro h2 h3)); have H25 := Lib.hid (HQ24.out.on hb); have HR25 := Lib.hid (HRT.out.keep (HQ24.out.on hb).low (HQ24.out.on hb).bel); have HC25 := Lib.hid ((HX.out _ (HQ24.out.on hb).bel).2.2.2.2.2.2.2); clear hn25 h1 h2 h3 hb))
                  all_goals
                    go_wp2_with fail
                    go_ret
                    exact ⟨by rfl, HBB.out.trans (HB27.out.mono HBB.out.size)⟩
                · rcases HSM.out with hsm | ⟨hob, _⟩
                  · exact absurd (HA10.out.2.1.trans hsm) hsame
                  · exact absurd hob (by decide)
end
end Go.Proofs.YtooiaadnhglifaaDoor
