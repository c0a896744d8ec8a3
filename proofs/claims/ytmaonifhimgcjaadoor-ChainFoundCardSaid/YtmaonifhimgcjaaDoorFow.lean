/-
  The walk of ChainFound.
-/
import Derived.Test.YtmaonifhimgcjaaDoorFes
import Derived.Test.YtmaonifhimgcjaaDoorSum
import Derived.Test.YtmaonifhimgcjaaDoorCba
set_option linter.unusedVariables false
set_option linter.unusedSimpArgs false
namespace Go.Proofs.YtmaonifhimgcjaaDoor
open Go.RowKit Nm

theorem two_rows (w : World) (c1 c2 A B : Array Value) (T : TypeId) : Bk ((((w.alloc (.cells c1 T)).alloc (.cells c2 T)).setRow w.heap.size A).setRow (w.heap.size + 1) B) w.heap.size T A ∧ Bk ((((w.alloc (.cells c1 T)).alloc (.cells c2 T)).setRow w.heap.size A).setRow (w.heap.size + 1) B) (w.heap.size + 1) T B ∧
    Below w.heap.size w ((((w.alloc (.cells c1 T)).alloc (.cells c2 T)).setRow w.heap.size A).setRow (w.heap.size + 1) B) := by
  have h0 : Bk ((w.alloc (.cells c1 T)).alloc (.cells c2 T)) w.heap.size T c1 := (Bk.new w _ _).on (below1 _ _)
  have h1 : Bk ((w.alloc (.cells c1 T)).alloc (.cells c2 T)) (w.heap.size + 1) T c2 := Bk.new' (w.alloc _) (by simp) _ _
  have h2 : Bk (((w.alloc (.cells c1 T)).alloc (.cells c2 T)).setRow w.heap.size A) w.heap.size T A := setRow_heap _ _ _ _ _ _ h0
  have h3 : Bk (((w.alloc (.cells c1 T)).alloc (.cells c2 T)).setRow w.heap.size A) (w.heap.size + 1) T c2 := (setRow_other _ _ _ _ (by omega)).trans h1
  exact ⟨(setRow_other _ _ _ _ (by omega)).trans h2, setRow_heap _ _ _ _ _ _ h3, below_setRow (below_setRow (below2 w _ _) (Nat.le_refl _) _) (Nat.le_succ _) _⟩
set_option maxRecDepth 100000 in
set_option maxHeartbeats 8000000 in
theorem found_walk (cut : Int) (q1 : Option Addr) (a : List En) (c1 : Nat) (q2 : Option Addr) (b : List En) (c2 : Nat) (w : World) (hE : Env3 w) (hA : Ens w q1 a) (hB : Ens w q2 b) :
    Calls Tryd.prog 7 #[.int .i64 cut, .slice q1 a.length c1, .slice q2 b.length c2] w fun r w' => r = .returned (.bool true) ∧ Below w.heap.size w w' := by
  have HE := Lib.hid hE
  have HA := Lib.hid (show Rc w w q1 a q2 b from ⟨hA, hB, Below.refl _ _⟩)
  clear hE hA hB
  go_enter Tryd.func7, Tryd.ntmps7
  go_upto_region 3 with (go_at_call 13; refine (fixed_any _ HE.out).mono ?_; rintro r w1 ⟨rfl, hb⟩; have HA1 := Lib.hid (HA.out.on hb); clear hb)
  by_cases hbig : 20 < a.length
  · have h1 : (20 : Int) < (a.length : Int) := by omega
    go_wp2_with fail
    go_ret
    exact ⟨by rfl, HA1.out.bel⟩
  have h1 : (a.length : Int) ≤ 20 := by omega
  by_cases hbig2 : 20 < b.length
  · have h2 : (20 : Int) < (b.length : Int) := by omega
    go_wp2_with fail
    go_ret
    exact ⟨by rfl, HA1.out.bel⟩
  have h2 : (b.length : Int) ≤ 20 := by omega
  have h3 : decide ((20 : Int) < (b.length : Int)) = false := by simpa using h2
  have h4 : decide ((20 : Int) < (a.length : Int)) = false := by simpa using h1
  have HN := Lib.hid (show a.length ≤ 20 ∧ b.length ≤ 20 by omega)
  clear hbig hbig2
  have HF := Lib.hid (found_cases cut a b (by omega) (by omega))
  have C1 := Lib.hid (fun X (h0 : Env X) (h1 : Ens X q1 a) => chead_both cut q1 a c1 X h0 h1 (by have := HN.out; omega))
  have C2 := Lib.hid (fun X (h0 : Env X) (h1 : Ens X q2 b) => chead_both cut q2 b c2 X h0 h1 (by have := HN.out; omega))
  have C3 := Lib.hid (fun X (h0 : Env X) (h1 : Ens X q1 a) (h2 : Ens X q2 b) => cclash_both cut q1 a c1 q2 b c2 X h0 h1 h2 (by have := HN.out; omega) (by have := HN.out; omega))
  have C4 := Lib.hid (fun X (h1 : Ens X q1 a) (h2 : Ens X q2 b) => refsame_any q1 a c1 q2 b c2 X h1 h2 (by have := HN.out; omega) (by have := HN.out; omega))
  generalize clashR cut a b = R at *
  generalize headS cut a = LA at *
  generalize headS cut b = LB at *
  generalize headE cut a = ea at *
  generalize headE cut b = eb at *
  obtain ⟨X, Y, k⟩ := R
  go_upto_region 6 with (go_at_call 16; refine (C1.out _ (HE.out.on HA1.out.bel).env HA1.out.ea).mono ?_; rintro r w5 ⟨q5, c5, rfl, hr, hb⟩; have HA5 := Lib.hid (HA1.out.on hb); have HR5 := Lib.hid hr; clear hr hb)
  go_upto_region 7 with (go_at_call 16; refine (C2.out _ (HE.out.on HA5.out.bel).env HA5.out.eb).mono ?_; rintro r w6 ⟨q6, c6, rfl, hr, hb⟩; have HA6 := Lib.hid (HA5.out.on hb); have HR6 := Lib.hid (show Rd0 w6 q5 LA ∧ Rd0 w6 q6 LB from ⟨HR5.out.on hb, hr⟩); clear hr hb)
  go_upto_region 8 with (go_at_call 20; refine (C3.out _ (HE.out.on HA6.out.bel).env HA6.out.ea HA6.out.eb).mono ?_; rintro r w7 ⟨⟨x1, d1, y1, e1, rfl, hX, hY, hcx, hcy⟩, hb⟩; have HA7 := Lib.hid (HA6.out.on hb); have HR7 := Lib.hid (show (Rd0 w7 q5 LA ∧ Rd0 w7 q6 LB) ∧ Rd0 w7 x1 X ∧ Rd0 w7 y1 Y from ⟨⟨HR6.out.1.on hb, HR6.out.2.on hb⟩, hX, hY⟩); have HCP := Lib.hid (And.intro hcx hcy); clear hb hX hY hcx hcy)
  have v1 := run_back8 w7 q5 LA c5 HR7.out.1.1
  have v2 := run_back8 w7 q6 LB c6 HR7.out.1.2
  rcases HF.out with ⟨rfl, e⟩ | ⟨rfl, rfl, e⟩ | ⟨rfl, rfl, hne, e⟩ | ⟨rfl, rfl, rfl, h0, e⟩ | ⟨rfl, rfl, rfl, hab, h0a, h0b, n, X', Y', rfl, hn, e, hxy, hs, hlx, hly⟩
  · cases e
    clear HF v1 v2
    go_wp2_with fail
    go_ret
    exact ⟨by rfl, HA7.out.bel⟩
  · cases e
    clear HF v1 v2
    go_wp2_with fail
    go_ret
    exact ⟨by rfl, HA7.out.bel⟩
  · cases e
    have hne2 : (LA != LB) = true := by simpa [bne_iff_ne] using hne
    have hne3 : (LA == LB) = false := by simpa using hne
    clear HF
    go_wp2_with fail
    go_ret
    exact ⟨by rfl, HA7.out.bel⟩
  · cases e
    clear HF
    have hz : ∀ L : List UInt8, (L != L) = false := fun L => by simp
    rcases h0 with h0 | h0
    · have H0 := Lib.hid h0
      clear h0
      go_upto_region 10 with fail
      go_wp2_with (go_at_call 28; refine (C4.out _ HA7.out.ea HA7.out.eb).mono ?_; rintro r w8 ⟨⟨s, rfl, hs⟩, hb⟩; obtain rfl := hs.2 H0.out; clear hs; have HA8 := Lib.hid (HA7.out.on hb); clear hb)
      go_ret
      exact ⟨by rfl, HA8.out.bel⟩
    · have hz0 : ((a.length : Int) == 0) = true ∨ (((a.length : Int) == 0) = false ∧ ((b.length : Int) == 0) = true) := by
        by_cases e : a.length = 0
        · exact .inl (by rw [beq_iff_eq]; omega)
        · exact .inr ⟨by rw [beq_eq_false_iff_ne]; omega, by rw [beq_iff_eq]; omega⟩
      clear h0
      go_upto_region 10 with fail
      rcases hz0 with z1 | ⟨z1, z2⟩
      · refine wp_region_list ?_
        go_wp2_with (go_at_call 28; refine (C4.out _ HA7.out.ea HA7.out.eb).mono ?_; rintro r w8 ⟨⟨s, rfl, hs⟩, hb⟩; clear hs; have HA8 := Lib.hid (HA7.out.on hb); clear hb; cases s)
        all_goals
          go_ret
          exact ⟨by rfl, HA8.out.bel⟩
      · refine wp_region_list ?_
        go_wp2_with (go_at_call 28; refine (C4.out _ HA7.out.ea HA7.out.eb).mono ?_; rintro r w8 ⟨⟨s, rfl, hs⟩, hb⟩; clear hs; have HA8 := Lib.hid (HA7.out.on hb); clear hb; cases s)
        all_goals
          go_ret
          exact ⟨by rfl, HA8.out.bel⟩
  · cases e
    have hz : ∀ L : List UInt8, (L != L) = false := fun L => by simp
    have HAB := Lib.hid hab
    have HS := Lib.hid hs
    have HLX := Lib.hid (And.intro hlx hly)
    have HCT := Lib.hid hn
    have z1 : ((a.length : Int) == 0) = false := by rw [beq_eq_false_iff_ne]; omega
    have z2 : ((b.length : Int) == 0) = false := by rw [beq_eq_false_iff_ne]; omega
    have hx1 : (X == Y) = false := by simpa using hxy
    have hx2 : (X != Y) = true := by simpa [bne_iff_ne] using hxy
    obtain ⟨SX, hSX⟩ : ∃ SX, Hid (SX = sumS X) := ⟨_, Lib.hid rfl⟩
    obtain ⟨SY, hSY⟩ : ∃ SY, Hid (SY = sumS Y) := ⟨_, Lib.hid rfl⟩
    have HQX := Lib.hid (show SX.length = 32 by rw [hSX.out]; exact sumS_len _)
    have HQY := Lib.hid (show SY.length = 32 by rw [hSY.out]; exact sumS_len _)
    have HCX := Lib.hid (show (cells8 SX).toArray.size = 32 by rw [List.size_toArray, cells8_len, HQX.out])
    have HCY := Lib.hid (show (cells8 SY).toArray.size = 32 by rw [List.size_toArray, cells8_len, HQY.out])
    have HTK := Lib.hid (show SX.take n = SY.take n by rw [hSX.out, hSY.out]; exact HS.out)
    clear HF hab hs hlx hly hn hxy h0a h0b
    go_upto_region 10 with fail
    go_upto_region 14 with (go_at_call 28; refine (C4.out _ HA7.out.ea HA7.out.eb).mono ?_; rintro r w8 ⟨⟨s, rfl, hs⟩, hb⟩; have hs2 : s = false := Bool.eq_false_iff.2 (fun h => HAB.out (hs.1 h)); subst hs2; clear hs; have HA8 := Lib.hid (HA7.out.on hb); have HR8 := Lib.hid (show Rd0 w8 x1 X ∧ Rd0 w8 y1 Y from ⟨HR7.out.2.1.on hb, HR7.out.2.2.on hb⟩); clear hb)
    have v3 := run_back8 w8 x1 X d1 HR8.out.1
    have v4 := run_back8 w8 y1 Y e1 HR8.out.2
    go_upto_region 16 with fail
    clear v1 v2 v3 v4
    have HV8 := Lib.hid (show Env w8 from (HE.out.on HA8.out.bel).env)
    go_upto_region 17 with (first
      | (refine wpList_store_row rfl 22 _ _ rfl _ _ rfl rfl _ _ ((setRow_other _ _ _ _ (by omega)).trans (Bk.new' (w10.alloc _) (by simp) _ _)) (by rw [HCY.out]; kernel_rfl) (by rw [HCY.out]; rfl) (cells8_one _) ?_)
      | (refine wpList_store_row rfl 22 _ _ rfl _ _ rfl rfl _ _ ((Bk.new w10 _ _).on (below1 _ _)) (by rw [HCX.out]; kernel_rfl) (by rw [HCX.out]; rfl) (cells8_one _) ?_)
      | (go_at_call 29; refine (sum_any y1 e1 Y _ HR9.out HCP.out.2 HV9.out (by have := HLX.out.2; omega) SY hSY).mono ?_; rintro r w10 ⟨rfl, hb⟩; have HA10 := Lib.hid (HA9.out.on hb); clear hb)
      | (go_at_call 29; refine (sum_any x1 d1 X _ HR8.out.1 HCP.out.1 HV8.out (by have := HLX.out.1; omega) SX hSX).mono ?_; rintro r w9 ⟨rfl, hb⟩; have HA9 := Lib.hid (HA8.out.on hb); have HR9 := Lib.hid (HR8.out.2.on hb); have HV9 := Lib.hid (show Env w9 from (HE.out.on HA9.out.bel).env); clear hb))
    change Code.wp _ _ _ _ ((((w10.alloc (.cells (cells8 (List.replicate 32 0)).toArray 22)).alloc (.cells (cells8 (List.replicate 32 0)).toArray 22)).setRow w10.heap.size (cells8 SX).toArray).setRow (w10.heap.size + 1) (cells8 SY).toArray)
    obtain ⟨b1, b2, b3⟩ := two_rows w10 (cells8 (List.replicate 32 0)).toArray (cells8 (List.replicate 32 0)).toArray (cells8 SX).toArray (cells8 SY).toArray 22
    have HB1 := Lib.hid b1
    have HB2 := Lib.hid b2
    have HB3 := Lib.hid (HA10.out.bel.trans (b3.mono HA10.out.bel.size))
    clear b1 b2 b3
    generalize ((((w10.alloc (.cells (cells8 (List.replicate 32 0)).toArray 22)).alloc (.cells (cells8 (List.replicate 32 0)).toArray 22)).setRow w10.heap.size (cells8 SX).toArray).setRow (w10.heap.size + 1) (cells8 SY).toArray) = WF at *
    generalize w10.heap.size = N at *
    (try simp only [Act.put])
    clear HA8 HA9 HA10 HR8 HR9 HV8 HV9 HCX HCY hx1 hx2 z1 z2
    go_wp2_with fail
    go_loopw [16] (fun i wr => ∃ t : Nat, t ≤ n ∧ i = .int .i64 (t : Int) ∧ Hid (Bk wr N 22 (cells8 SX).toArray ∧ Bk wr (N + 1) 22 (cells8 SY).toArray ∧ Below w.heap.size w wr)) (fun i _ => n - (intOf i).toNat)
    case atStart => exact ⟨0, Nat.zero_le _, rfl, Lib.hid ⟨HB1.out, HB2.out, HB3.out⟩⟩
    case round =>
      clear HB1 HB2 HB3
      obtain ⟨t, ht, rfl, HI⟩ := hrel
      by_cases hlt : t < n
      · have k0 : (0 : Int) ≤ (t : Int) := by omega
        have k1 : (t : Int) < (n : Int) := by omega
        have k2 : (t : Int) < 32 := by have := HCT.out; omega
        have k6 : IntKind.i64.wrap ((t : Int) + 1) = (t : Int) + 1 := IntWalk.i64_in _ (by have := HCT.out; omega)
        have hX : t < SX.length := by rw [HQX.out]; have := HCT.out; omega
        have hY : t < SY.length := by rw [HQY.out]; have := HCT.out; omega
        have he : SX[t] = SY[t] := by
          have h := congrArg (fun l => l[t]?) HTK.out
          simp only [List.getElem?_take, if_pos hlt, List.getElem?_eq_getElem hX, List.getElem?_eq_getElem hY, Option.some.injEq] at h
          exact h
        go_upto_region 20 with fail
        have HD := Lib.hid (show Bk wr.drew N 22 (cells8 SX).toArray ∧ Bk wr.drew (N + 1) 22 (cells8 SY).toArray ∧ Below w.heap.size w wr.drew from ⟨HI.out.1.on (Below.refl _ _).drew, HI.out.2.1.on (Below.refl _ _).drew, HI.out.2.2.drew⟩)
        have x0 : wr.drew.cell? ⟨N, t, none⟩ = some (B8 SX[t]) := HD.out.1.cell t _ (by simp [cells8, hX])
        have x1 : wr.drew.cell? ⟨N + 1, t, none⟩ = some (B8 SX[t]) := HD.out.2.1.cell t _ (by simp [cells8, hY, he])
        clear he
        generalize SX[t] = y at *
        go_region_held3 (fun X => X = wr.drew) (first | rfl | go_keep) (fail)
        go_wp2_with fail
        go_roundw
        case rel => exact ⟨t + 1, by omega, by go_num, HD⟩
        case measure => simp [intOf]; try omega
      · obtain rfl : t = n := by omega
        obtain ⟨wq, rfl⟩ : ∃ wq : World, wq = wr := ⟨_, rfl⟩
        go_wp2_with fail
        go_ret
        exact ⟨by rfl, HI.out.2.2⟩
end Go.Proofs.YtmaonifhimgcjaaDoor
