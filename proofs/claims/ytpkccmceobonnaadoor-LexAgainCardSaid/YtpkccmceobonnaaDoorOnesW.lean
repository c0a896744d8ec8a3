/-
  The walks of mandatelaw05.LexOnes, LexPlaces, LexAlls: they answer true.
-/
import Derived.Test.YtpkccmceobonnaaDoorFixed
import Derived.Test.YtpkccmceobonnaaDoorRall
namespace Go.Proofs.YtpkccmceobonnaaDoor
open Go.RowKit

theorem allF_len : ∀ (f k : Nat) (l : List UInt8), (allF f k l).toks.length ≤ f
  | 0, _, _ => by simp [allF]
  | _ + 1, _, [] => by simp [allF]
  | f + 1, k, c :: r => by
    rw [allF]
    split
    · have := allF_len f (k + 1) r; omega
    · split
      · have := allF_len f (k + (oneL (c :: r)).len) ((c :: r).drop (oneL (c :: r)).len)
        unfold Toks.put; split
        · simp; omega
        · simp
      · simp
theorem toks_len (l : List UInt8) : (allL l).toks.length ≤ 5000 := by
  unfold allL; split
  · simp
  · have := allF_len l.length 0 l; omega
/-- One's answer, its parts by name -/
theorem oneV_parts (l : List UInt8) (a : Int) : ∃ K F T E : Int, oneV l a = .tuple #[.agg #[.int .u8 K, .int .i64 F, .int .i64 T], .int .i64 E] := ⟨_, _, _, _, rfl⟩
theorem cell3 {w w1 : World} {K F T : Int} (hb : Below (w.alloc (.cells #[.int .u8 K, .int .i64 F, .int .i64 T] 32)).heap.size (w.alloc (.cells #[.int .u8 K, .int .i64 F, .int .i64 T] 32)) w1) :
    w1.cell? ⟨w.heap.size, 0, none⟩ = some (.int .u8 K) ∧ w1.cell? ⟨w.heap.size, 1, none⟩ = some (.int .i64 F) ∧ w1.cell? ⟨w.heap.size, 2, none⟩ = some (.int .i64 T) ∧ w.heap.size < w1.heap.size := by
  have c0 := hb.cell (p := ⟨w.heap.size, 0, none⟩) (by simp)
  have c1 := hb.cell (p := ⟨w.heap.size, 1, none⟩) (by simp)
  have c2 := hb.cell (p := ⟨w.heap.size, 2, none⟩) (by simp)
  have hz := hb.size
  simp [go_sem] at c0 c1 c2 hz
  exact ⟨c0, c1, c2, by omega⟩

set_option maxHeartbeats 2000000 in
set_option maxRecDepth 100000 in
theorem ones_walk (hfix : FixedOk) (s : ByteArray) (a : Int) (w : World) (he : Env w) (hs : s.size ≤ 140737488351232) :
    Calls Tryd.prog 4 #[.string s, .int .i64 a] w fun e w' => e = .returned (.bool true) ∧ Below w.heap.size w w' := by
  obtain ⟨K, F, T, E, hv⟩ := oneV_parts s.data.toList a
  have h1 := fun wx (hx : Env wx) => one_any s a wx hs hx
  have h2 := fun wx => refone_any s a wx hs
  simp only [hv] at h1 h2
  have H1 := Lib.hid h1
  have H2 := Lib.hid h2
  have HE := Lib.hid he
  have HFX := Lib.hid hfix
  clear h1 h2 hv he hfix
  have heq := fun wx => eql32_self K F T wx
  go_enter Tryd.func4, Tryd.ntmps4
  go_wp2_with fail
  refine (H1.out _ HE.out).mono ?_
  rintro e w1 ⟨rfl, hb1⟩
  have HB1 := Lib.hid hb1
  clear hb1
  go_wp2_with fail
  refine (H2.out _).mono ?_
  rintro e w2 ⟨rfl, hb2⟩
  obtain ⟨x0, x1, x2, z2⟩ := cell3 hb2
  have hB2 : Below w1.heap.size w1 w2 := ((Below.refl _ _).alloc (Nat.le_refl _) _).trans (hb2.mono (by simp))
  have HB2 := Lib.hid (HB1.out.trans (hB2.mono HB1.out.size))
  clear hb2 hB2
  generalize hm1 : w1.heap.size = m1 at *
  go_wp2_with fail
  have hA := (Below.refl w2.heap.size w2).alloc (Nat.le_refl _) (.cells #[.int .u8 K, .int .i64 F, .int .i64 T] 32)
  refine (HFX.out _ (HE.out.on (HB2.out.alloc HB2.out.size _))).mono ?_
  rintro e w3 ⟨rfl, hb3⟩
  obtain ⟨y0, y1, y2, z3⟩ := cell3 hb3
  have hB3 : Below w2.heap.size w2 w3 := hA.trans (hb3.mono hA.size)
  have t0 : w3.cell? ⟨m1, 0, none⟩ = some (.int .u8 K) := by rw [hB3.cell (p := ⟨m1, 0, none⟩) (by simpa using z2)]; exact x0
  have t1 : w3.cell? ⟨m1, 1, none⟩ = some (.int .i64 F) := by rw [hB3.cell (p := ⟨m1, 1, none⟩) (by simpa using z2)]; exact x1
  have t2 : w3.cell? ⟨m1, 2, none⟩ = some (.int .i64 T) := by rw [hB3.cell (p := ⟨m1, 2, none⟩) (by simpa using z2)]; exact x2
  have HB3 := Lib.hid (HB2.out.trans (hB3.mono HB2.out.size))
  clear hb3 hA hB3 x0 x1 x2
  generalize hm2 : w2.heap.size = m2 at *
  go_wp2_with fail
  go_ret
  exact ⟨rfl, HB3.out⟩

set_option maxHeartbeats 4000000 in
set_option maxRecDepth 100000 in
theorem places_walk (hfix : FixedOk) (s : ByteArray) (w : World) (he : Env w) (hs : s.size ≤ 140737488351232) :
    Calls Tryd.prog 5 #[.string s] w fun e w' => e = .returned (.bool true) ∧ Below w.heap.size w w' := by
  have HE := Lib.hid he
  have HFX := Lib.hid hfix
  clear he hfix
  go_enter Tryd.func5, Tryd.ntmps5
  go_wp2_with fail
  refine (HFX.out _ HE.out).mono ?_
  rintro e w0 ⟨rfl, hb0⟩
  have HB0 := Lib.hid hb0
  clear hb0
  go_wp2_with fail
  go_loopw [3] (fun i wr => ∃ k : Nat, k ≤ 301 ∧ i = .int .i64 ((k : Int) - 1) ∧ Below w.heap.size w wr) (fun i _ => (300 - intOf i).toNat)
  case atStart => exact ⟨0, by omega, rfl, HB0.out⟩
  case round =>
    obtain ⟨k, hk, rfl, hb⟩ := hrel
    have HB := Lib.hid hb
    clear hb
    by_cases h1 : (k : Int) - 1 ≤ (s.size : Int)
    · by_cases h2 : (k : Int) - 1 < 300
      · obtain ⟨K, F, T, E, hv⟩ := oneV_parts s.data.toList ((k : Int) - 1)
        have h3 := fun wx (hx : Env wx) => one_any s ((k : Int) - 1) wx hs hx
        have h4 := fun wx => refone_any s ((k : Int) - 1) wx hs
        simp only [hv] at h3 h4
        have H1 := Lib.hid h3
        have H2 := Lib.hid h4
        clear h3 h4 hv
        have heq := fun wx => neq32_self K F T wx
        have g0 : (k : Int) - 1 + 1 ≤ 9223372036854775807 := by omega
        go_wp2_with fail
        refine (H1.out _ (HE.out.on HB.out)).mono ?_
        rintro e w1 ⟨rfl, hb1⟩
        have HB1 := Lib.hid (HB.out.trans (hb1.mono HB.out.size))
        clear hb1
        go_wp2_with fail
        refine (H2.out _).mono ?_
        rintro e w2 ⟨rfl, hb2⟩
        obtain ⟨x0, x1, x2, z2⟩ := cell3 hb2
        have hB2 : Below w1.heap.size w1 w2 := ((Below.refl _ _).alloc (Nat.le_refl _) _).trans (hb2.mono (by simp))
        have HB2 := Lib.hid (HB1.out.trans (hB2.mono HB1.out.size))
        have HB3 := Lib.hid (HB2.out.alloc HB2.out.size (.cells #[.int .u8 K, .int .i64 F, .int .i64 T] 32))
        clear hb2 hB2
        generalize hm1 : w1.heap.size = m1 at *
        go_wp2_with fail
        go_roundw
        case rel => exact ⟨k + 1, by omega, by go_num, HB3.out⟩
        case measure => simp [intOf]; omega
      · go_wp2_with fail
        go_ret
        exact ⟨rfl, HB.out⟩
    · go_wp2_with fail
      go_ret
      exact ⟨rfl, HB.out⟩

set_option maxHeartbeats 2000000 in
set_option maxRecDepth 100000 in
theorem alls_walk (hfix : FixedOk) (s : ByteArray) (w : World) (he : Env w) (hs : s.size ≤ 140737488351232) :
    Calls Tryd.prog 3 #[.string s] w fun e w' => e = .returned (.bool true) ∧ Below w.heap.size w w' := by
  have HE := Lib.hid he
  have HFX := Lib.hid hfix
  have HL := Lib.hid (show (allL s.data.toList).toks.length ≤ 5000 from toks_len _)
  clear he hfix
  go_enter Tryd.func3, Tryd.ntmps3
  go_wp2_with fail
  refine (all_any s _ hs HE.out).mono ?_
  rintro e w1 ⟨v1, rfl, hr1, hb1⟩
  have HB1 := Lib.hid hb1
  clear hb1
  go_wp2_with fail
  refine (refall_any s _ hs).mono ?_
  rintro e w2 ⟨v2, rfl, hr2, hb2⟩
  have HR1 := Lib.hid (hr1.below hb2)
  have HR2 := Lib.hid hr2
  have HB2 := Lib.hid (HB1.out.trans (hb2.mono HB1.out.size))
  clear hb2 hr1 hr2
  generalize (allL s.data.toList).pl = P at *
  generalize (allL s.data.toList).err = X at *
  go_wp2_with fail
  refine (HFX.out _ (HE.out.on HB2.out)).mono ?_
  rintro e w3 ⟨rfl, hb3⟩
  have HR1' := Lib.hid (HR1.out.below hb3)
  have HR2' := Lib.hid (HR2.out.below hb3)
  have HB3 := Lib.hid (HB2.out.trans (hb3.mono HB2.out.size))
  clear hb3
  go_wp2_with fail
  refine (same_yes v1 v2 _ _ HL.out HR1'.out HR2'.out).mono ?_
  rintro e w4 ⟨rfl, hb4⟩
  go_wp2_with fail
  go_ret
  exact ⟨rfl, HB3.out.trans (hb4.mono HB3.out.size)⟩
end Go.Proofs.YtpkccmceobonnaaDoor
