/-
  Contract: Disk.Cut.
-/
import Derived.Test.YtfkmakkofeedpaaDop
set_option linter.unusedVariables false
set_option linter.unusedSimpArgs false
namespace Go.Proofs.Ytfkmakkofeedpaa
open Go.Maps Go.RowKit

set_option maxRecDepth 100000 in
set_option maxHeartbeats 2000000 in
theorem cut_any (base d : Nat) (s : DS) (O : Nat → Prop) (nm : ByteArray) (hs : nm.size ≤ maxLen) (n : Int) (w : World) (h : Dk w base d s O) :
    Calls Try.prog 18 #[.pointer (some ⟨d, 0, none⟩), .string nm, .int .i64 n] w fun r w' => r = .returned (.int .i64 (cutS s nm.data.toList n).2) ∧ After w' w base d O (cutS s nm.data.toList n).1 := by
  obtain ⟨mb, l, hD, hfs, rfl⟩ := h
  obtain ⟨fs, on, left⟩ := s
  simp only at hD hfs
  subst hfs
  obtain ⟨W1, hW1⟩ : ∃ W1, W1 = w.alloc (.cells #[.int .i64 n] 3) := ⟨_, rfl⟩
  have hB : Below w.heap.size w W1 := hW1 ▸ below1 w _
  have hz1 : W1.heap.size = w.heap.size + 1 := by rw [hW1]; simp
  have hD1 := hD.on_ hB
  have x0 : W1.cell? ⟨w.heap.size, 0, none⟩ = some (.int .i64 n) := by rw [hW1]; exact box0 w _ _
  have HF := Lib.hid (find_any base d mb l on left nm hs W1 hD1)
  have hdl := hD.dsk.lt
  cases on with
  | false =>
    have HS := Lib.hid (show cutS ⟨l.map absF, false, left⟩ nm.data.toList n = (⟨l.map absF, false, left⟩, 20) by rfl)
    have HFIN := Lib.hid (after_same (w := w) hD (hB.trans ((below1 W1 (.cells #[.pointer none] 64)).mono hB.size)))
    rw [show findP false (getF nm.data.toList l) = .pointer none from rfl, show findE false (getF nm.data.toList l) = 20 from rfl] at HF
    subst hW1
    clear hD hD1 hs hB x0 hdl hz1
    go_enter Try.func18, Try.ntmps18
    go_wp2_with (go_at_call 32; refine HF.out.mono ?_; rintro r w1 ⟨rfl, rfl⟩)
    go_ret
    rw [HS.out]
    exact ⟨rfl, HFIN.out⟩
  | true =>
    cases hg : getF nm.data.toList l with
    | none =>
      have HS := Lib.hid (show cutS ⟨l.map absF, true, left⟩ nm.data.toList n = (⟨l.map absF, true, left⟩, 4) by
        unfold cutS; rw [if_neg (by simp), abs_get, hg]; rfl)
      have HFIN := Lib.hid (after_same (w := w) hD (hB.trans ((below1 W1 (.cells #[.pointer none] 64)).mono hB.size)))
      rw [hg, show findP true none = .pointer none from rfl, show findE true none = 4 from rfl] at HF
      subst hW1
      clear hD hD1 hs hB x0 hg hdl hz1
      go_enter Try.func18, Try.ntmps18
      go_wp2_with (go_at_call 32; refine HF.out.mono ?_; rintro r w1 ⟨rfl, rfl⟩)
      go_ret
      rw [HS.out]
      exact ⟨rfl, HFIN.out⟩
    | some f =>
      obtain ⟨hf, hfn⟩ := getF_mem hg
      rw [hg, show findP true (some f) = .pointer (some ⟨f.blk, 0, none⟩) from rfl, show findE true (some f) = 0 from rfl] at HF
      obtain ⟨W2, hW2⟩ : ∃ W2, W2 = W1.alloc (.cells #[.pointer (some ⟨f.blk, 0, none⟩)] 64) := ⟨_, rfl⟩
      have hb2 : Below W1.heap.size W1 W2 := hW2 ▸ below1 W1 _
      have hB2 : Below w.heap.size w W2 := hB.trans (hb2.mono hB.size)
      have hD2 := hD.on_ hB2
      have y0 : W2.cell? ⟨w.heap.size, 0, none⟩ = some (.int .i64 n) := by rw [hb2.cell (p := ⟨w.heap.size, 0, none⟩) (by show w.heap.size < W1.heap.size; omega)]; exact x0
      have y1 : W2.cell? ⟨w.heap.size + 1, 0, none⟩ = some (.pointer (some ⟨f.blk, 0, none⟩)) := by
        rw [hW2, show w.heap.size + 1 = W1.heap.size by omega]; exact box0 W1 _ _
      obtain ⟨fc0, fc1, fs0, fs1, flt⟩ := hD2.fcells hf
      obtain ⟨p0, d0, hv0, hd0⟩ := (hD.row f hf).1
      obtain ⟨L0, hL0⟩ : ∃ L0, f.xs.length = L0 := ⟨_, rfl⟩
      rw [hL0] at hv0
      rw [hv0] at fc0
      by_cases hneg : n < 0
      · have HS := Lib.hid (show cutS ⟨l.map absF, true, left⟩ nm.data.toList n = (⟨l.map absF, true, left⟩, 1) by
          unfold cutS; rw [if_neg (by simp), abs_get, hg]
          show (if n < 0 ∨ (f.xs.length : Int) < n then _ else _) = _
          rw [if_pos (.inl hneg)])
        have HFIN := Lib.hid (fun k => after_same (w := w) hD (hB2.trans ((below_drewN' (Below.refl W2.heap.size W2) k).mono hB2.size)))
        have HW2 := Lib.hid hW2
        have HW1 := Lib.hid hW1
        have HZ1 := Lib.hid hz1
        clear hD hD1 hD2 hs hB hB2 hb2 x0 hg hf hfn hdl hz1 hv0 hL0 hd0 fc1 fs0 fs1 flt hW1 hW2
        go_enter Try.func18, Try.ntmps18
        go_upto_region 4 with (go_at_call 32; rw [← HW1.out]; refine HF.out.mono ?_; rintro r w1 ⟨rfl, rfl⟩)
        rw [← HW2.out, HZ1.out]
        go_quiet (fail)
        go_wp2_with fail
        go_ret
        rw [HS.out]
        exact ⟨rfl, HFIN.out nq⟩
      · obtain ⟨n, rfl⟩ : ∃ k : Nat, n = (k : Int) := ⟨n.toNat, by omega⟩
        by_cases hgt : L0 < n
        · have HS := Lib.hid (show cutS ⟨l.map absF, true, left⟩ nm.data.toList (n : Int) = (⟨l.map absF, true, left⟩, 1) by
            unfold cutS; rw [if_neg (by simp), abs_get, hg]
            show (if (n : Int) < 0 ∨ (f.xs.length : Int) < (n : Int) then _ else _) = _
            rw [if_pos (.inr (by omega))])
          have HFIN := Lib.hid (after_same (w := w) hD (hB2.trans (Below.drew (Below.refl _ W2) |>.mono hB2.size)))
          have z0 : W2.drew.cell? ⟨w.heap.size, 0, none⟩ = some (.int .i64 n) := y0
          have z1 : W2.drew.cell? ⟨w.heap.size + 1, 0, none⟩ = some (.pointer (some ⟨f.blk, 0, none⟩)) := y1
          have z2 : W2.drew.cell? ⟨f.blk, 0, none⟩ = some (.slice p0 L0 d0) := fc0
          have k1 : ¬ (n : Int) < 0 := hneg
          have k2 : (0 : Int) ≤ (n : Int) := by omega
          have k3 : (L0 : Int) < (n : Int) := by omega
          have HW2 := Lib.hid hW2
          have HW1 := Lib.hid hW1
          have HZ1 := Lib.hid hz1
          clear hD hD1 hD2 hs hB hB2 hb2 x0 y0 y1 hg hf hfn hdl hz1 hv0 hL0 hd0 fc0 fc1 fs0 fs1 flt hW1 hW2 hneg hgt
          go_enter Try.func18, Try.ntmps18
          go_upto_region 4 with (go_at_call 32; rw [← HW1.out]; refine HF.out.mono ?_; rintro r w1 ⟨rfl, rfl⟩)
          rw [← HW2.out, HZ1.out]
          go_region_held3 (fun X => X = W2.drew) (first | rfl | go_keep) (fail)
          all_goals
            go_wp2_with fail
            go_ret
            rw [HS.out]
            exact ⟨rfl, HFIN.out⟩
        · have HS := Lib.hid (show cutS ⟨l.map absF, true, left⟩ nm.data.toList (n : Int) = unitS ⟨l.map absF, true, left⟩ (putF (mkF f.nm (f.xs.take n) (min f.sure n)) (l.map absF)) by
            unfold cutS; rw [if_neg (by simp), abs_get, hg]
            show (if (n : Int) < 0 ∨ (f.xs.length : Int) < (n : Int) then _ else _) = _
            rw [if_neg (by omega), hfn]; rfl)
          have hB3 : Below w.heap.size w W2.drew := hB2.trans (Below.drew (Below.refl _ W2) |>.mono hB2.size)
          have hD3 := hD.on_ hB3
          have z0 : W2.drew.cell? ⟨w.heap.size, 0, none⟩ = some (.int .i64 n) := y0
          have z1 : W2.drew.cell? ⟨w.heap.size + 1, 0, none⟩ = some (.pointer (some ⟨f.blk, 0, none⟩)) := y1
          have z2 : W2.drew.cell? ⟨f.blk, 0, none⟩ = some (.slice p0 L0 d0) := fc0
          have hno : ∀ b, w.heap.size ≤ b → ∀ X, Dl X base d mb l true (useS left 1).2.1 → Only d W2.drew X → ¬ OwnD d mb l b := by
            intro b hb X hX hO ho
            have := (hD.lt b ho).1
            omega
          have HC := Lib.hid (do_cut base d mb l left (w.heap.size + 1) w.heap.size _ hD3 (fun w' => Left W2.drew w' base d mb l true (useS left 1).2.1 (putF (mkF f.nm (f.xs.take n) (min f.sure n)) (l.map absF))) (fun X hX hO =>
            (cut1_any base d mb l true _ f hf (w.heap.size + 1) w.heap.size n (by omega) X hX (hO.cellAt (by omega) z1) (hO.cellAt (by omega) z0) (hno _ (by omega) X hX hO) (hno _ (Nat.le_refl _) X hX hO)).mono fun r w' hr => ⟨hr.1, hr.2.after (Only.fr hO (.inl rfl))⟩))
          have HUN := Lib.hid (fun w' h1 h2 => unit_end (w := w) (w' := w') (l := l) (left := left) (base := base) (d := d) (mb := mb) (fs := putF (mkF f.nm (f.xs.take n) (min f.sure n)) (l.map absF)) hB3 h1 h2)
          have k1 : ¬ (n : Int) < 0 := hneg
          have k2 : (0 : Int) ≤ (n : Int) := by omega
          have k3 : ¬ (L0 : Int) < (n : Int) := by omega
          have k4 : (n : Int) ≤ (L0 : Int) := by omega
          have HW2 := Lib.hid hW2
          have HW1 := Lib.hid hW1
          have HZ1 := Lib.hid hz1
          clear hD hD1 hD2 hD3 hs hB hB2 hB3 hb2 x0 y0 y1 hg hf hfn hdl hz1 hv0 hL0 hd0 fc0 fc1 fs0 fs1 flt hW1 hW2 hneg hgt hno
          go_enter Try.func18, Try.ntmps18
          go_upto_region 4 with (go_at_call 32; rw [← HW1.out]; refine HF.out.mono ?_; rintro r w1 ⟨rfl, rfl⟩)
          rw [← HW2.out, HZ1.out]
          go_region_held3 (fun X => X = W2.drew) (first | rfl | go_keep) (fail)
          all_goals
            go_wp2_with (go_at_call 40; refine HC.out.mono ?_; rintro r w1 ⟨rfl, h1, h2⟩; have HE := Lib.hid (HUN.out _ h1 h2); clear h1 h2)
            go_ret
            rw [HS.out]
            exact ⟨by rw [HE.out.2]; rfl, HE.out.1⟩
end Go.Proofs.Ytfkmakkofeedpaa
