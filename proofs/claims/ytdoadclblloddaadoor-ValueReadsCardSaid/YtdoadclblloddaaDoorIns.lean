/-
  Contract: sort.insertionSort_func over a row of tuples, compared by value.tuples.ahead.
-/
import Derived.Test.YtdoadclblloddaaDoorRow
namespace Go.Proofs.YtdoadclblloddaaDoor
open Go.RowKit Go.Sort

/-- what is asked of the swap that is handed in -/
def SwOk (sf : Nat) (sb : Array Value) (blk off size : Nat) : Prop := ∀ (W : World) (dk : Array Tp), Rw W blk off dk → dk.size = size → ∀ i j : Nat, i < size → j < size →
  (callFunc sf (#[.int .i64 i, .int .i64 j] ++ sb)).run Tryd.prog W = .ok (.value (.tuple #[])) (putRowK encT 2 W blk off (swp dk i j))

theorem AllIn.swp {B : Nat} {d : Array Tp} {w : World} (h : AllIn B d w) {i j : Nat} (hi : i < d.size) (hj : j < d.size) : AllIn B (swp d i j) w := by
  intro t ht
  rw [size_swp] at ht
  rw [swp_get d hi hj]
  split
  · exact h _ hi
  · split
    · exact h _ hj
    · exact h _ ht
theorem AllIn.on {B : Nat} {d : Array Tp} {w w' : World} (h : AllIn B d w) (hb : Below B w w') : AllIn B d w' := fun i hi => (h i hi).on hb

theorem insOuter_go' (lt : Tp → Tp → Bool) (a b i : Nat) (d : Array Tp) (h : i < b) : insOuter lt a b i d = insOuter lt a b (i + 1) (insInner lt a i d) := by
  rw [insOuter, if_pos h]
theorem insOuter_stop' (lt : Tp → Tp → Bool) (a b i : Nat) (d : Array Tp) (h : ¬ i < b) : insOuter lt a b i d = d := by
  rw [insOuter, if_neg h]
theorem insInner_go' (lt : Tp → Tp → Bool) (a j : Nat) (d : Array Tp) (h : a < j) (hl : lt d[j]! d[j - 1]! = true) : insInner lt a j d = insInner lt a (j - 1) (swp d j (j - 1)) := by
  obtain ⟨j, rfl⟩ : ∃ k, j = k + 1 := ⟨j - 1, by omega⟩
  rw [insInner, if_pos (by simp only [Nat.add_sub_cancel] at hl; simp [hl]; omega)]; rfl
theorem insInner_stop' (lt : Tp → Tp → Bool) (a j : Nat) (d : Array Tp) (h : j ≤ a ∨ lt d[j]! d[j - 1]! = false) : insInner lt a j d = d := by
  cases j with
  | zero => rw [insInner]
  | succ j =>
    rw [insInner, if_neg]
    rcases h with h | h
    · simp; intro h'; omega
    · simp only [Nat.add_sub_cancel] at h; simp [h]

set_option maxHeartbeats 2000000 in
set_option maxRecDepth 100000 in
theorem insertion_any (sf : Nat) (sb : Array Value) (blk off c B a b : Nat) (d : Array Tp) (w : World) (hSw : SwOk sf sb blk off d.size) (hH : Rw w blk off d) (hA : AllIn B d w) (hB : B ≤ blk) (hblk : blk < w.heap.size) (hab : a ≤ b) (hb : b ≤ d.size) (hsz : d.size < 4611686018427387904) :
    Calls Tryd.prog 75 #[.agg #[.func (.func 44) #[.slice (some ⟨blk, off, none⟩) d.size c] #[], .func (.func sf) #[] sb], .int .i64 a, .int .i64 b] w fun e w' =>
      e = .returned (.tuple #[]) ∧ Kp blk w w' ∧ Rw w' blk off (insertionSort ltT d a b) := by
  have hB1 := Lib.hid (show Below w.heap.size w (w.alloc (.cells #[.func (.func 44) #[.slice (some ⟨blk, off, none⟩) d.size c] #[], .func (.func sf) #[] sb] 80)) from (Below.refl _ _).alloc (Nat.le_refl _) _)
  have HH := Lib.hid (hH.below hB1.out hblk)
  have HA := Lib.hid (hA.on (hB1.out.mono (by omega)))
  clear hH hA
  have HSW := Lib.hid hSw
  clear hSw
  go_enter Tryd.func75, Tryd.ntmps75
  go_wp2
  generalize hW0 : w.alloc (.cells #[.func (.func 44) #[.slice (some ⟨blk, off, none⟩) d.size c] #[], .func (.func sf) #[] sb] 80) = w0 at *
  have hs0 : w0.heap.size = w.heap.size + 1 := by rw [← hW0]; simp
  have k0 : w0.cell? ⟨w.heap.size, 0, none⟩ = some (.func (.func 44) #[.slice (some ⟨blk, off, none⟩) d.size c] #[]) := by rw [← hW0]; simp
  have k1 : w0.cell? ⟨w.heap.size, 1, none⟩ = some (.func (.func sf) #[] sb) := by rw [← hW0]; simp
  have HW := Lib.hid hW0
  have HS := Lib.hid hs0
  clear hW0
  have hz0 : w.heap.size < w0.heap.size := by omega
  have hzb : blk < w0.heap.size := by omega
  have hzB : B ≤ w0.heap.size := by omega
  clear hs0
  go_loopw [6] (fun vi wr => ∃ (i : Nat) (dk : Array Tp), vi = .int .i64 i ∧ a < i ∧ i ≤ b + 1 ∧ dk.size = d.size ∧ Rw wr blk off dk ∧ AllIn B dk wr ∧ Kp blk w0 wr ∧
      insOuter ltT a b i dk = insOuter ltT a b (a + 1) d) (fun vi _ => b + 1 - (intOf vi).toNat)
  case atStart => exact ⟨a + 1, d, by go_num, by omega, by omega, rfl, HH.out, HA.out, Kp.refl _ _, rfl⟩
  case round =>
    obtain ⟨i, dk, rfl, hai, hib, hsk, hR, hI, hK, hO⟩ := hrel
    have HO := Lib.hid hO
    have HR := Lib.hid hR
    have HI := Lib.hid hI
    have HK := Lib.hid hK
    have HSK := Lib.hid hsk
    clear hO hR hI hK hsk
    by_cases hlt : i < b
    · go_wp2_with fail
      obtain ⟨wo, rfl⟩ : ∃ wo : World, wo = wr := ⟨_, rfl⟩
      go_loopw [7] (fun vj wr2 => ∃ (j : Nat) (dj : Array Tp), vj = .int .i64 j ∧ a ≤ j ∧ j ≤ i ∧ dj.size = d.size ∧ Rw wr2 blk off dj ∧ AllIn B dj wr2 ∧ Kp blk w0 wr2 ∧
          insInner ltT a j dj = insInner ltT a i dk) (fun vj _ => (intOf vj).toNat)
      case atStart => exact ⟨i, dk, rfl, by omega, Nat.le_refl _, HSK.out, HR.out, HI.out, HK.out, rfl⟩
      case round =>
        obtain ⟨j, dj, rfl, haj, hji, hsj, hR2, hI2, hK2, hO2⟩ := hrel
        have HO2 := Lib.hid hO2
        have HR2 := Lib.hid hR2
        have HI2 := Lib.hid hI2
        have HK2 := Lib.hid hK2
        have HSJ := Lib.hid hsj
        have hsj1 : dj.size ≤ d.size := by omega
        have hsj2 : d.size ≤ dj.size := by omega
        clear hO2 hR2 hI2 hK2 hsj
        have q0 : wr.cell? ⟨w.heap.size, 0, none⟩ = some (.func (.func 44) #[.slice (some ⟨blk, off, none⟩) d.size c] #[]) := by rw [HK2.out.cell (p := ⟨w.heap.size, 0, none⟩) hz0 (by simp; omega)]; exact k0
        have q1 : wr.cell? ⟨w.heap.size, 1, none⟩ = some (.func (.func sf) #[] sb) := by rw [HK2.out.cell (p := ⟨w.heap.size, 1, none⟩) hz0 (by simp; omega)]; exact k1
        have hzr := HK2.out.size
        by_cases hja : a < j
        · have ej : (j : Int) - 1 = ((j - 1 : Nat) : Int) := by omega
          have EJ := Lib.hid ej
          clear ej
          cases hlv : ltT dj[j]! dj[j - 1]! with
          | true =>
            have hlv2 := Lib.hid (show decide (cmpT dj[j]! dj[j - 1]! < 0) = true from hlv)
            clear hlv
            go_wp2_with fail
            rw [EJ.out]
            refine (ahead_any blk off d.size c j (j - 1) dj[j]! dj[j - 1]! _ (by omega) (by omega) (by unfold maxLen; omega) (HR2.out.at (by omega)) (HR2.out.at (by omega)) ((HI2.out j (by omega)).tin (by omega)) ((HI2.out (j - 1) (by omega)).tin (by omega))).mono ?_
            rintro e w1 ⟨rfl, hb1⟩
            rw [hlv2.out]
            have hz1 := hb1.size
            have q2 : w1.cell? ⟨w.heap.size, 1, none⟩ = some (.func (.func sf) #[] sb) := by rw [hb1.cell (p := ⟨w.heap.size, 1, none⟩) (by simp; omega)]; exact q1
            go_wp2_with fail
            have hs := HSW.out w1 dj (HR2.out.below hb1 (by omega)) HSJ.out j (j - 1) (by omega) (by omega)
            rw [← EJ.out] at hs
            rw [hs, Oper.upon_value]
            go_wp2_with fail
            have kk : Kp blk wr (putRowK encT 2 w1 blk off (swp dj j (j - 1))) := (Kp.of_below hb1).trans (Kp.put w1 off _)
            refine ⟨⟨j - 1, swp dj j (j - 1), by rw [EJ.out], by omega, by omega, by rw [size_swp]; exact HSJ.out, ?_, ?_, HK2.out.trans kk, ?_⟩, by simp [intOf]; omega⟩
            · exact holdsK_putRowK encT 2 w1 blk off dj _ (HR2.out.below hb1 (by omega)) (by rw [size_swp])
            · exact (HI2.out.swp (by omega) (by omega)).on (kk.below hB (by omega))
            · rw [← HO2.out, insInner_go' ltT a j dj hja (by exact hlv2.out)]
          | false =>
            have hlv2 := Lib.hid (show decide (cmpT dj[j]! dj[j - 1]! < 0) = false from hlv)
            clear hlv
            go_wp2_with fail
            rw [EJ.out]
            refine (ahead_any blk off d.size c j (j - 1) dj[j]! dj[j - 1]! _ (by omega) (by omega) (by unfold maxLen; omega) (HR2.out.at (by omega)) (HR2.out.at (by omega)) ((HI2.out j (by omega)).tin (by omega)) ((HI2.out (j - 1) (by omega)).tin (by omega))).mono ?_
            rintro e w1 ⟨rfl, hb1⟩
            rw [hlv2.out]
            go_wp2_with fail
            have kk : Kp blk wr w1 := Kp.of_below hb1
            refine ⟨⟨i + 1, dj, by go_num, by omega, by omega, HSJ.out, HR2.out.below hb1 (by omega), HI2.out.on (kk.below hB (by omega)), HK2.out.trans kk, ?_⟩, by simp [intOf]; omega⟩
            rw [← HO.out, insOuter_go' ltT a b i dk hlt, ← HO2.out, insInner_stop' ltT a j dj (.inr (by exact hlv2.out))]
        · go_wp2_with fail
          refine ⟨⟨i + 1, dj, by go_num, by omega, by omega, HSJ.out, HR2.out, HI2.out, HK2.out, ?_⟩, by simp [intOf]; omega⟩
          rw [← HO.out, insOuter_go' ltT a b i dk hlt, ← HO2.out, insInner_stop' ltT a j dj (.inl (by omega))]
    · go_wp2_with fail
      go_end0
      refine ⟨rfl, (Kp.of_below hB1.out).trans HK.out, ?_⟩
      have e : insertionSort ltT d a b = dk := by unfold Sort.insertionSort; rw [← HO.out, insOuter_stop' ltT a b i dk hlt]
      rw [e]; exact HR.out
end Go.Proofs.YtdoadclblloddaaDoor
