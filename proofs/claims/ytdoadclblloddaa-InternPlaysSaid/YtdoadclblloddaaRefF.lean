/-
  Contract: the reference's Find.
-/
import Derived.Test.YtdoadclblloddaaBackW
namespace Go.Proofs.Ytdoadclblloddaa
open Go.RowKit Go.Maps Go.WideMaps

theorem posOf_first {l : List Vl} {v : Vl} {k : Nat} (hk : k < l.length) (e : l[k] = v) (h : ∀ j (hj : j < l.length), j < k → l[j] ≠ v) : posOf l v = k := by
  have hm : v ∈ l := e ▸ List.getElem_mem hk
  have h1 := posOf_lt hm
  have h2 := posOf_get hm
  rcases Nat.lt_trichotomy (posOf l v) k with h3 | h3 | h3
  · exact absurd h2 (h _ h1 h3)
  · exact h3
  · exfalso
    have := List.not_of_lt_findIdx (xs := l) (p := fun u => decide (u = v)) h3
    simp [e] at this
def findI (l : List Vl) (v : Vl) : Int := if v ∈ l then posOf l v else -1

set_option maxHeartbeats 1000000 in
set_option maxRecDepth 100000 in
theorem reffind_any (q : Option Addr) (l : List Vl) (c : Nat) (s : ByteArray) (n : Int) (w : World) (hv : Vals w w.heap.size q l) (hm : l.length ≤ maxLen) :
    Calls Try.prog 11 #[.slice q l.length c, .agg #[.string s, .int .i64 n]] w fun e w' => e = .returned (.int .i64 (findI l (s, n))) ∧ Below w.heap.size w w' := by
  unfold maxLen at hm
  have HV := Lib.hid hv
  have HB0 := Lib.hid (alloc_below w (.cells #[.string s, .int .i64 n] 31))
  have hx0 : ∀ w', Below (w.heap.size + 1) (w.alloc (.cells #[.string s, .int .i64 n] 31)) w' → w'.cell? ⟨w.heap.size, 0, none⟩ = some (.string s) ∧ w'.cell? ⟨w.heap.size, 1, none⟩ = some (.int .i64 n) := fun w' hb => ⟨by rw [hb.cell (p := ⟨w.heap.size, 0, none⟩) (by simp)]; simp [go_sem], by rw [hb.cell (p := ⟨w.heap.size, 1, none⟩) (by simp)]; simp [go_sem]⟩
  have HX := Lib.hid hx0
  have hz : (w.alloc (.cells #[.string s, .int .i64 n] 31)).heap.size = w.heap.size + 1 := by simp
  clear hv hx0
  go_enter Try.func11, Try.ntmps11
  go_wp2_with fail
  generalize hwa : w.alloc (.cells #[.string s, .int .i64 n] 31) = wa at *
  clear hwa
  go_loopw [5] (fun i wr => ∃ k : Nat, k ≤ l.length ∧ i = .int .i64 k ∧ Hid (∀ j (hj : j < l.length), j < k → l[j] ≠ (s, n)) ∧ Below (w.heap.size + 1) wa wr) (fun i _ => l.length - (intOf i).toNat)
  case atStart => exact ⟨0, Nat.zero_le _, rfl, Lib.hid (fun j _ h => by omega), Below.refl _ _⟩
  case round =>
    obtain ⟨k, hk, rfl, hno, hb⟩ := hrel
    have HB := Lib.hid hb
    have HBw := Lib.hid (HB0.out.trans (hb.mono (Nat.le_succ _)))
    have hszr := hb.size
    clear hb
    by_cases hlt : k < l.length
    · obtain ⟨b, off, rfl, hbl, x0, x1⟩ := (HV.out.below HBw.out (Nat.le_refl _)).at k hlt
      obtain ⟨z0, z1⟩ := HX.out _ HB.out
      have hbr : b < wr.heap.size := by omega
      have hmr : w.heap.size < wr.heap.size := by omega
      have heq : ∀ wx, _ := fun wx => eqB l[k].1 s l[k].2 n wx
      by_cases he : l[k] = (s, n)
      · have HF := Lib.hid (show findI l (s, n) = k by
          have := posOf_first hlt he hno.out
          unfold findI; rw [if_pos (he ▸ List.getElem_mem hlt), this])
        have ht : (l[k].1.toList == s.toList && l[k].2 == n) = true := by rw [he]; simp
        rw [ht] at heq
        clear hno he ht
        generalize l[k].1 = s1 at *
        generalize l[k].2 = n1 at *
        go_wp2_with fail
        go_quiet (fail)
        all_goals
          go_wp2_with fail
          go_ret
          exact ⟨by rw [HF.out]; rfl, below_drewN HBw.out _⟩
      · have hno' := Lib.hid (show ∀ j (hj : j < l.length), j < k + 1 → l[j] ≠ (s, n) from fun j hj h => by
          rcases Nat.lt_or_ge j k with h3 | h3
          · exact hno.out j hj h3
          · obtain rfl : j = k := by omega
            exact he)
        have ht : (l[k].1.toList == s.toList && l[k].2 == n) = false := by
          rw [Bool.and_eq_false_iff]
          by_cases h2 : l[k].2 = n
          · left
            rw [beq_eq_false_iff_ne]; intro h3
            rw [ByteArray.toList_eq, ByteArray.toList_eq] at h3
            exact he (Prod.ext (ByteArray.ext (Array.toList_inj.1 h3)) h2)
          · right; rw [beq_eq_false_iff_ne]; exact h2
        rw [ht] at heq
        clear hno he ht
        generalize l[k].1 = s1 at *
        generalize l[k].2 = n1 at *
        go_wp2_with fail
        go_quiet (fail)
        all_goals
          go_wp2_with fail
          go_roundw
          case rel => exact ⟨k + 1, by omega, by go_num, hno', below_drewN HB.out _⟩
          case measure => simp [intOf]; omega
    · have HF := Lib.hid (show findI l (s, n) = -1 by
        unfold findI; rw [if_neg]; intro hmem
        obtain ⟨j, hj, e⟩ := List.mem_iff_getElem.1 hmem
        exact hno.out j hj (by omega) e)
      clear hno
      go_wp2_with fail
      go_ret
      exact ⟨by rw [HF.out]; rfl, HBw.out⟩
end Go.Proofs.Ytdoadclblloddaa
