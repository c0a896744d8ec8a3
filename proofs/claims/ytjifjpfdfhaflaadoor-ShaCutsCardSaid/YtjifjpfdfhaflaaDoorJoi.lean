/-
  Contract: the reference's Joined.
-/
import Derived.Test.YtjifjpfdfhaflaaDoorApp
set_option linter.unusedVariables false
set_option linter.unusedSimpArgs false
namespace Go.Proofs.YtjifjpfdfhaflaaDoor
open Go.RowKit

set_option maxRecDepth 100000 in
set_option maxHeartbeats 1000000 in
theorem joined_any (p : Option Addr) (ls : List SlA) (c : Nat) (w : World) (hL : Lsa w p ls) (hn : ls.length ≤ 9223372036854775807) (hz : (joinL ls).length ≤ 10000000000) :
    Calls Tryd.prog 15 #[.slice p ls.length c] w fun e w' => ∃ q d, e = .returned (.slice q (joinL ls).length d) ∧ (joinL ls).length ≤ d ∧ Rd0 w' q (joinL ls) ∧ Below w.heap.size w w' := by
  have HL := Lib.hid hL
  have HZ := Lib.hid hz
  clear hL hz
  go_enter Tryd.func15, Tryd.ntmps15
  go_wp2
  go_loopw [3, 4] (fun v i wr => ∃ k : Nat, k ≤ ls.length ∧ i = .int .i64 k ∧ Acc wr w.heap.size v (joinL (ls.take k)) ∧ Below w.heap.size w wr) (fun _ i _ => ls.length - (intOf i).toNat)
  case atStart => exact ⟨0, by omega, rfl, acc_nil, Below.refl _ _⟩
  case round =>
    obtain ⟨k, hk, rfl, hA, hb⟩ := hrel
    have w3 : (0 : Int) ≤ (k : Int) := by omega
    by_cases hlt : k < ls.length
    · have w4 : (k : Int) < (ls.length : Int) := by omega
      obtain ⟨b, off, rfl, hbl, hc⟩ : ∃ b off, p = some ⟨b, off, none⟩ ∧ b < w.heap.size ∧ ∀ i (h : i < ls.length), w.cell? ⟨b, off + i, none⟩ = some (.slice ls[i].q ls[i].m.length ls[i].c) := by
        rcases HL.out.at_ with h | h
        · subst h; simp at hlt
        · exact h
      have x0 : wr.cell? ⟨b, off + k, none⟩ = some (.slice ls[k].q ls[k].m.length ls[k].c) := by rw [hb.cell (p := ⟨b, off + k, none⟩) hbl]; exact hc k hlt
      have HEL := Lib.hid ((HL.out.el ls[k] (List.getElem_mem hlt)).1)
      have HJ := Lib.hid (joinL_take ls k hlt)
      have HJ2 := Lib.hid (Nat.le_trans (joinL_step ls k hlt) HZ.out)
      have HA := Lib.hid hA
      have HB := Lib.hid hb
      clear hc hA hb
      generalize ls[k] = x at *
      go_wp2_with (refine wpList_app8 rfl _ _ rfl rfl w.heap.size _ _ rfl HA.out x.q x.m _ _ rfl rfl ((HEL.out.below HB.out)) (by have := HJ2.out; omega) HB.out.size ?_; intro v' w5 hA5 hb5; have HA5 := Lib.hid hA5; have HB5 := Lib.hid (HB.out.trans hb5); clear hA5 hb5)
      go_roundw
      case rel => exact ⟨k + 1, by omega, by go_num, by rw [HJ.out]; exact HA5.out, HB5.out⟩
      case measure => simp [intOf]; omega
    · obtain rfl : k = ls.length := by omega
      rw [List.take_of_length_le (Nat.le_refl _)] at hA
      obtain ⟨q, d, rfl, hd, hR⟩ := hA.rd
      have HR := Lib.hid hR
      have HB := Lib.hid hb
      clear hA hR hb hlt hk
      go_wp2_with fail
      go_ret
      exact ⟨q, d, rfl, hd, HR.out, HB.out⟩
end Go.Proofs.YtjifjpfdfhaflaaDoor
