/-
  Contracts: the reference's Put, In; the law's names.
-/
import Derived.Test.YtbkdpdklpmcdgaaPvr
set_option linter.unusedVariables false
set_option linter.unusedSimpArgs false
namespace Go.Proofs.Ytbkdpdklpmcdgaa
open Go.Maps Go.ChangeMaps Go.WideMaps Go.RowKit

theorem bs_eq {a b : ByteArray} : (a.toList == b.toList) = true ↔ a = b := by
  rw [beq_iff_eq, ByteArray.toList_eq, ByteArray.toList_eq]
  constructor
  · intro h; exact ByteArray.ext (Array.toList_inj.1 h)
  · intro h; rw [h]
theorem bs_ne {a b : ByteArray} (h : a ≠ b) : (a.toList == b.toList) = false := by
  cases hq : a.toList == b.toList
  · rfl
  · exact absurd (bs_eq.1 hq) h
theorem has_none {xs : List ByteArray} {s : ByteArray} (h : ∀ x ∈ xs, x ≠ s) : hasS xs s = false := hasS_not.2 fun hm => h s hm rfl
theorem ne_more {xs : List ByteArray} {s : ByteArray} {j : Nat} (hlt : j < xs.length) (h : ∀ x ∈ xs.take j, x ≠ s) (hn : xs[j] ≠ s) : ∀ x ∈ xs.take (j + 1), x ≠ s := fun x hx => by
  rw [List.take_succ_eq_append_getElem hlt] at hx
  rcases List.mem_append.1 hx with hx | hx
  · exact h x hx
  · rw [List.mem_singleton.1 hx]; exact hn

set_option maxHeartbeats 8000000 in
set_option maxRecDepth 100000 in
theorem refput_any (base : Nat) (v : Value) (xs : List ByteArray) (s : ByteArray) (w : World) (ho : w.ownsRow base 9 1 v xs.length (flatE encS xs)) (hb : base ≤ w.heap.size) (hl : (xs.length + 1) * 16 ≤ 140737488355328) :
    Calls Try.prog 25 #[v, .string s] w fun e w' => ∃ v', e = .returned v' ∧ w'.ownsRow base 9 1 v' (addS xs s).length (flatE encS (addS xs s)) ∧ Below base w w' ∧ (∀ k, k < w.heap.size → v.ownBlock ≠ some k → w'.heap[k]? = w.heap[k]? ∧ v'.ownBlock ≠ some k) := by
  obtain ⟨i0, hii, hz0, hz1, hzb⟩ := info_parts infoStr
  obtain ⟨q, c, rfl, hrd, _⟩ := grw_form ES (.inr ho) hb
  have HOW := Lib.hid ho
  have HRD := Lib.hid hrd
  have HL1 := Lib.hid (show xs.length + 1 ≤ maxLen by unfold maxLen; omega)
  have HL2 := Lib.hid hl
  have hlx : xs.length ≤ 9223372036854775806 := by omega
  clear ho hrd hl
  go_enter Try.func25, Try.ntmps25
  go_wp2_with fail
  go_loopw [5] (fun i wr => ∃ j : Nat, j ≤ xs.length ∧ i = .int .i64 j ∧ wr = w ∧ Hid (∀ x ∈ xs.take j, x ≠ s)) (fun i _ => xs.length - (intOf i).toNat)
  case atStart => exact ⟨0, Nat.zero_le _, rfl, rfl, Lib.hid (fun x hx => by simp at hx)⟩
  case round =>
    obtain ⟨j, hj, rfl, rfl, HN⟩ := hrel
    by_cases hlt : j < xs.length
    · obtain ⟨b, o, rfl, hbb, x0⟩ := rdS_at HRD.out j hlt
      have hj0 : (0 : Int) ≤ (j : Int) := by omega
      have hj1 : (j : Int) < (xs.length : Int) := by omega
      by_cases heq : xs[j] = s
      · have hq := bs_eq.2 heq
        have HC := Lib.hid (show addS xs s = xs from if_pos (hasS_iff.2 (heq ▸ List.getElem_mem hlt)))
        clear heq
        go_wp2_with fail
        go_ret
        exact ⟨_, rfl, by rw [HC.out]; exact HOW.out, Below.refl _ _, fun k hk hne => ⟨rfl, hne⟩⟩
      · have hq := bs_ne heq
        have HN2 := Lib.hid (ne_more hlt HN.out heq)
        clear heq
        go_wp2_with fail
        go_roundw
        case rel => exact ⟨j + 1, by omega, by go_num, by first | rfl | trivial, HN2⟩
        case measure => simp [intOf]; omega
    · have HC := Lib.hid (show addS xs s = xs ++ [s] by
        unfold addS
        rw [if_neg]
        rw [has_none (by rw [← List.take_of_length_le (show xs.length ≤ j by omega)]; exact HN.out)]
        decide)
      go_wp2_with (at_builtin; refine wpList_append_lies _ rfl _ _ 38 rfl base 9 i0 (.string ⟨#[]⟩) 1 16 underSs hii hz0 hz1 hzb rfl (by decide) _ _ _ rfl (own_below HOW.out (below1 _ _)) ⟨wr.heap.size, 0, none⟩ 1 1 [.string s] rfl rfl (news_alloc _ _ _) (ES.one s) (by decide) HL1.out HL2.out (Nat.le_trans hb (below1 wr _).size) _ rfl ?_; intro g cap w7 ho7 hg7 hat7 _; have HG7 := Lib.hid hg7; have HAT7 := Lib.hid hat7; have HO7 := Lib.hid ho7; clear hg7 hat7 ho7)
      go_ret
      have hb1 := (below1 wr (.cells #[.string s] 9)).mono hb
      refine ⟨_, rfl, by rw [HC.out, List.length_append, flatE_snoc]; exact HO7.out, hb1.grown HG7.out (Nat.le_trans hb hb1.size) (fun k hk => (HOW.out.lt k hk).1), fun k hk hne => ⟨?_, fun e => ?_⟩⟩
      · exact (HG7.out.block k (by simp; omega) (fun e => hne e.symm)).trans ((below1 wr _).block k hk)
      · simp [Value.ownBlock] at e
        rcases HAT7.out with h | h
        · exact hne (Eq.trans h (congrArg some e))
        · simp at h; omega

set_option maxHeartbeats 8000000 in
set_option maxRecDepth 100000 in
theorem in_any (q : Option Addr) (xs : List ByteArray) (c : Nat) (s : ByteArray) (w : World) (hr : Rd encS 1 w w.heap.size q xs) (hl : xs.length ≤ 9223372036854775807) :
    Calls Try.prog 18 #[.slice q xs.length c, .string s] w fun e w' => e = .returned (.bool (hasS xs s)) ∧ w' = w := by
  have HRD := Lib.hid hr
  clear hr
  go_enter Try.func18, Try.ntmps18
  go_wp2_with fail
  go_loopw [5] (fun i wr => ∃ j : Nat, j ≤ xs.length ∧ i = .int .i64 j ∧ wr = w ∧ Hid (∀ x ∈ xs.take j, x ≠ s)) (fun i _ => xs.length - (intOf i).toNat)
  case atStart => exact ⟨0, Nat.zero_le _, rfl, rfl, Lib.hid (fun x hx => by simp at hx)⟩
  case round =>
    obtain ⟨j, hj, rfl, rfl, HN⟩ := hrel
    by_cases hlt : j < xs.length
    · obtain ⟨b, o, rfl, hbb, x0⟩ := rdS_at HRD.out j hlt
      have hj0 : (0 : Int) ≤ (j : Int) := by omega
      have hj1 : (j : Int) < (xs.length : Int) := by omega
      by_cases heq : xs[j] = s
      · have hq := bs_eq.2 heq
        have HC := Lib.hid (show hasS xs s = true from hasS_iff.2 (heq ▸ List.getElem_mem hlt))
        clear heq
        go_wp2_with fail
        go_ret
        exact ⟨by rw [HC.out]; rfl, by first | rfl | trivial⟩
      · have hq := bs_ne heq
        have HN2 := Lib.hid (ne_more hlt HN.out heq)
        clear heq
        go_wp2_with fail
        go_roundw
        case rel => exact ⟨j + 1, by omega, by go_num, by first | rfl | trivial, HN2⟩
        case measure => simp [intOf]; omega
    · have HC := Lib.hid (has_none (xs := xs) (s := s) (by rw [← List.take_of_length_le (show xs.length ≤ j by omega)]; exact HN.out))
      go_wp2_with fail
      go_ret
      exact ⟨by rw [HC.out]; rfl, by first | rfl | trivial⟩

def eqS (a b : List ByteArray) : Bool := a.map (·.data.toList) == b.map (·.data.toList)
theorem map_dl_inj : ∀ {a b : List ByteArray}, a.map (·.data.toList) = b.map (·.data.toList) → a = b
  | [], [], _ => rfl
  | [], y :: b, h => by cases h
  | x :: a, [], h => by cases h
  | x :: a, y :: b, h => by
    rw [List.map_cons, List.map_cons] at h
    injection h with h1 h2
    rw [show x = y from ByteArray.ext (Array.toList_inj.1 h1), map_dl_inj h2]
theorem eqS_iff {a b : List ByteArray} : eqS a b = true ↔ a = b := by
  unfold eqS
  rw [beq_iff_eq]
  exact ⟨map_dl_inj, fun h => by rw [h]⟩
theorem eqS_ne {a b : List ByteArray} (h : a ≠ b) : eqS a b = false := by
  cases hq : eqS a b
  · rfl
  · exact absurd (eqS_iff.1 hq) h

set_option maxHeartbeats 8000000 in
set_option maxRecDepth 100000 in
theorem names_any (q : Option Addr) (a : List ByteArray) (c : Nat) (q2 : Option Addr) (b : List ByteArray) (c2 : Nat) (w : World) (ha : Rd encS 1 w w.heap.size q a) (hb : Rd encS 1 w w.heap.size q2 b) (hl : a.length ≤ 9223372036854775807) (hl2 : b.length ≤ 9223372036854775807) :
    Calls Try.prog 13 #[.slice q a.length c, .slice q2 b.length c2] w fun e w' => e = .returned (.bool (eqS a b)) ∧ Below w.heap.size w w' := by
  have HA := Lib.hid ha
  have HB := Lib.hid hb
  clear ha hb
  by_cases hn : a.length = b.length
  · have hn1 : ((a.length : Int) != (b.length : Int)) = false := by rw [hn]; simp
    go_enter Try.func13, Try.ntmps13
    go_wp2_with fail
    go_loopw [5] (fun i wr => ∃ j : Nat, j ≤ a.length ∧ i = .int .i64 j ∧ Below w.heap.size w wr ∧ Hid (a.take j = b.take j)) (fun i _ => a.length - (intOf i).toNat)
    case atStart => exact ⟨0, Nat.zero_le _, rfl, Below.refl _ _, Lib.hid rfl⟩
    case round =>
      obtain ⟨j, hj, rfl, hbw, HN⟩ := hrel
      have HW := Lib.hid hbw
      clear hbw
      by_cases hlt : j < a.length
      · have hlt2 : j < b.length := by omega
        obtain ⟨b1, o1, rfl, hbb, x0⟩ := rdS_at (HA.out.below HW.out (Nat.le_refl _)) j hlt
        obtain ⟨b2, o2, rfl, hbb2, y0⟩ := rdS_at (HB.out.below HW.out (Nat.le_refl _)) j hlt2
        have hj0 : (0 : Int) ≤ (j : Int) := by omega
        have hj1 : (j : Int) < (a.length : Int) := by omega
        have hj2 : (j : Int) < (b.length : Int) := by omega
        by_cases heq : a[j] = b[j]
        · have hq := bs_eq.2 heq
          have HN2 := Lib.hid (show a.take (j + 1) = b.take (j + 1) by rw [List.take_succ_eq_append_getElem hlt, List.take_succ_eq_append_getElem hlt2, HN.out, heq])
          clear heq
          go_wp2_with fail
          go_quiet (fail)
          go_wp2_with fail
          go_roundw
          case rel => exact ⟨j + 1, by omega, by go_num, below_drewN' HW.out _, HN2⟩
          case measure => simp [intOf]; omega
        · have hq := bs_ne heq
          have HC := Lib.hid (show eqS a b = false from eqS_ne fun e => heq (by subst e; rfl))
          clear heq
          go_wp2_with fail
          go_quiet (fail)
          go_wp2_with fail
          go_ret
          exact ⟨by rw [HC.out]; rfl, below_drewN' HW.out _⟩
      · have HC := Lib.hid (show eqS a b = true from eqS_iff.2 (by have := HN.out; rwa [List.take_of_length_le (by omega), List.take_of_length_le (by omega)] at this))
        go_wp2_with fail
        go_ret
        exact ⟨by rw [HC.out]; rfl, HW.out⟩
  · have hn1 : ((a.length : Int) == (b.length : Int)) = false := beq_eq_false_iff_ne.2 (by omega)
    have HC := Lib.hid (show eqS a b = false from eqS_ne fun e => hn (by rw [e]))
    go_enter Try.func13, Try.ntmps13
    go_wp2_with fail
    go_ret
    exact ⟨by rw [HC.out]; rfl, Below.refl _ _⟩
end Go.Proofs.Ytbkdpdklpmcdgaa
