/-
  Contracts: plan.onwards' closure that tells whether a term is bound; plan.count with it.
-/
import Derived.Test.YtbkdpdklpmcdgaaPcw
set_option linter.unusedVariables false
set_option linter.unusedSimpArgs false
namespace Go.Proofs.Ytbkdpdklpmcdgaa
open Go.Maps Go.ChangeMaps Go.WideMaps Go.RowKit

theorem knownS_nil {M : List ByteArray} {v s : ByteArray} {n : Int} (h : v.size = 0) : knownS M ⟨v, s, n⟩ = true := by unfold knownS; simp [h]
theorem knownS_has {M : List ByteArray} {v s : ByteArray} {n : Int} (h : ¬ v.size = 0) : knownS M ⟨v, s, n⟩ = hasS M v := by unfold knownS; simp [h]
set_option maxHeartbeats 8000000 in
set_option maxRecDepth 100000 in
theorem bnd_any (t : Tm) (kb mb : Nat) (M : List ByteArray) (w : World) (hc : w.cell? ⟨kb, 0, none⟩ = some (.map (some mb))) (hm : MapS w mb unit M) (hz : ∀ v ∈ M, v.size ≤ maxLen) (ht : t.v.size ≤ maxLen) :
    Calls Try.prog 26 #[.agg #[.string t.v, .string t.s, .int .i64 t.n], .pointer (some ⟨kb, 0, none⟩)] w fun e w' => e = .returned (.bool (knownS M t)) ∧ Below w.heap.size w w' := by
  obtain ⟨v, s, n⟩ := t
  simp only at ht ⊢
  have hkb := lt_of_cell hc
  have HB := Lib.hid (below2 w)
  have hm1 := hm.on (below1 w (.cells #[.string v, .string s, .int .i64 n] 52))
  have hc1 := ((below1 w (.cells #[.string v, .string s, .int .i64 n] 52)).cell (p := ⟨kb, 0, none⟩) hkb).trans hc
  have hlk := lookS keyedS skey (u := unit) Try.underlying54 (zeroU _) hm1 hz v ht
  unfold unit at hlk
  by_cases hv : v.size = 0
  · have HK := Lib.hid (knownS_nil (M := M) (s := s) (n := n) hv)
    obtain rfl : v = ⟨#[]⟩ := by
      obtain ⟨⟨l⟩⟩ := v
      cases l with
      | nil => rfl
      | cons a r => cases hv
    go_enter Try.func26, Try.ntmps26
    go_wp2_with fail
    go_ret
    exact ⟨by rw [HK.out]; first | done | rfl, HB.out _ _⟩
  · have HK := Lib.hid (knownS_has (M := M) (s := s) (n := n) hv)
    have hvn : ¬ v.toList = [] := fun e => by
      rw [ByteArray.toList_eq] at e
      exact hv (by have := congrArg List.length e; simpa using this)
    have hvn2 : v.toList.isEmpty = false := by
      cases hl : v.toList with
      | nil => exact absurd hl hvn
      | cons a r => rfl
    cases hh : hasS M v with
    | true =>
      rw [hh] at hlk HK
      go_enter Try.func26, Try.ntmps26
      go_wp2_with fail
      go_ret
      exact ⟨by rw [HK.out]; first | done | rfl, HB.out _ _⟩
    | false =>
      rw [hh] at hlk HK
      go_enter Try.func26, Try.ntmps26
      go_wp2_with fail
      go_ret
      exact ⟨by rw [HK.out]; first | done | rfl, HB.out _ _⟩

set_option maxHeartbeats 8000000 in
set_option maxRecDepth 100000 in
theorem count_any (q : Option Addr) (args : List Tm) (c : Nat) (kb mb : Nat) (M : List ByteArray) (w : World) (ha : Tms w w.heap.size q args) (hl : args.length ≤ 9223372036854775806) (hza : ∀ t ∈ args, t.v.size ≤ maxLen) (hc : w.cell? ⟨kb, 0, none⟩ = some (.map (some mb))) (hm : MapS w mb unit M) (hz : ∀ v ∈ M, v.size ≤ maxLen) :
    Calls Try.prog 28 #[.slice q args.length c, .func (.func 26) #[] #[.pointer (some ⟨kb, 0, none⟩)]] w fun e w' => e = .returned (.int .i64 (knownN M args)) ∧ Below w.heap.size w w' := by
  have HA := Lib.hid ha
  have hkb := lt_of_cell hc
  have HC := Lib.hid (fun (X : World) (hb : Below w.heap.size w X) (t : Tm) (ht : t ∈ args) => bnd_any t kb mb M X ((hb.cell (p := ⟨kb, 0, none⟩) hkb).trans hc) (hm.below hb hm.lt) hz (hza t ht))
  clear ha hc hm hz hza
  have hcp : ∀ j : Nat, knownN M (args.take j) ≤ j := fun j => Nat.le_trans (List.countP_le_length) (by rw [List.length_take]; omega)
  have HCP := Lib.hid hcp
  clear hcp
  go_enter Try.func28, Try.ntmps28
  go_wp2_with fail
  go_loopw [5, 10] (fun v i wr => ∃ j : Nat, j ≤ args.length ∧ i = .int .i64 j ∧ v = .int .i64 (knownN M (args.take j)) ∧ Hid (Below w.heap.size w wr)) (fun _ i _ => args.length - (intOf i).toNat)
  case atStart => exact ⟨0, Nat.zero_le _, rfl, rfl, Lib.hid (Below.refl _ _)⟩
  case round =>
    obtain ⟨j, hj, rfl, rfl, HW⟩ := hrel
    by_cases hlt : j < args.length
    · obtain ⟨b2, o2, rfl, hbb2, y0, y1, y2⟩ := rdM_at (HA.out.below HW.out (Nat.le_refl _)) j hlt
      have HK := Lib.hid (known_take M args j hlt)
      have HW1 := Lib.hid (HW.out.trans ((below1 wr (.cells #[.string args[j].v, .string args[j].s, .int .i64 args[j].n] 52)).mono HW.out.size))
      have HCT := Lib.hid (HC.out _ HW1.out args[j] (List.getElem_mem hlt))
      have hc1 := HCP.out j
      have hj0 : (0 : Int) ≤ (j : Int) := by omega
      have hj1 : (j : Int) < (args.length : Int) := by omega
      generalize knownN M (args.take j) = K at *
      generalize args[j] = t at *
      obtain ⟨v, s, n⟩ := t
      simp only at y0 y1 y2 HW1 HCT
      cases hks : knownS M ⟨v, s, n⟩ with
      | true =>
        rw [hks] at HK HCT
        have HP := Lib.hid (show knownN M (args.take (j + 1)) = K + 1 from HK.out)
        go_wp2_with (go_at_call 26; refine (HCT.out).mono ?_; rintro e w1 ⟨rfl, hb1⟩; have HW2 := Lib.hid (HW1.out.trans (hb1.mono HW1.out.size)); clear hb1)
        go_roundw
        case rel => exact ⟨j + 1, by omega, by go_num, by rw [HP.out]; go_num, HW2⟩
        case measure => simp [intOf]; omega
      | false =>
        rw [hks] at HK HCT
        have HP := Lib.hid (show knownN M (args.take (j + 1)) = K from HK.out)
        go_wp2_with (go_at_call 26; refine (HCT.out).mono ?_; rintro e w1 ⟨rfl, hb1⟩; have HW2 := Lib.hid (HW1.out.trans (hb1.mono HW1.out.size)); clear hb1)
        go_roundw
        case rel => exact ⟨j + 1, by omega, by go_num, by rw [HP.out], HW2⟩
        case measure => simp [intOf]; omega
    · have hke : args.take j = args := List.take_of_length_le (by omega)
      rw [hke]
      go_wp2_with fail
      go_ret
      exact ⟨rfl, HW.out⟩
end Go.Proofs.Ytbkdpdklpmcdgaa
