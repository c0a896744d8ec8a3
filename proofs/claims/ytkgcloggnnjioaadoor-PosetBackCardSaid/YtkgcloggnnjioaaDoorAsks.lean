/-
  Contracts: poset.labels, At, Above, Below.
-/
import Derived.Test.YtkgcloggnnjioaaDoorRight
namespace Go.Proofs.YtkgcloggnnjioaaDoor
open Go.RowKit Go.Shelf

def inB (ms : List Nat) (a : Int) : Bool := decide (0 ≤ a ∧ a < ms.length)
noncomputable def labelsB (ms : List Nat) (ns : List Int) : Bool := (ns.all fun a => inB ms a) && ordB ms
theorem among_val (n : Nat) (a : Int) (ms : List Nat) (h : ms.length = n) (w : World) : Calls Tryd.prog 30 #[.int .i64 n, .int .i64 a] w fun e w' => e = .returned (.bool (inB ms a)) ∧ w = w' :=
  (among_any n a w).mono fun e w' ⟨h1, h2⟩ => ⟨by rw [h1]; unfold inB; rw [h], h2.symm⟩

set_option maxHeartbeats 2000000 in
set_option maxRecDepth 100000 in
theorem labels_any (ms : List Nat) (p : Option Addr) (c : Nat) (ns : List Int) (bn cn : Nat) (w : World) (hz : ms.length ≤ maxLen) (hs : Small ms) (hp : Us w w.heap.size p ms) (hT : Tab w) (hg : 0 < w.heap.size)
    (hn : ns.length ≤ 5) (hc : ∀ i (h : i < ns.length), w.cell? ⟨bn, i, none⟩ = some (.int .i64 ns[i])) :
    Calls Tryd.prog 35 #[.slice p ms.length c, .slice (some ⟨bn, 0, none⟩) ns.length cn] w fun e W' => e = .returned (.bool (labelsB ms ns)) ∧ Below w.heap.size w W' := by
  have HR := Lib.hid (right_any ms p c w hz hs hp hT hg)
  have HC := Lib.hid hc
  have HNO := Lib.hid (show ∀ i (h : i < ns.length), inB ms ns[i] = false → labelsB ms ns = false from fun i h hf => by
    unfold labelsB
    rw [show ns.all (fun a => inB ms a) = false from by
      rw [Bool.eq_false_iff]; intro ht
      have := List.all_eq_true.1 ht _ (List.getElem_mem h)
      rw [hf] at this; cases this]
    rfl)
  have HYES := Lib.hid (show (∀ i (h : i < ns.length), inB ms ns[i] = true) → labelsB ms ns = ordB ms from fun h => by
    unfold labelsB
    rw [show ns.all (fun a => inB ms a) = true from by
      rw [List.all_eq_true]; intro x hx
      obtain ⟨i, hi, rfl⟩ := List.getElem_of_mem hx
      exact h i hi]
    rfl)
  unfold maxLen at hz
  clear hs hp hT hc
  go_enter Tryd.func35, Tryd.ntmps35
  go_wp2_with fail
  go_loop [9] (fun i => ∃ k : Nat, k ≤ ns.length ∧ i = .int .i64 k ∧ Hid (∀ j (h : j < ns.length), j < k → inB ms ns[j] = true)) (fun i => ns.length - (intOf i).toNat)
  case atStart => exact ⟨0, Nat.zero_le _, rfl, Lib.hid (fun j _ h => absurd h (Nat.not_lt_zero j))⟩
  case round =>
    obtain ⟨k, hk, rfl, HJ⟩ := hrel
    by_cases hlt : k < ns.length
    · have xk := HC.out k hlt
      have HAM := Lib.hid (fun wx => among_val ms.length ns[k] ms rfl wx)
      have hno := HNO.out k hlt
      cases hin : inB ms ns[k] with
      | true =>
        rw [hin] at HAM
        have HJ2 := Lib.hid (show ∀ j (h : j < ns.length), j < k + 1 → inB ms ns[j] = true from fun j h h2 => by
          by_cases e : j = k
          · subst e; exact hin
          · exact HJ.out j h (by omega))
        clear hin hno
        generalize ns[k] = x at *
        go_wp2_with (go_at_call 30; refine (HAM.out _).mono ?_; rintro e w' ⟨rfl, rfl⟩)
        go_round
        case rel => exact ⟨k + 1, by omega, by go_num, HJ2⟩
        case measure => simp [intOf]; omega
      | false =>
        rw [hin] at HAM
        have HF := Lib.hid (hno hin)
        clear hin hno
        generalize ns[k] = x at *
        go_wp2_with (go_at_call 30; refine (HAM.out _).mono ?_; rintro e w' ⟨rfl, rfl⟩)
        go_ret
        exact ⟨by rw [HF.out]; rfl, Below.refl _ _⟩
    · have HF := Lib.hid (HYES.out fun i hi => HJ.out i hi (by omega))
      go_wp2_with (go_at_call 15; refine HR.out.mono ?_; rintro e w' ⟨rfl, hb⟩)
      go_ret
      exact ⟨by rw [HF.out]; rfl, hb⟩

/-- labels at a slice that the caller has just made -/
theorem labels1 (ms : List Nat) (p : Option Addr) (c : Nat) (a : Int) (w : World) (hz : ms.length ≤ maxLen) (hs : Small ms) (hp : Us w w.heap.size p ms) (hT : Tab w) (hg : 0 < w.heap.size) :
    Calls Tryd.prog 35 #[.slice p ms.length c, .slice (some ⟨w.heap.size, 0, none⟩) 1 1] (w.alloc (.cells #[.int .i64 a] 3)) fun e W' => e = .returned (.bool (labelsB ms [a])) ∧ Below w.heap.size w W' := by
  have hb := ((Below.refl w.heap.size w).alloc (Nat.le_refl _) (.cells #[.int .i64 a] 3))
  refine (labels_any ms p c [a] w.heap.size 1 _ hz hs ((hp.below hb (Nat.le_refl _)).up hb.size) (hT.below hb hg) (by simp) (by simp) (fun i hi => ?_)).mono fun e W' ⟨h1, h2⟩ => ⟨h1, hb.trans (h2.mono hb.size)⟩
  obtain rfl : i = 0 := by simpa using hi
  simp [go_sem]
theorem labels2 (ms : List Nat) (p : Option Addr) (c : Nat) (a b : Int) (w : World) (hz : ms.length ≤ maxLen) (hs : Small ms) (hp : Us w w.heap.size p ms) (hT : Tab w) (hg : 0 < w.heap.size) :
    Calls Tryd.prog 35 #[.slice p ms.length c, .slice (some ⟨w.heap.size, 0, none⟩) 2 2] (w.alloc (.cells #[.int .i64 a, .int .i64 b] 3)) fun e W' => e = .returned (.bool (labelsB ms [a, b])) ∧ Below w.heap.size w W' := by
  have hb := ((Below.refl w.heap.size w).alloc (Nat.le_refl _) (.cells #[.int .i64 a, .int .i64 b] 3))
  refine (labels_any ms p c [a, b] w.heap.size 2 _ hz hs ((hp.below hb (Nat.le_refl _)).up hb.size) (hT.below hb hg) (by simp) (by simp) (fun i hi => ?_)).mono fun e W' ⟨h1, h2⟩ => ⟨h1, hb.trans (h2.mono hb.size)⟩
  have : i = 0 ∨ i = 1 := by simp at hi; omega
  rcases this with rfl | rfl <;> simp [go_sem]
theorem labelsB_in {ms : List Nat} {ns : List Int} (h : labelsB ms ns = true) {a : Int} (ha : a ∈ ns) : ∃ k : Nat, a = k ∧ k < ms.length := by
  unfold labelsB at h
  rw [Bool.and_eq_true] at h
  have := List.all_eq_true.1 h.1 a ha
  unfold inB at this
  simp only [decide_eq_true_eq] at this
  exact ⟨a.toNat, by omega, by omega⟩
theorem labelsB_ord {ms : List Nat} {ns : List Int} (h : labelsB ms ns = true) : OrdM ms := by
  unfold labelsB at h
  rw [Bool.and_eq_true] at h
  exact Classical.byContradiction fun hc => by have := ordB_false hc; rw [this] at h; cases h.2

noncomputable def atB (ms : List Nat) (a b : Int) : Bool := labelsB ms [a, b] && (ms.getD a.toNat 0).testBit b.toNat
noncomputable def aboveM (ms : List Nat) (a : Int) : Nat := if labelsB ms [a] = true then ms.getD a.toNat 0 else 0

set_option maxHeartbeats 2000000 in
set_option maxRecDepth 100000 in
theorem at_any (ms : List Nat) (p : Option Addr) (c : Nat) (a b : Int) (w : World) (hz : ms.length ≤ maxLen) (hs : Small ms) (hp : Us w w.heap.size p ms) (hT : Tab w) (hg : 0 < w.heap.size) :
    Calls Tryd.prog 19 #[.slice p ms.length c, .int .i64 a, .int .i64 b] w fun e W' => e = .returned (.bool (atB ms a b)) ∧ Below w.heap.size w W' := by
  have HL := Lib.hid (labels2 ms p c a b w hz hs hp hT hg)
  cases hl : labelsB ms [a, b] with
  | false =>
    have HF := Lib.hid (show atB ms a b = false by unfold atB; rw [hl]; rfl)
    rw [hl] at HL
    clear hl hs hp hT
    go_enter Tryd.func19, Tryd.ntmps19
    go_wp2_with (go_at_call 35; refine HL.out.mono ?_; rintro e w' ⟨rfl, hb⟩)
    go_ret
    exact ⟨by rw [HF.out]; rfl, hb⟩
  | true =>
    obtain ⟨i, rfl, hi⟩ := labelsB_in hl (a := a) (by simp)
    obtain ⟨j, rfl, hj⟩ := labelsB_in hl (a := b) (by simp)
    have ho := labelsB_ord hl
    have hn64 := ho.2.1
    obtain ⟨b', off, rfl, hbl, xi⟩ := hp.at i hi
    have hX := hs.at hi
    have hj64 : j < 64 := by omega
    have HF := Lib.hid (show atB ms i j = ms[i].testBit j by unfold atB; rw [hl]; simp only [Int.toNat_natCast, Bool.true_and]; rw [getD_at hi])
    have HH := Lib.hid (fun wx => has_any ms[i] j hX hj64 wx)
    rw [hl] at HL
    clear hl hs hp hT ho
    unfold mask at xi HH
    generalize ms[i] = X at *
    cases ht : X.testBit j
    all_goals
      rw [ht] at HH HF
      clear ht
      go_enter Tryd.func19, Tryd.ntmps19
      go_wp2_with fail
      refine HL.out.mono ?_
      rintro e w' ⟨rfl, hb⟩
      have xi' := (hb.cell (p := ⟨b', off + i, none⟩) hbl).trans xi
      have HB := Lib.hid hb
      clear hb xi
      go_wp2_with (go_at_call 33; refine (HH.out _).mono ?_; rintro e w' ⟨rfl, rfl⟩)
      go_ret
      exact ⟨by rw [HF.out]; rfl, HB.out⟩

set_option maxHeartbeats 2000000 in
set_option maxRecDepth 100000 in
theorem above_any (ms : List Nat) (p : Option Addr) (c : Nat) (a : Int) (w : World) (hz : ms.length ≤ maxLen) (hs : Small ms) (hp : Us w w.heap.size p ms) (hT : Tab w) (hg : 0 < w.heap.size) :
    Calls Tryd.prog 21 #[.slice p ms.length c, .int .i64 a] w fun e W' => e = .returned (.int .u64 (aboveM ms a : Nat)) ∧ Below w.heap.size w W' := by
  have HL := Lib.hid (labels1 ms p c a w hz hs hp hT hg)
  cases hl : labelsB ms [a] with
  | false =>
    have HF := Lib.hid (show aboveM ms a = 0 by unfold aboveM; rw [hl]; rfl)
    rw [hl] at HL
    clear hl hs hp hT
    go_enter Tryd.func21, Tryd.ntmps21
    go_wp2_with (go_at_call 35; refine HL.out.mono ?_; rintro e w' ⟨rfl, hb⟩)
    go_ret
    exact ⟨by rw [HF.out]; rfl, hb⟩
  | true =>
    obtain ⟨i, rfl, hi⟩ := labelsB_in hl (a := a) (by simp)
    obtain ⟨b', off, rfl, hbl, xi⟩ := hp.at i hi
    have HF := Lib.hid (show aboveM ms i = ms[i] by unfold aboveM; rw [hl, if_pos rfl]; simp only [Int.toNat_natCast]; rw [getD_at hi])
    rw [hl] at HL
    clear hl hs hp hT
    unfold mask at xi
    generalize ms[i] = X at *
    go_enter Tryd.func21, Tryd.ntmps21
    go_wp2_with fail
    refine HL.out.mono ?_
    rintro e w' ⟨rfl, hb⟩
    have xi' := (hb.cell (p := ⟨b', off + i, none⟩) hbl).trans xi
    have HB := Lib.hid hb
    clear hb xi
    go_wp2_with fail
    go_ret
    exact ⟨by rw [HF.out]; rfl, HB.out⟩

/-- those of the first k labels that a stands at or above -/
def belowK (ms : List Nat) (a : Nat) : Nat → Nat
  | 0 => 0
  | k + 1 => if (ms.getD k 0).testBit a = true then belowK ms a k ||| 2 ^ k else belowK ms a k
noncomputable def belowM (ms : List Nat) (a : Int) : Nat := if labelsB ms [a] = true then belowK ms a.toNat ms.length else 0
theorem belowK_lt (ms : List Nat) (a : Nat) : ∀ k, k ≤ 64 → belowK ms a k < 18446744073709551616
  | 0, _ => by rw [belowK]; decide
  | k + 1, h => by
    have ih := belowK_lt ms a k (by omega)
    rw [belowK]
    split
    · exact Nat.or_lt_two_pow (n := 64) ih (pow_lt64 (by omega))
    · exact ih
theorem testBit_belowK (ms : List Nat) (a i : Nat) : ∀ k, (belowK ms a k).testBit i = (decide (i < k) && (ms.getD i 0).testBit a)
  | 0 => by simp [belowK]
  | k + 1 => by
    have ih := testBit_belowK ms a i k
    rw [belowK]
    by_cases h : (ms.getD k 0).testBit a = true
    · rw [if_pos h, Nat.testBit_or, ih, Nat.testBit_two_pow]
      by_cases e : i = k
      · subst e; rw [h]; simp
      · have e' : ¬ k = i := fun h => e h.symm
        by_cases h2 : i < k
        · have : i < k + 1 := by omega
          simp [h2, this, e']
        · have : ¬ i < k + 1 := by omega
          simp [h2, this, e']
    · rw [if_neg h, ih]
      by_cases e : i = k
      · subst e; simp at h; simp [h]
      · by_cases h2 : i < k
        · have : i < k + 1 := by omega
          simp [h2, this]
        · have : ¬ i < k + 1 := by omega
          simp [h2, this]

set_option maxHeartbeats 4000000 in
set_option maxRecDepth 100000 in
theorem below_any (ms : List Nat) (p : Option Addr) (c : Nat) (a : Int) (w : World) (hz : ms.length ≤ maxLen) (hs : Small ms) (hp : Us w w.heap.size p ms) (hT : Tab w) (hg : 0 < w.heap.size) :
    Calls Tryd.prog 23 #[.slice p ms.length c, .int .i64 a] w fun e W' => e = .returned (.int .u64 (belowM ms a : Nat)) ∧ Below w.heap.size w W' := by
  have HL := Lib.hid (labels1 ms p c a w hz hs hp hT hg)
  cases hl : labelsB ms [a] with
  | false =>
    have HF := Lib.hid (show belowM ms a = 0 by unfold belowM; rw [hl]; rfl)
    rw [hl] at HL
    clear hl hs hp hT
    go_enter Tryd.func23, Tryd.ntmps23
    go_wp2_with (go_at_call 35; refine HL.out.mono ?_; rintro e w' ⟨rfl, hb⟩)
    go_ret
    exact ⟨by rw [HF.out]; rfl, hb⟩
  | true =>
    obtain ⟨j, rfl, hj⟩ := labelsB_in hl (a := a) (by simp)
    have hn64 := (labelsB_ord hl).2.1
    have hj64 : j < 64 := by omega
    have HF := Lib.hid (show belowM ms j = belowK ms j ms.length by unfold belowM; rw [hl, if_pos rfl]; simp only [Int.toNat_natCast])
    have HP := Lib.hid hp
    have HS := Lib.hid hs
    have HLT := Lib.hid (belowK_lt ms j)
    have HST := Lib.hid (show ∀ k, belowK ms j (k + 1) = if (ms.getD k 0).testBit j = true then belowK ms j k ||| 2 ^ k else belowK ms j k from fun k => rfl)
    rw [hl] at HL
    clear hl hs hp hT
    go_enter Tryd.func23, Tryd.ntmps23
    go_wp2_with fail
    refine HL.out.mono ?_
    rintro e w' ⟨rfl, hb⟩
    have HP2 := Lib.hid (HP.out.below hb (Nat.le_refl _))
    have HB := Lib.hid hb
    clear hb
    go_wp2_with fail
    go_loop [5, 14] (fun m i => ∃ k : Nat, k ≤ ms.length ∧ i = .int .i64 k ∧ m = .int .u64 (belowK ms j k : Nat)) (fun _ i => ms.length - (intOf i).toNat)
    case atStart => exact ⟨0, Nat.zero_le _, rfl, rfl⟩
    case round =>
      obtain ⟨k, hk, rfl, rfl⟩ := hrel
      by_cases hlt : k < ms.length
      · obtain ⟨b', off, e1, _, xk⟩ := HP2.out.at k hlt
        subst e1
        have hX := HS.out.at hlt
        have hst := HST.out k
        rw [getD_at hlt] at hst
        have HH := Lib.hid (fun wx => has_any ms[k] j hX hj64 wx)
        have HBI := Lib.hid (fun wx => bit_val k (by omega) wx)
        have hM := HLT.out k (by omega)
        have hor := bits_or_u64_nat (belowK ms j k) (2 ^ k) hM (pow_lt64 (by omega))
        unfold mask at xk HH
        generalize ms[k] = X at *
        cases ht : X.testBit j with
        | true =>
          rw [ht] at HH hst
          have HN := Lib.hid (show ((belowK ms j (k + 1) : Nat) : Int) = ((belowK ms j k ||| 2 ^ k : Nat) : Int) by rw [hst]; rfl)
          clear ht hst
          generalize belowK ms j k = M at *
          generalize 2 ^ k = pk at *
          go_wp2_with (first
            | (go_at_call 33; refine (HH.out _).mono ?_; rintro e w' ⟨rfl, rfl⟩)
            | (go_at_call 37; refine (HBI.out _).mono ?_; rintro e w' ⟨rfl, rfl⟩))
          go_round
          case rel => exact ⟨k + 1, by omega, by go_num, by rw [HN.out]⟩
          case measure => simp [intOf]; omega
        | false =>
          rw [ht] at HH hst
          have HN := Lib.hid (show ((belowK ms j (k + 1) : Nat) : Int) = ((belowK ms j k : Nat) : Int) by rw [hst]; rfl)
          clear ht hst
          go_wp2_with (go_at_call 33; refine (HH.out _).mono ?_; rintro e w' ⟨rfl, rfl⟩)
          go_round
          case rel => exact ⟨k + 1, by omega, by go_num, by rw [HN.out]⟩
          case measure => simp [intOf]; omega
      · obtain rfl : k = ms.length := by omega
        go_wp2_with fail
        go_ret
        exact ⟨by rw [HF.out]; rfl, HB.out⟩
end Go.Proofs.YtkgcloggnnjioaaDoor
