/-
  Contract of the plain answer: mandateref04.Join.
-/
import Derived.Test.YtkgcloggnnjioaaDoorRefA
import Derived.Test.YtkgcloggnnjioaaDoorJoin
import Derived.Test.YtkgcloggnnjioaaDoorClo
namespace Go.Proofs.YtkgcloggnnjioaaDoor
open Go.RowKit

def bt (ms : List Nat) (a b : Nat) : Bool := (ms.getD a 0).testBit b
/-- c stands above both, and so far below whatever does -/
def okK (ms : List Nat) (i j c m : Nat) : Bool := (bt ms i c && bt ms j c) && (List.range m).all fun d => !(bt ms i d && bt ms j d) || bt ms c d
theorem okK_succ (ms : List Nat) (i j c m : Nat) : okK ms i j c (m + 1) = (okK ms i j c m && (!(bt ms i m && bt ms j m) || bt ms c m)) := by
  unfold okK
  rw [List.range_succ, List.all_append]
  simp [Bool.and_assoc]
theorem find_range_filter (f : Nat → Bool) (n m : Nat) (h : ∀ i, f i = true → i < n) (hm : n ≤ m) : (List.range m).find? f = (List.range n).find? f := by
  rw [← List.head?_filter, ← List.head?_filter, filter_cut f n h m hm]
theorem joinR_find {ms : List Nat} (ho : OrdM ms) {i j : Nat} (hi : i < ms.length) (hj : j < ms.length) : joinR ms i j = (List.range ms.length).find? fun c => okK ms i j c ms.length := by
  have hl : labelsB ms [(i : Int), (j : Int)] = true := by unfold labelsB; simp [inB_nat hi, inB_nat hj, ordB_true ho]
  unfold joinR
  rw [if_pos hl, Int.toNat_natCast, Int.toNat_natCast]
  unfold bitsOf
  rw [List.find?_filter]
  have e : (fun c => decide ((both ms i j).testBit c = true ∧ (ms.getD c 0 == both ms i j) = true)) = fun c => okK ms i j c ms.length := by
    funext c
    rw [Bool.eq_iff_iff, decide_eq_true_eq]
    unfold okK both bt
    rw [Nat.testBit_and, Bool.and_eq_true, beq_iff_eq, Bool.and_eq_true, Bool.and_eq_true, List.all_eq_true]
    constructor
    · rintro ⟨h1, h2⟩
      refine ⟨h1, fun d _ => ?_⟩
      rw [h2, Nat.testBit_and]
      cases (ms.getD i 0).testBit d <;> cases (ms.getD j 0).testBit d <;> rfl
    · rintro ⟨⟨h1, h2⟩, h3⟩
      refine ⟨⟨h1, h2⟩, Nat.eq_of_testBit_eq fun d => ?_⟩
      rw [Nat.testBit_and, Bool.eq_iff_iff, Bool.and_eq_true]
      constructor
      · intro h4
        exact ⟨ord_trans ho (a := i) (b := c) (c := d) h1 h4, ord_trans ho (a := j) (b := c) (c := d) h2 h4⟩
      · rintro ⟨h4, h5⟩
        have := h3 d (List.mem_range.2 ((ho.2.2 i hi).2.1 d h4))
        rw [h4, h5] at this
        simpa using this
  have e2 : (fun c => decide ((both ms i j).testBit c = true ∧ (ms.getD c 0 == both ms i j) = true)) = (fun c => okK ms i j c ms.length) := e
  rw [show (fun a => (decide ((both ms i j).testBit a = true ∧ (ms.getD a 0 == both ms i j) = true))) = (fun c => okK ms i j c ms.length) from e2]
  refine find_range_filter _ _ _ (fun c hc => ?_) ho.2.1
  unfold okK at hc
  rw [Bool.and_eq_true, Bool.and_eq_true] at hc
  exact (ho.2.2 i hi).2.1 c hc.1.1
theorem joinV_some {ms : List Nat} {a b : Int} {c : Nat} (h : joinR ms a b = some c) : joinV ms a b = .tuple #[.int .i64 c, .bool true] := by unfold joinV; rw [h]
theorem joinV_none {ms : List Nat} {a b : Int} (h : joinR ms a b = none) : joinV ms a b = .tuple #[.int .i64 0, .bool false] := by unfold joinV; rw [h]
theorem find_at {f : Nat → Bool} {n k : Nat} (hk : k < n) (h : ∀ c, c < k → f c = false) (h1 : f k = true) : (List.range n).find? f = some k := by
  rw [List.find?_range_eq_some]
  exact ⟨h1, List.mem_range.2 hk, fun j hj => by rw [h j hj]; rfl⟩
theorem find_no {f : Nat → Bool} {n : Nat} (h : ∀ c, c < n → f c = false) : (List.range n).find? f = none := by
  rw [List.find?_eq_none]; intro x hx; rw [h x (List.mem_range.1 hx)]; decide

set_option maxHeartbeats 2000000 in
theorem rjoin_no (ms : List Nat) (p : Option Addr) (c : Nat) (a b : Int) (w : World) (hz : ms.length ≤ maxLen) (hs : Small ms) (hp : Us w w.heap.size p ms) (hl : labelsB ms [a, b] = false) :
    Calls Tryd.prog 18 #[.slice p ms.length c, .int .i64 a, .int .i64 b] w fun e w' => e = .returned (joinV ms a b) ∧ w = w' := by
  have HF := Lib.hid (show joinV ms a b = .tuple #[.int .i64 0, .bool false] from joinV_none (by unfold joinR; rw [hl]; rfl))
  have HLA := Lib.hid (label_any ms p c a w hz hs hp)
  have HLB := Lib.hid (label_any ms p c b w hz hs hp)
  have hll : labelsB ms [a, b] = ((inB ms a && (inB ms b && true)) && ordB ms) := rfl
  have hla : labB ms a = (ordB ms && inB ms a) := rfl
  have hlb : labB ms b = (ordB ms && inB ms b) := rfl
  rw [hl] at hll
  unfold maxLen at hz
  cases h1 : labB ms a with
  | false =>
    rw [h1] at HLA
    clear h1 hla hlb hll hs hp hl
    go_enter Tryd.func18, Tryd.ntmps18
    go_wp2_with (go_at_call 36; refine HLA.out.mono ?_; rintro e w' ⟨rfl, rfl⟩)
    go_ret2
    exact ⟨by rw [HF.out]; rfl, rfl⟩
  | true =>
    rw [h1] at HLA
    cases h2 : labB ms b with
    | true =>
      rw [h1] at hla; rw [h2] at hlb
      have ha := (Bool.and_eq_true _ _).mp hla.symm
      have hb := (Bool.and_eq_true _ _).mp hlb.symm
      rw [ha.1, ha.2, hb.2] at hll
      cases hll
    | false =>
      rw [h2] at HLB
      clear h1 h2 hla hlb hll hs hp hl
      have tok1 : True := trivial
      go_enter Tryd.func18, Tryd.ntmps18
      go_wp2_with (first | (go_at_call 36; have _t := tok1; refine HLA.out.mono ?_; rintro e w' ⟨rfl, rfl⟩; clear tok1) | (go_at_call 36; refine HLB.out.mono ?_; rintro e w' ⟨rfl, rfl⟩))
      go_ret2
      exact ⟨by rw [HF.out]; rfl, rfl⟩

set_option maxRecDepth 100000 in
set_option maxHeartbeats 8000000 in
theorem rjoin_yes (ms : List Nat) (p : Option Addr) (c i j : Nat) (w : World) (hs : Small ms) (hp : Us w w.heap.size p ms) (ho : OrdM ms) (hi : i < ms.length) (hj : j < ms.length) :
    Calls Tryd.prog 18 #[.slice p ms.length c, .int .i64 i, .int .i64 j] w fun e w' => e = .returned (joinV ms i j) ∧ w = w' := by
  have hn := ho.2.1
  have HLA := label_any ms p c i w (by unfold maxLen; omega) hs hp
  have HLB := label_any ms p c j w (by unfold maxLen; omega) hs hp
  rw [show labB ms i = true by unfold labB; rw [ordB_true ho, inB_nat hi]; rfl] at HLA
  rw [show labB ms j = true by unfold labB; rw [ordB_true ho, inB_nat hj]; rfl] at HLB
  have HLA := Lib.hid HLA
  have HLB := Lib.hid HLB
  have hR := joinR_find ho hi hj
  have HS1 := Lib.hid (show ∀ k, k < ms.length → (∀ c, c < k → okK ms i j c ms.length = false) → okK ms i j k ms.length = true → joinV ms i j = .tuple #[.int .i64 k, .bool true] from fun k hk h h1 => joinV_some (hR.trans (find_at hk h h1)))
  have HS0 := Lib.hid (show (∀ c, c < ms.length → okK ms i j c ms.length = false) → joinV ms i j = .tuple #[.int .i64 0, .bool false] from fun h => joinV_none (hR.trans (find_no h)))
  obtain ⟨b, off, rfl, hbl, hcs⟩ := hp.cell (by omega)
  have HC := Lib.hid hcs
  have HS := Lib.hid hs
  have xi := hcs i hi
  have xj := hcs j hj
  have hXi := small_getD hs i
  have hXj := small_getD hs j
  have HBI := Lib.hid (show ∀ d, bt ms i d = (ms.getD i 0).testBit d from fun _ => rfl)
  have HBJ := Lib.hid (show ∀ d, bt ms j d = (ms.getD j 0).testBit d from fun _ => rfl)
  clear hs hp ho hR hcs
  generalize ms.getD i 0 = X at *
  generalize ms.getD j 0 = Y at *
  have tok1 : True := trivial
  go_enter Tryd.func18, Tryd.ntmps18
  go_wp2_with (first | (go_at_call 36; have _t := tok1; refine HLA.out.mono ?_; rintro e w' ⟨rfl, rfl⟩; clear tok1) | (go_at_call 36; refine HLB.out.mono ?_; rintro e w' ⟨rfl, rfl⟩))
  go_loop [8] (fun v => ∃ k : Nat, k ≤ ms.length ∧ v = .int .i64 k ∧ Hid (∀ c, c < k → okK ms i j c ms.length = false)) (fun v => ms.length - (intOf v).toNat)
  case atStart => exact ⟨0, Nat.zero_le _, rfl, Lib.hid (fun c h => absurd h (Nat.not_lt_zero c))⟩
  case round =>
    obtain ⟨k, hk, rfl, HK⟩ := hrel
    by_cases hlt : k < ms.length
    · have xk := HC.out k hlt
      have hXk := small_getD HS.out k
      have HBK := Lib.hid (show ∀ d, bt ms k d = (ms.getD k 0).testBit d from fun _ => rfl)
      generalize ms.getD k 0 = Z at *
      have h0 : okK ms i j k 0 = (X.testBit k && Y.testBit k) := by unfold okK; rw [HBI.out, HBJ.out]; simp
      have hway : (X.testBit k = false ∧ okK ms i j k 0 = false) ∨ (X.testBit k = true ∧ Y.testBit k = false ∧ okK ms i j k 0 = false) ∨ (X.testBit k = true ∧ Y.testBit k = true ∧ okK ms i j k 0 = true) := by
        rw [h0]
        cases X.testBit k <;> cases Y.testBit k <;> simp
      clear h0
      have hfin : ∀ v : Value, v = .bool (okK ms i j k 0) → ∃ m : Nat, m ≤ ms.length ∧ Value.int .i64 0 = .int .i64 m ∧ v = .bool (okK ms i j k m) := fun v h => ⟨0, Nat.zero_le _, rfl, h⟩
      have HFIN := Lib.hid hfin
      clear hfin
      rcases hway with ⟨h1, h3⟩ | ⟨h1, h2, h3⟩ | ⟨h1, h2, h3⟩
      all_goals
        have HO0 := Lib.hid h3.symm
        clear h3
        go_wp2_with (go_at_call 29; refine (Bit_ref _ _ (by assumption) (by omega) _).mono ?_; rintro e w' ⟨rfl, rfl⟩)
        go_loop [9, 10] (fun o v => ∃ m : Nat, m ≤ ms.length ∧ v = .int .i64 m ∧ o = .bool (okK ms i j k m)) (fun _ v => ms.length - (intOf v).toNat)
        case atStart => exact HFIN.out _ (by rw [← HO0.out])
        case round =>
          obtain ⟨m, hm, rfl, rfl⟩ := hrel
          by_cases hltm : m < ms.length
          · have hsu := okK_succ ms i j k m
            rw [HBI.out, HBJ.out, HBK.out] at hsu
            have hway : (X.testBit m = false ∧ okK ms i j k (m + 1) = okK ms i j k m) ∨ (X.testBit m = true ∧ Y.testBit m = false ∧ okK ms i j k (m + 1) = okK ms i j k m) ∨ (X.testBit m = true ∧ Y.testBit m = true ∧ Z.testBit m = true ∧ okK ms i j k (m + 1) = okK ms i j k m) ∨ (X.testBit m = true ∧ Y.testBit m = true ∧ Z.testBit m = false ∧ okK ms i j k (m + 1) = false) := by
              rw [hsu]
              cases X.testBit m <;> cases Y.testBit m <;> cases Z.testBit m <;> simp
            clear hsu
            rcases hway with ⟨g1, g4⟩ | ⟨g1, g2, g4⟩ | ⟨g1, g2, g3, g4⟩ | ⟨g1, g2, g3, g4⟩
            all_goals
              have G4 := Lib.hid g4.symm
              clear g4
              go_wp2_with (go_at_call 29; refine (Bit_ref _ _ (by assumption) (by omega) _).mono ?_; rintro e w' ⟨rfl, rfl⟩)
              go_round
              case rel => exact ⟨m + 1, by omega, by go_num, by rw [← G4.out]⟩
              case measure => simp [intOf]; omega
          · obtain rfl : m = ms.length := by omega
            cases hok : okK ms i j k ms.length with
            | true =>
              have HF := Lib.hid (HS1.out k hlt HK.out hok)
              clear hok
              go_wp2_with fail
              go_ret2
              exact ⟨by rw [HF.out]; rfl, rfl⟩
            | false =>
              have HK2 := Lib.hid (show ∀ c, c < k + 1 → okK ms i j c ms.length = false from fun c hc => by
                by_cases e : c = k
                · subst e; exact hok
                · exact HK.out c (by omega))
              clear hok
              go_wp2_with fail
              go_round
              case rel => exact ⟨k + 1, by omega, by go_num, HK2⟩
              case measure => simp [intOf]; omega
    · have HF := Lib.hid (HS0.out (fun c hc => HK.out c (by omega)))
      go_wp2_with fail
      go_ret2
      exact ⟨by rw [HF.out]; rfl, rfl⟩

theorem rjoin_any (ms : List Nat) (p : Option Addr) (c : Nat) (a b : Int) (w : World) (hz : ms.length ≤ maxLen) (hs : Small ms) (hp : Us w w.heap.size p ms) :
    Calls Tryd.prog 18 #[.slice p ms.length c, .int .i64 a, .int .i64 b] w fun e w' => e = .returned (joinV ms a b) ∧ w = w' := by
  cases hl : labelsB ms [a, b] with
  | false => exact rjoin_no ms p c a b w hz hs hp hl
  | true =>
    obtain ⟨i, rfl, hi⟩ := labelsB_in hl (a := a) (by simp)
    obtain ⟨j, rfl, hj⟩ := labelsB_in hl (a := b) (by simp)
    exact rjoin_yes ms p c i j w hs hp (labelsB_ord hl) hi hj
theorem join_any (ms : List Nat) (p : Option Addr) (c : Nat) (a b : Int) (w : World) (hz : ms.length ≤ maxLen) (hs : Small ms) (hp : Us w w.heap.size p ms) (hT : Tab w) (hg : 0 < w.heap.size) :
    Calls Tryd.prog 17 #[.slice p ms.length c, .int .i64 a, .int .i64 b] w fun e W' => e = .returned (joinV ms a b) ∧ Below w.heap.size w W' := by
  cases hl : labelsB ms [a, b] with
  | false => exact join_no ms p c a b w hz hs hp hT hg hl
  | true =>
    obtain ⟨i, rfl, hi⟩ := labelsB_in hl (a := a) (by simp)
    obtain ⟨j, rfl, hj⟩ := labelsB_in hl (a := b) (by simp)
    exact join_yes ms p c i j w hz hs hp hT hg hl hi hj
end Go.Proofs.YtkgcloggnnjioaaDoor
