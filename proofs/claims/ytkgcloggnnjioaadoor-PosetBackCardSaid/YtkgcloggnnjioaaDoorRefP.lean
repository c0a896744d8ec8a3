/-
  Contract of the plain answer: mandateref04.Pairs.
-/
import Derived.Test.YtkgcloggnnjioaaDoorRefJ
import Derived.Test.YtkgcloggnnjioaaDoorPairs
namespace Go.Proofs.YtkgcloggnnjioaaDoor
open Go.RowKit

/-- a stands below b, and nothing of the first m between -/
def ckK (ms : List Nat) (a b m : Nat) : Bool := (decide (a ≠ b) && bt ms a b) && (List.range m).all fun c => !(decide (c ≠ a) && (decide (c ≠ b) && (bt ms a c && bt ms c b)))
theorem ckK_succ (ms : List Nat) (a b m : Nat) : ckK ms a b (m + 1) = (ckK ms a b m && !(decide (m ≠ a) && (decide (m ≠ b) && (bt ms a m && bt ms m b)))) := by
  unfold ckK
  rw [List.range_succ, List.all_append]
  simp [Bool.and_assoc]
theorem ckK_cov {ms : List Nat} (ho : OrdM ms) {a b : Nat} (ha : a < ms.length) : ckK ms a b ms.length = covB ms a b := by
  rw [Bool.eq_iff_iff, covB_iff]
  unfold ckK Cov bt
  rw [Bool.and_eq_true, Bool.and_eq_true, List.all_eq_true, decide_eq_true_eq]
  constructor
  · rintro ⟨⟨h1, h2⟩, h3⟩
    refine ⟨h2, fun e => h1 e.symm, fun c hc hca hcb hcc => ?_⟩
    have := h3 c (List.mem_range.2 ((ho.2.2 a ha).2.1 c hc))
    unfold has at hc hcc
    rw [hc, hcc] at this
    simp [hca, hcb] at this
  · rintro ⟨h1, h2, h3⟩
    refine ⟨⟨fun e => h2 e.symm, h1⟩, fun c _ => ?_⟩
    rw [Bool.not_eq_true', Bool.eq_false_iff]
    intro h
    simp only [Bool.and_eq_true, decide_eq_true_eq] at h
    exact h3 c h.2.2.1 h.1 h.2.1 h.2.2.2
theorem ckK_false {ms : List Nat} {a b m : Nat} (h : ckK ms a b m = false) : ∀ n, m ≤ n → ckK ms a b n = false := by
  intro n
  induction n with
  | zero => intro hm; obtain rfl : m = 0 := by omega
            exact h
  | succ n ih =>
    intro hm
    by_cases e : m = n + 1
    · subst e; exact h
    · rw [ckK_succ, ih (by omega)]; rfl
/-- the pairs of the labels ahead of a, and of a with the first b labels -/
noncomputable def pairsKb (ms : List Nat) (a b : Nat) : List (Nat × Nat) := pairsK ms a ++ ((List.range b).filter (covB ms a)).map fun x => (a, x)
theorem pairsKb_zero (ms : List Nat) (a : Nat) : pairsKb ms a 0 = pairsK ms a := by unfold pairsKb; simp
theorem pairsKb_yes {ms : List Nat} {a b : Nat} (h : covB ms a b = true) : pairsKb ms a (b + 1) = pairsKb ms a b ++ [(a, b)] := by
  unfold pairsKb; rw [List.range_succ, List.filter_append, List.map_append]; simp [h]
theorem pairsKb_no {ms : List Nat} {a b : Nat} (h : covB ms a b = false) : pairsKb ms a (b + 1) = pairsKb ms a b := by
  unfold pairsKb; rw [List.range_succ, List.filter_append, List.map_append]; simp [h]
theorem pairsKb_end {ms : List Nat} (hs : Small ms) (ho : OrdM ms) {a : Nat} (ha : a < ms.length) : pairsKb ms a ms.length = pairsK ms (a + 1) := by
  rw [pairsK]; unfold pairsKb rowP; rw [bits_cov hs ho ha]
theorem pairsKb_len (ms : List Nat) (a b : Nat) (ha : a ≤ 64) (hb : b ≤ 64) : (pairsKb ms a b).length ≤ 8192 := by
  unfold pairsKb
  have h1 := pairsK_len ms a
  have h2 := List.length_filter_le (covB ms a) (List.range b)
  rw [List.length_append, List.length_map]
  simp at h2
  omega

set_option maxRecDepth 100000 in
set_option maxHeartbeats 16000000 in
theorem rpairs_yes (ms : List Nat) (p : Option Addr) (c : Nat) (w : World) (hs : Small ms) (hp : Us w w.heap.size p ms) (ho : OrdM ms) :
    Calls Tryd.prog 27 #[.slice p ms.length c] w fun e W' => (∃ v, e = .returned v ∧ W'.ownsRow w.heap.size 44 2 v (pairsM ms).length (cellsP (pairsM ms))) ∧ Below w.heap.size w W' := by
  have hn := ho.2.1
  have HR := rright_any ms p c w (by unfold maxLen; omega) hs hp
  rw [ordB_true ho] at HR
  have HR := Lib.hid HR
  obtain ⟨b, off, rfl, hbl, hcs⟩ := hp.cell ho.1
  have HC := Lib.hid hcs
  have HS := Lib.hid hs
  have HO := Lib.hid ho
  have HEND := Lib.hid (show pairsM ms = pairsK ms ms.length from rfl)
  clear hs hp ho hcs
  obtain ⟨i0, hi, hz0, hz1, hz2⟩ := info_parts Tryd.info44p
  go_enter Tryd.func27, Tryd.ntmps27
  go_wp2_with (go_at_call 16; refine HR.out.mono ?_; rintro e w' ⟨rfl, rfl⟩)
  go_loopw [3, 4] (fun o v wr => ∃ k : Nat, k ≤ ms.length ∧ v = .int .i64 k ∧ Hid (wr.ownsRow w.heap.size 44 2 o (pairsK ms k).length (cellsP (pairsK ms k))) ∧ Below w.heap.size w wr) (fun _ v _ => ms.length - (intOf v).toNat)
  case atStart => exact ⟨0, Nat.zero_le _, rfl, Lib.hid (World.ownsRow_nil _ _ _ _), Below.refl _ _⟩
  case round =>
    obtain ⟨a, hk, rfl, HOW, hb⟩ := hrel
    have HB := Lib.hid hb
    clear hb
    by_cases hlt : a < ms.length
    · have HOW0 := Lib.hid (show wr.ownsRow w.heap.size 44 2 u3 (pairsKb ms a 0).length (cellsP (pairsKb ms a 0)) from by rw [pairsKb_zero]; exact HOW.out)
      have HKE := Lib.hid (pairsKb_end HS.out HO.out hlt)
      clear HOW
      go_wp2_with fail
      obtain ⟨wo, rfl⟩ : ∃ wo : World, wo = wr := ⟨_, rfl⟩
      go_loopw [3, 5] (fun o v wr => ∃ k : Nat, k ≤ ms.length ∧ v = .int .i64 k ∧ Hid (wr.ownsRow w.heap.size 44 2 o (pairsKb ms a k).length (cellsP (pairsKb ms a k))) ∧ Below w.heap.size w wr) (fun _ v _ => ms.length - (intOf v).toNat)
      case atStart => exact ⟨0, Nat.zero_le _, rfl, HOW0, HB.out⟩
      case round =>
        clear HOW0 HB
        obtain ⟨x, hx, rfl, HOW, hb⟩ := hrel
        have HB := Lib.hid hb
        clear hb
        by_cases hltx : x < ms.length
        · have xa : wr.cell? ⟨b, off + a, none⟩ = some (.int .u64 (ms.getD a 0 : Nat)) := (HB.out.cell (p := ⟨b, off + a, none⟩) hbl).trans (HC.out a hlt)
          have hXa := small_getD HS.out a
          have HCELL := Lib.hid (show ∀ m, m < ms.length → wr.cell? ⟨b, off + m, none⟩ = some (.int .u64 (ms.getD m 0 : Nat)) from fun m hm => (HB.out.cell (p := ⟨b, off + m, none⟩) hbl).trans (HC.out m hm))
          have HBA := Lib.hid (show ∀ d, bt ms a d = (ms.getD a 0).testBit d from fun _ => rfl)
          generalize ms.getD a 0 = A at *
          have h0 : ckK ms a x 0 = (decide (a ≠ x) && A.testBit x) := by unfold ckK; rw [HBA.out]; simp
          have hway : (((a : Int) != (x : Int)) = false ∧ ckK ms a x 0 = false) ∨ (((a : Int) != (x : Int)) = true ∧ A.testBit x = false ∧ ckK ms a x 0 = false) ∨ (((a : Int) != (x : Int)) = true ∧ A.testBit x = true ∧ ckK ms a x 0 = true) := by
            rw [h0]
            by_cases e : a = x
            · exact .inl ⟨by rw [e]; simp, by simp [e]⟩
            · have e2 : ((a : Int) != (x : Int)) = true := by simp; omega
              cases hA : A.testBit x with
              | false => exact .inr (.inl ⟨e2, rfl, by simp⟩)
              | true => exact .inr (.inr ⟨e2, rfl, by simp [e]⟩)
          clear h0
          have HFIN := Lib.hid (show ∀ v : Value, v = .bool (ckK ms a x 0) → ∃ m : Nat, m ≤ ms.length ∧ Value.int .i64 0 = .int .i64 m ∧ v = .bool (ckK ms a x m) from fun v h => ⟨0, Nat.zero_le _, rfl, h⟩)
          have HCOV := Lib.hid (ckK_cov HO.out (b := x) hlt)
          have HOWA := Lib.hid (show wr.ownsRow w.heap.size 44 2 u3 (pairsKb ms a x).length (cellsP (pairsKb ms a x)) from HOW.out)
          clear HOW
          rcases hway with ⟨h1, h3⟩ | ⟨h1, h2, h3⟩ | ⟨h1, h2, h3⟩
          all_goals
            have HO0 := Lib.hid h3.symm
            clear h3
            go_wp2_with (go_at_call 29; refine (Bit_ref _ _ (by assumption) (by omega) _).mono ?_; rintro e w' ⟨rfl, rfl⟩)
            go_loop [6, 7] (fun o v => ∃ m : Nat, m ≤ ms.length ∧ v = .int .i64 m ∧ o = .bool (ckK ms a x m)) (fun _ v => ms.length - (intOf v).toNat)
            case atStart => exact HFIN.out _ (by rw [← HO0.out])
            case round =>
              obtain ⟨m, hm, rfl, hov⟩ := hrel
              by_cases hgo : m < ms.length ∧ ckK ms a x m = true
              · obtain ⟨hltm, hcm⟩ := hgo
                rw [hcm] at hov
                subst hov
                have xm := HCELL.out m hltm
                have hXm := small_getD HS.out m
                have hsu := ckK_succ ms a x m
                have hBM : bt ms m x = (ms.getD m 0).testBit x := rfl
                rw [HBA.out, hBM] at hsu
                generalize ms.getD m 0 = M at *
                have hway : (((m : Int) != (a : Int)) = false ∧ ckK ms a x (m + 1) = ckK ms a x m) ∨ (((m : Int) != (a : Int)) = true ∧ ((m : Int) != (x : Int)) = false ∧ ckK ms a x (m + 1) = ckK ms a x m) ∨
                    (((m : Int) != (a : Int)) = true ∧ ((m : Int) != (x : Int)) = true ∧ A.testBit m = false ∧ ckK ms a x (m + 1) = ckK ms a x m) ∨
                    (((m : Int) != (a : Int)) = true ∧ ((m : Int) != (x : Int)) = true ∧ A.testBit m = true ∧ M.testBit x = false ∧ ckK ms a x (m + 1) = ckK ms a x m) ∨
                    (((m : Int) != (a : Int)) = true ∧ ((m : Int) != (x : Int)) = true ∧ A.testBit m = true ∧ M.testBit x = true ∧ ckK ms a x (m + 1) = false) := by
                  rw [hsu]
                  by_cases e1 : m = a
                  · exact .inl ⟨by rw [e1]; simp, by simp [e1]⟩
                  · have f1 : ((m : Int) != (a : Int)) = true := by simp; omega
                    by_cases e2 : m = x
                    · exact .inr (.inl ⟨f1, by rw [e2]; simp, by simp [e2]⟩)
                    · have f2 : ((m : Int) != (x : Int)) = true := by simp; omega
                      cases hA : A.testBit m with
                      | false => exact .inr (.inr (.inl ⟨f1, f2, rfl, by simp⟩))
                      | true =>
                        cases hM : M.testBit x with
                        | false => exact .inr (.inr (.inr (.inl ⟨f1, f2, rfl, rfl, by simp⟩)))
                        | true => exact .inr (.inr (.inr (.inr ⟨f1, f2, rfl, rfl, by simp [e1, e2]⟩)))
                clear hsu hBM
                rcases hway with ⟨g1, g4⟩ | ⟨g1, g2, g4⟩ | ⟨g1, g2, g3, g4⟩ | ⟨g1, g2, g3, g5, g4⟩ | ⟨g1, g2, g3, g5, g4⟩
                all_goals
                  have G4 := Lib.hid g4
                  have GC := Lib.hid hcm
                  clear g4 hcm
                  go_wp2_with (go_at_call 29; refine (Bit_ref _ _ (by assumption) (by omega) _).mono ?_; rintro e w' ⟨rfl, rfl⟩)
                  go_round
                  case rel => exact ⟨m + 1, by omega, by go_num, by first | rw [G4.out, GC.out] | rw [G4.out]⟩
                  case measure => simp [intOf]; omega
              · have hfin : ckK ms a x m = covB ms a x ∧ (m < ms.length → ckK ms a x m = false) := by
                  rw [← HCOV.out]
                  by_cases hltm : m < ms.length
                  · have hf : ckK ms a x m = false := by
                      rw [Bool.eq_false_iff]; exact fun h => hgo ⟨hltm, h⟩
                    exact ⟨by rw [hf, ckK_false hf _ (by omega)], fun _ => hf⟩
                  · obtain rfl : m = ms.length := by omega
                    exact ⟨rfl, fun h => absurd h (Nat.lt_irrefl _)⟩
                obtain ⟨hcv, hst⟩ := hfin
                clear hgo
                cases hcb : covB ms a x with
                | true =>
                  have hml : ¬ m < ms.length := fun h => by have := hst h; rw [hcv, hcb] at this; cases this
                  rw [hcv, hcb] at hov
                  subst hov
                  have HN := Lib.hid (pairsKb_yes hcb)
                  have hlen := pairsKb_len ms a x (by omega) (by omega)
                  have HS1 := Lib.hid (show ∀ (j : Nat) (u : Value), [Value.int .i64 a, Value.int .i64 x][j]? = some u → (wr.alloc (.cells #[.int .i64 a, .int .i64 x] 44)).cell? ((⟨wr.heap.size, 0, none⟩ : Addr).add j) = some u from fun j u hj => by
                    match j, hj with
                    | 0, hj => simp at hj; subst hj; simp [go_sem, Addr.add]
                    | 1, hj => simp at hj; subst hj; simp [go_sem, Addr.add])
                  have HS2 := Lib.hid (show ∀ u ∈ [Value.int .i64 a, Value.int .i64 x], u.oneCell' = true from fun u hu => by simp at hu; rcases hu with rfl | rfl <;> rfl)
                  have s3 : (pairsKb ms a x).length + 1 ≤ maxLen := by unfold maxLen; omega
                  have s4 : ((pairsKb ms a x).length + 1) * 16 ≤ 140737488355328 := by omega
                  have s5 : w.heap.size ≤ (wr.alloc (.cells #[.int .i64 a, .int .i64 x] 44)).heap.size := by have := HB.out.size; simp; omega
                  have S3 := Lib.hid s3
                  have S5 := Lib.hid s5
                  clear s3 s5
                  have HCS := Lib.hid (cellsP_snoc (pairsKb ms a x) a x)
                  clear hst hcb hcv
                  generalize hPS : pairsKb ms a x = PS at *
                  clear hPS
                  go_wp2_with (at_builtin; refine wpList_append_own _ rfl (.tmp 68) (.tmp 72) 22 rfl w.heap.size 44 i0 (.agg #[.int .i64 0, .int .i64 0]) 2 16 Tryd.und22p hi hz0 hz1 hz2 rfl (by decide) _ _ _ rfl (HOWA.out.alloc _) ⟨wr.heap.size, 0, none⟩ 1 1 [.int .i64 a, .int .i64 x] rfl rfl HS1.out HS2.out S3.out s4 S5.out ?_)
                  intro v' w1 hown' hgrow _
                  have HOW2 := Lib.hid (show w1.ownsRow w.heap.size 44 2 v' (pairsKb ms a (x + 1)).length (cellsP (pairsKb ms a (x + 1))) from by
                    rw [HN.out, HCS.out, List.length_append]; exact hown')
                  have HB2 := Lib.hid ((HB.out.alloc HB.out.size (.cells #[.int .i64 a, .int .i64 x] 44)).grown hgrow (by have := HB.out.size; simp; omega) (fun k e => (HOWA.out.lt k e).1))
                  clear hown' hgrow
                  go_wp2_with fail
                  go_roundw
                  case rel => exact ⟨x + 1, by omega, by go_num, HOW2, HB2.out⟩
                  case measure => simp [intOf]; omega
                | false =>
                  rw [hcv, hcb] at hov
                  subst hov
                  have HN := Lib.hid (show wr.ownsRow w.heap.size 44 2 u3 (pairsKb ms a (x + 1)).length (cellsP (pairsKb ms a (x + 1))) from by rw [pairsKb_no hcb]; exact HOWA.out)
                  clear hst hcb hcv
                  by_cases hltm : m < ms.length
                  all_goals
                    go_wp2_with fail
                    go_roundw
                    case rel => exact ⟨x + 1, by omega, by go_num, HN, HB.out⟩
                    case measure => simp [intOf]; omega
        · obtain rfl : x = ms.length := by omega
          have HOW2 := Lib.hid (show wr.ownsRow w.heap.size 44 2 u3 (pairsK ms (a + 1)).length (cellsP (pairsK ms (a + 1))) from by rw [← HKE.out]; exact HOW.out)
          clear HOW
          go_wp2_with fail
          go_roundw
          case rel => exact ⟨a + 1, by omega, by go_num, HOW2, HB.out⟩
          case measure => simp [intOf]; omega
    · obtain rfl : a = ms.length := by omega
      have HF := Lib.hid (show ∃ v, u3 = v ∧ wr.ownsRow w.heap.size 44 2 v (pairsM ms).length (cellsP (pairsM ms)) from ⟨u3, rfl, by rw [HEND.out]; exact HOW.out⟩)
      clear HOW
      go_wp2_with fail
      go_ret
      exact ⟨by obtain ⟨v, rfl, h⟩ := HF.out; exact ⟨_, rfl, h⟩, HB.out⟩
end Go.Proofs.YtkgcloggnnjioaaDoor
