/-
  Contract: poset.closed: what pairs lead to.
-/
import Derived.Test.YtkgcloggnnjioaaDoorMasks
import Derived.Test.YtkgcloggnnjioaaDoorClo
import Derived.Test.YtkgcloggnnjioaaDoorHolds
import Derived.Deep.OwnRows
import Derived.OwnWalk
import Derived.StillTailTactics
namespace Go.Proofs.YtkgcloggnnjioaaDoor
open Go.RowKit

theorem Tryd.info36p : (Tryd.prog.info? 36).map (fun i => (i.zero, i.size, i.bytes)) = some (some (.int .u64 0), 1, 8) := by kernel_rfl
theorem Tryd.und24p : Tryd.prog.underlying 24 = some (.slice 36) := by kernel_rfl

/-- the cells of a row of masks -/
def rowV (ms : List Nat) (i : Nat) : Value := .int .u64 (ms.getD i 0 : Nat)
/-- block b is a row of these masks -/
def Row (w : World) (b : Nat) (ms : List Nat) : Prop := w.rowIs b 36 ms.length (rowV ms)
theorem Row.set {w : World} {b : Nat} {ms : List Nat} (h : Row w b ms) (a v : Nat) (ha : a < ms.length) : Row (w.setCell ⟨b, a, none⟩ (.int .u64 v)) b (ms.set a v) := by
  unfold Row at *
  rw [List.length_set]
  refine (h.set a (.int .u64 v)).congr fun i hi => ?_
  unfold rowV
  rw [getD_set]
  by_cases e : i = a
  · subst e; simp [hi]
  · have e' : ¬ (a = i ∧ a < ms.length) := fun h => e h.1.symm
    rw [if_neg e, if_neg e']
theorem Row.us {w : World} {b B : Nat} {ms : List Nat} (h : Row w b ms) (hb : b < B) : Us w B (some ⟨b, 0, none⟩) ms := by
  refine .inr ⟨b, 0, rfl, hb, fun i hi => ?_⟩
  rw [Nat.zero_add, World.rowIs.cell h hi]
  unfold rowV mask
  rw [getD_at hi]

/-- a slice of pairs -/
def Ps (w : World) (B : Nat) (p : Option Addr) (ps : List (Int × Int)) : Prop :=
  ps = [] ∨ ∃ b off, p = some ⟨b, off, none⟩ ∧ b < B ∧ ∀ i (h : i < ps.length), w.cell? ⟨b, off + i * 2, none⟩ = some (.int .i64 ps[i].1) ∧ w.cell? ⟨b, off + i * 2 + 1, none⟩ = some (.int .i64 ps[i].2)
theorem Ps.at {w : World} {B : Nat} {p : Option Addr} {ps : List (Int × Int)} (h : Ps w B p ps) (k : Nat) (hk : k < ps.length) : ∃ b off, p = some ⟨b, off, none⟩ ∧ b < B ∧ w.cell? ⟨b, off + k * 2, none⟩ = some (.int .i64 ps[k].1) ∧ w.cell? ⟨b, off + k * 2 + 1, none⟩ = some (.int .i64 ps[k].2) := by
  rcases h with h | ⟨b, off, rfl, hl, hc⟩
  · subst h; simp at hk
  · exact ⟨b, off, rfl, hl, (hc k hk).1, (hc k hk).2⟩
theorem Ps.below {w w' : World} {B : Nat} {p : Option Addr} {ps : List (Int × Int)} (h : Ps w B p ps) {B' : Nat} (hb : Below B' w w') (hB : B ≤ B') : Ps w' B p ps := by
  rcases h with h | ⟨b, off, rfl, hl, hc⟩
  · exact .inl h
  · refine .inr ⟨b, off, rfl, hl, fun i hi => ?_⟩
    rw [hb.cell (p := ⟨b, off + i * 2, none⟩) (Nat.lt_of_lt_of_le hl hB), hb.cell (p := ⟨b, off + i * 2 + 1, none⟩) (Nat.lt_of_lt_of_le hl hB)]
    exact hc i hi
theorem Ps.up {w : World} {B B' : Nat} {p : Option Addr} {ps : List (Int × Int)} (h : Ps w B p ps) (hB : B ≤ B') : Ps w B' p ps :=
  h.imp id (fun ⟨b, o, h1, h2, h3⟩ => ⟨b, o, h1, Nat.lt_of_lt_of_le h2 hB, h3⟩)
def ups (ps : List (Nat × Nat)) : List (Int × Int) := ps.map fun p => ((p.1 : Int), (p.2 : Int))

/-- the first k rows are laid -/
def startM (n k : Nat) : List Nat := idM k ++ List.replicate (n - k) 0
theorem startM_len (n k : Nat) (h : k ≤ n) : (startM n k).length = n := by unfold startM; rw [List.length_append, idM_len, List.length_replicate]; omega
theorem startM_end (n : Nat) : startM n n = idM n := by unfold startM; simp
theorem startM_succ (n k : Nat) (h : k < n) : (startM n k).set k (2 ^ k) = startM n (k + 1) := by
  unfold startM
  rw [show n - k = (n - (k + 1)) + 1 by omega, List.replicate_succ, List.set_append_right _ _ (by rw [idM_len]; omega), idM_len, Nat.sub_self, List.set_cons_zero]
  unfold idM
  rw [List.range_succ, List.map_append]; simp

set_option maxRecDepth 100000 in
set_option maxHeartbeats 4000000 in
theorem closed_any (n : Nat) (ps : List (Nat × Nat)) (p : Option Addr) (c : Nat) (w : World) (h1 : 1 ≤ n) (hn : n ≤ 64) (hin : ∀ q ∈ ps, q.1 < n ∧ q.2 < n) (hz : ps.length ≤ maxLen) (hp : Ps w w.heap.size p (ups ps)) :
    Calls Tryd.prog 31 #[.int .i64 n, .slice p ps.length c] w fun e W' => e = .returned (.slice (some ⟨w.heap.size, 0, none⟩) n n) ∧ Row W' w.heap.size (closedM n ps) ∧ Below w.heap.size w W' := by
  have hmk := run_make_row' (P := Tryd.prog) 24 36 (.int .u64 0) 8 Tryd.und24p Tryd.info36p rfl .i64 .i64 n (by omega) (by omega)
  have HPS := Lib.hid hp
  have HIN := Lib.hid hin
  have HCL := Lib.hid (show closedM n ps = passK n (addPs (idM n) ps) n from rfl)
  unfold maxLen at hz
  clear hp hin
  go_enter Tryd.func31, Tryd.ntmps31
  go_wp2_with fail
  have R0 : Row (w.alloc (.cells (madeCells #[.int .u64 0] n) 36)) w.heap.size (startM n 0) := by
    have h := World.rowIs_made w (.int .u64 0) n 36
    unfold Row
    rw [startM_len n 0 (by omega)]
    refine h.congr fun i hi => ?_
    unfold rowV startM idM
    simp [hi]
  have B0 : Below w.heap.size w (w.alloc (.cells (madeCells #[.int .u64 0] n) 36)) := (Below.refl _ w).alloc (Nat.le_refl _) _
  clear hmk
  go_loopw [14] (fun i wr => ∃ k : Nat, k ≤ n ∧ i = .int .i64 k ∧ Hid (Row wr w.heap.size (startM n k)) ∧ Below w.heap.size w wr) (fun i _ => n - (intOf i).toNat)
  case atStart => exact ⟨0, Nat.zero_le _, rfl, Lib.hid R0, B0⟩
  case round =>
    clear R0 B0
    obtain ⟨k, hk, rfl, HR, hb⟩ := hrel
    have HB := Lib.hid hb
    clear hb
    by_cases hlt : k < n
    · have hc : wr.cell? ⟨w.heap.size, k, none⟩ = some (rowV (startM n k) k) := World.rowIs.cell HR.out (by rw [startM_len n k hk]; exact hlt)
      have hf : wr.frozen? ⟨w.heap.size, k, none⟩ = false := World.rowIs.frozen HR.out k
      have HBI := Lib.hid (fun wx => bit_val k (by omega) wx)
      have HST := Lib.hid (startM_succ n k hlt)
      have HL := Lib.hid (startM_len n k hk)
      generalize rowV (startM n k) k = vv at hc
      generalize 2 ^ k = pk at *
      go_wp2_with (go_at_call 37; refine (HBI.out _).mono ?_; rintro e w' ⟨rfl, rfl⟩)
      go_roundw
      case rel => exact ⟨k + 1, by omega, by go_num, Lib.hid (by rw [← HST.out]; exact HR.out.set k pk (by rw [HL.out]; exact hlt)), HB.out.setCell (p := ⟨w.heap.size, k, none⟩) (Nat.le_refl _) _⟩
      case measure => simp [intOf]; omega
    · obtain rfl : k = n := by omega
      have HR1 := Lib.hid (show Row wr w.heap.size (addPs (idM k) (ps.take 0)) from by have := HR.out; rw [startM_end] at this; exact this)
      clear HR
      go_wp2_with fail
      obtain ⟨wo, rfl⟩ : ∃ wo : World, wo = wr := ⟨_, rfl⟩
      have HL0 := Lib.hid (show (addPs (idM k) ps).length = k by rw [addPs_len, idM_len])
      go_loopw [25] (fun i wr => ∃ j : Nat, j ≤ ps.length ∧ i = .int .i64 j ∧ Hid (Row wr w.heap.size (addPs (idM k) (ps.take j))) ∧ Below w.heap.size w wr) (fun i _ => ps.length - (intOf i).toNat)
      case atStart => exact ⟨0, Nat.zero_le _, rfl, HR1, HB.out⟩
      case round =>
        clear HR1 HB
        obtain ⟨j, hj, rfl, HR, hb⟩ := hrel
        have HB := Lib.hid hb
        clear hb
        by_cases hlt : j < ps.length
        · obtain ⟨b, off, rfl, hbl, x0, x1⟩ := (HPS.out.below HB.out (Nat.le_refl _)).at j (by unfold ups; simpa using hlt)
          have hin := HIN.out ps[j] (List.getElem_mem hlt)
          simp only [ups, List.getElem_map] at x0 x1
          have HTK := Lib.hid (show addPs (idM k) (ps.take (j + 1)) = addP (addPs (idM k) (ps.take j)) ps[j] by
            rw [List.take_succ_eq_append_getElem hlt, addPs_snoc])
          have HLM := Lib.hid (show (addPs (idM k) (ps.take j)).length = k by rw [addPs_len, idM_len])
          have hXs := small_getD (small_addPs (ps.take j) (idM k) (small_idM hn) (fun q hq => by have := HIN.out q (List.mem_of_mem_take hq); omega)) ps[j].1
          generalize addPs (idM k) (ps.take j) = M at *
          generalize hq : ps[j] = q at *
          obtain ⟨q1, q2⟩ := q
          obtain ⟨hq1, hq2⟩ := hin
          have hrc := World.rowIs.cell (show wr.rowIs w.heap.size 36 M.length (rowV M) from HR.out) (i := q1) (by rw [HLM.out]; exact hq1)
          have hrf := World.rowIs.frozen (show wr.rowIs w.heap.size 36 M.length (rowV M) from HR.out) q1
          unfold rowV at hrc
          have hpow := pow_lt64 (a := q2) (by omega)
          have HSTEP := Lib.hid (show addP M (q1, q2) = M.set q1 (M.getD q1 0 ||| 2 ^ q2) from rfl)
          dsimp only at hXs
          have hor := bits_or_u64_nat (M.getD q1 0) (2 ^ q2) hXs hpow
          have HBI := Lib.hid (fun wx => bit_any q2 (by omega) wx)
          unfold mask at HBI
          generalize 2 ^ q2 = pw at *
          generalize M.getD q1 0 = X at *
          have d0 := cellOn (.cells #[.int .i64 q1, .int .i64 q2] 44) hrc
          have df := (frozen_kept hrc (World.grownBy_alloc wr (.cells #[.int .i64 q1, .int .i64 q2] 44) none) (fun r e => by cases e)).trans hrf
          have d1 : (wr.alloc (.cells #[.int .i64 q1, .int .i64 q2] 44)).cell? ⟨wr.heap.size, 0, none⟩ = some (.int .i64 q1) := by simp [go_sem]
          have d2 : (wr.alloc (.cells #[.int .i64 q1, .int .i64 q2] 44)).cell? ⟨wr.heap.size, 1, none⟩ = some (.int .i64 q2) := by simp [go_sem]
          have hmx : Tryd.prog.follows .mixedOrders = true := by kernel_rfl
          have i1 : (0 : Int) ≤ (q1 : Int) := by omega
          have i2 : (q1 : Int) < (k : Int) := by omega
          have HRA := Lib.hid (show Row (wr.alloc (.cells #[.int .i64 q1, .int .i64 q2] 44)) w.heap.size M from World.rowIs.alloc HR.out _)
          have HBA := Lib.hid (HB.out.alloc HB.out.size (.cells #[.int .i64 q1, .int .i64 q2] 44))
          clear hq hrc hrf
          go_wp2_with fail
          generalize wr.alloc (.cells #[.int .i64 q1, .int .i64 q2] 44) = WA at *
          have e0 : WA.drew.cell? ⟨w.heap.size, q1, none⟩ = some (.int .u64 X) := by simpa [go_sem] using d0
          have ef : WA.drew.frozen? ⟨w.heap.size, q1, none⟩ = false := by simpa [go_sem] using df
          have e1 : WA.drew.cell? ⟨wr.heap.size, 0, none⟩ = some (.int .i64 q1) := by simpa [go_sem] using d1
          have e2 : WA.drew.cell? ⟨wr.heap.size, 1, none⟩ = some (.int .i64 q2) := by simpa [go_sem] using d2
          have HRD := Lib.hid (show Row WA.drew w.heap.size M from HRA.out)
          have HBD := Lib.hid HBA.out.drew
          clear d0 df d1 d2
          refine wp_region_still_tail 10 hmx (by kernel_rfl) ?_
          simp only [List.take_succ_cons, List.take_zero, List.drop_succ_cons, List.drop_zero]
          change wpStill _ _ WA.drew _ _ _
          change wpStill _ _ _ (fun a' => wpList _ _ _ _ a' WA.drew) _ _
          generalize WA.drew = WD at *
          repeat (first | still_step | (still_call (HBI.out _)))
          refine wpStill_nil ?_
          go_wp2_with fail
          go_roundw
          case rel => exact ⟨j + 1, by omega, by go_num, Lib.hid (by rw [HTK.out, HSTEP.out]; exact HRD.out.set q1 _ (by rw [HLM.out]; exact hq1)), HBD.out.setCell (p := ⟨w.heap.size, q1, none⟩) (Nat.le_refl _) _⟩
          case measure => simp [intOf]; omega
        · have HR2 := Lib.hid (show Row wr w.heap.size (passK k (addPs (idM k) ps) 0) from by
            have h := HR.out
            rw [List.take_of_length_le (by omega)] at h; exact h)
          have HS0 := Lib.hid (small_addPs ps (idM k) (small_idM hn) (fun q hq => by have := HIN.out q hq; omega))
          generalize addPs (idM k) ps = M0 at *
          clear HR
          go_wp2_with fail
          obtain ⟨wo, rfl⟩ : ∃ wo : World, wo = wr := ⟨_, rfl⟩
          go_loopw [41] (fun i wr => ∃ j : Nat, j ≤ k ∧ i = .int .i64 j ∧ Hid (Row wr w.heap.size (passK k M0 j)) ∧ Below w.heap.size w wr) (fun i _ => k - (intOf i).toNat)
          case atStart => exact ⟨0, Nat.zero_le _, rfl, HR2, HB.out⟩
          case round =>
            clear HR2 HB
            obtain ⟨j2, hj2, rfl, HR, hb⟩ := hrel
            have HB := Lib.hid hb
            clear hb
            by_cases hlt2 : j2 < k
            · have HSP := Lib.hid (small_passK k HS0.out j2)
              have HLP := Lib.hid (show (passK k M0 j2).length = k by rw [passK_len]; exact HL0.out)
              have HPS2 := Lib.hid (passK_succ k M0 j2)
              generalize passK k M0 j2 = M1 at *
              have HRJ := Lib.hid (show Row wr w.heap.size (joinK j2 M1 0) from HR.out)
              clear HR
              go_wp2_with fail
              obtain ⟨wi, rfl⟩ : ∃ wi : World, wi = wr := ⟨_, rfl⟩
              go_loopw [45] (fun i wr => ∃ m : Nat, m ≤ k ∧ i = .int .i64 m ∧ Hid (Row wr w.heap.size (joinK j2 M1 m)) ∧ Below w.heap.size w wr) (fun i _ => k - (intOf i).toNat)
              case atStart => exact ⟨0, Nat.zero_le _, rfl, HRJ, HB.out⟩
              case round =>
                clear HRJ HB
                obtain ⟨m, hm, rfl, HR, hb⟩ := hrel
                have HB := Lib.hid hb
                clear hb
                by_cases hlt3 : m < k
                · have HLQ := Lib.hid (show (joinK j2 M1 m).length = k by rw [joinK_len]; exact HLP.out)
                  have hsq := small_joinK HSP.out j2 m
                  have HJS := Lib.hid (joinK_succ j2 M1 m)
                  generalize joinK j2 M1 m = M2 at *
                  have hx := small_getD hsq m
                  have hy := small_getD hsq j2
                  have hrm := World.rowIs.cell (show wr.rowIs w.heap.size 36 M2.length (rowV M2) from HR.out) (i := m) (by rw [HLQ.out]; exact hlt3)
                  have hrj := World.rowIs.cell (show wr.rowIs w.heap.size 36 M2.length (rowV M2) from HR.out) (i := j2) (by rw [HLQ.out]; exact hlt2)
                  have hrf := World.rowIs.frozen (show wr.rowIs w.heap.size 36 M2.length (rowV M2) from HR.out) m
                  unfold rowV at hrm hrj
                  have hor := bits_or_u64_nat (M2.getD m 0) (M2.getD j2 0) hx hy
                  have HH := Lib.hid (fun wx => (has_any (M2.getD m 0) j2 hx (by omega) wx).mono (fun e w' h => (⟨h.1, h.2.symm⟩ : e = .returned (.bool ((M2.getD m 0).testBit j2)) ∧ wx = w')))
                  unfold mask at HH
                  have hjA : joinA j2 M2 m = if (M2.getD m 0).testBit j2 = true then M2.set m (M2.getD m 0 ||| M2.getD j2 0) else M2 := rfl
                  clear hsq
                  generalize M2.getD j2 0 = Y at *
                  generalize M2.getD m 0 = X at *
                  have i1 : (0 : Int) ≤ (m : Int) := by omega
                  have i2 : (m : Int) < (k : Int) := by omega
                  have i3 : (0 : Int) ≤ (j2 : Int) := by omega
                  have i4 : (j2 : Int) < (k : Int) := by omega
                  cases ht : X.testBit j2 with
                  | true =>
                    rw [ht] at HH hjA
                    rw [if_pos rfl] at hjA
                    have HJA := Lib.hid hjA
                    have hmx : Tryd.prog.follows .mixedOrders = true := by kernel_rfl
                    clear ht hjA
                    go_wp2_with (go_at_call 33; refine (HH.out _).mono ?_; rintro e w' ⟨rfl, rfl⟩)
                    have e0 : wr.drew.cell? ⟨w.heap.size, m, none⟩ = some (.int .u64 X) := by simpa [go_sem] using hrm
                    have ef : wr.drew.frozen? ⟨w.heap.size, m, none⟩ = false := by simpa [go_sem] using hrf
                    have e1 : wr.drew.cell? ⟨w.heap.size, j2, none⟩ = some (.int .u64 Y) := by simpa [go_sem] using hrj
                    have HRD := Lib.hid (show Row wr.drew w.heap.size M2 from HR.out)
                    have HBD := Lib.hid HB.out.drew
                    clear hrm hrf hrj
                    refine wp_region_still_tail 10 hmx (by kernel_rfl) ?_
                    simp only [List.take_succ_cons, List.take_zero, List.drop_succ_cons, List.drop_zero]
                    change wpStill _ _ wr.drew _ _ _
                    change wpStill _ _ _ (fun a' => wpList _ _ _ _ a' wr.drew) _ _
                    generalize wr.drew = WD at *
                    repeat still_step
                    refine wpStill_nil ?_
                    go_wp2_with fail
                    go_roundw
                    case rel => exact ⟨m + 1, by omega, by go_num, Lib.hid (by rw [HJS.out, HJA.out]; exact HRD.out.set m _ (by rw [HLQ.out]; exact hlt3)), HBD.out.setCell (p := ⟨w.heap.size, m, none⟩) (Nat.le_refl _) _⟩
                    case measure => simp [intOf]; omega
                  | false =>
                    rw [ht] at HH hjA
                    rw [if_neg (by decide)] at hjA
                    have HJA := Lib.hid hjA
                    clear ht hjA
                    go_wp2_with (go_at_call 33; refine (HH.out _).mono ?_; rintro e w' ⟨rfl, rfl⟩)
                    go_roundw
                    case rel => exact ⟨m + 1, by omega, by go_num, Lib.hid (by rw [HJS.out, HJA.out]; exact HR.out), HB.out⟩
                    case measure => simp [intOf]; omega
                · obtain rfl : m = k := by omega
                  have HRE := Lib.hid (show Row wr w.heap.size (passK m M0 (j2 + 1)) from by rw [HPS2.out]; exact HR.out)
                  clear HR
                  go_wp2_with fail
                  go_roundw
                  case rel => exact ⟨j2 + 1, by omega, by go_num, HRE, HB.out⟩
                  case measure => simp [intOf]; omega
            · obtain rfl : j2 = k := by omega
              go_wp2_with fail
              go_ret
              exact ⟨rfl, by rw [HCL.out]; exact HR.out, HB.out⟩
end Go.Proofs.YtkgcloggnnjioaaDoor
