/-
  Contract of the plain answer: mandateref04.Build.
-/
import Derived.Test.YtkgcloggnnjioaaDoorRefA
import Derived.Test.YtkgcloggnnjioaaDoorBuild
import Derived.RangeFuncBox
import Derived.Laws.OwnMore
import Derived.Deep.LoopGhost
namespace Go.Proofs.YtkgcloggnnjioaaDoor
open Go.RowKit

/-- masks as cells -/
def cellsM (ms : List Nat) : List Value := ms.map fun m => .int .u64 (m : Nat)
def OwnM (w : World) (base g n cap : Nat) (ms : List Nat) : Prop := ms.length = n ∧ w.ownsRow base 36 1 (.slice (some ⟨g, 0, none⟩) n cap) n (cellsM ms)
theorem OwnM.cell {w : World} {base g n cap : Nat} {ms : List Nat} (h : OwnM w base g n cap ms) {i : Nat} (hi : i < n) : w.cell? ⟨g, i, none⟩ = some (.int .u64 (ms.getD i 0 : Nat)) := by
  have hi' : i < ms.length := by rw [h.1]; exact hi
  rw [World.ownsRow.cellAt h.2 i (by omega), getD_at hi']
  unfold cellsM
  rw [List.getElem?_map, List.getElem?_eq_getElem hi']; rfl
theorem OwnM.frozen {w : World} {base g n cap : Nat} {ms : List Nat} (h : OwnM w base g n cap ms) (i : Nat) : w.frozen? ⟨g, i, none⟩ = false := World.ownsRow.frozenAt h.2 i
theorem OwnM.set {w : World} {base g n cap : Nat} {ms : List Nat} (h : OwnM w base g n cap ms) (a v : Nat) : OwnM (w.setCell ⟨g, a, none⟩ (.int .u64 v)) base g n cap (ms.set a v) := by
  refine ⟨by rw [List.length_set]; exact h.1, ?_⟩
  have := (World.ownsRow.stored h.2 a (.int .u64 v)).1
  unfold cellsM at *
  rwa [List.map_set]
theorem OwnM.drew {w : World} {base g n cap : Nat} {ms : List Nat} (h : OwnM w base g n cap ms) : OwnM w.drew base g n cap ms := ⟨h.1, World.ownsRow.drew h.2⟩
theorem OwnM.base {w : World} {base g n cap : Nat} {ms : List Nat} (h : OwnM w base g n cap ms) : base ≤ g ∧ g < w.heap.size := World.ownsRow.lt h.2 g rfl
theorem OwnM.us {w : World} {base g n cap : Nat} {ms : List Nat} (h : OwnM w base g n cap ms) {B : Nat} (hB : g < B) : Us w B (some ⟨g, 0, none⟩) ms := by
  refine .inr ⟨g, 0, rfl, hB, fun i hi => ?_⟩
  rw [Nat.zero_add, h.cell (by rw [← h.1]; exact hi), getD_at hi]; rfl

/-- a round of the closure: what was seen, and whether something was added -/
def QM (m0 ms : List Nat) (ag : Bool) (V : Nat → Nat → Nat → Prop) : Prop :=
  (ag = false → ms = m0 ∧ ∀ x y z, V x y z → has m0 x y → has m0 y z → has m0 x z) ∧ (ag = true → mass m0 < mass ms)
theorem QM.mono {m0 ms : List Nat} {ag : Bool} {V V' : Nat → Nat → Nat → Prop} (h : QM m0 ms ag V) (hv : ∀ x y z, V' x y z → V x y z) : QM m0 ms ag V' :=
  ⟨fun e => ⟨(h.1 e).1, fun x y z hh => (h.1 e).2 x y z (hv x y z hh)⟩, h.2⟩
theorem QM.same {m0 ms : List Nat} {ag : Bool} {V V' : Nat → Nat → Nat → Prop} (h : QM m0 ms ag V) {a b c : Nat} (hv : ∀ x y z, V' x y z → V x y z ∨ (x = a ∧ y = b ∧ z = c)) (ht : has ms a b → has ms b c → has ms a c) : QM m0 ms ag V' := by
  refine ⟨fun e => ⟨(h.1 e).1, fun x y z hh => ?_⟩, h.2⟩
  rcases hv x y z hh with h1 | ⟨rfl, rfl, rfl⟩
  · exact (h.1 e).2 x y z h1
  · rw [(h.1 e).1] at ht; exact ht
theorem QM.more {m0 ms : List Nat} {ag : Bool} {V V' : Nat → Nat → Nat → Prop} (h : QM m0 ms ag V) {a c : Nat} (ha : a < ms.length) (hc : c < 64) (hn : ¬ has ms a c) : QM m0 (orAt ms a (2 ^ c)) true V' := by
  refine ⟨fun e => (by cases e), fun _ => ?_⟩
  have h1 := mass_more ha hc hn
  cases ag with
  | true => exact Nat.lt_trans (h.2 rfl) h1
  | false => rw [(h.1 rfl).1] at h1 ⊢; exact h1
/-- those of three loops that are done -/
def Vc (n a b c : Nat) (x y z : Nat) : Prop := (x < a ∧ y < n ∧ z < n) ∨ (x = a ∧ y < b ∧ z < n) ∨ (x = a ∧ y = b ∧ z < c)
structure RQ (n : Nat) (ps : List (Nat × Nat)) (m0 : List Nat) (w0 : World) (g cap a b c : Nat) (ms : List Nat) (ag : Bool) (wr : World) : Prop where
  mid : Mid n ps ms
  q : QM m0 ms ag (Vc n a b c)
  own : OwnM wr w0.heap.size g n cap ms
  below : Below w0.heap.size w0 wr
theorem RQ.next {n : Nat} {ps : List (Nat × Nat)} {m0 : List Nat} {w0 : World} {g cap a b c a' b' c' : Nat} {ms : List Nat} {ag : Bool} {wr : World} (h : RQ n ps m0 w0 g cap a b c ms ag wr) (hv : ∀ x y z, Vc n a' b' c' x y z → Vc n a b c x y z) : RQ n ps m0 w0 g cap a' b' c' ms ag wr :=
  ⟨h.mid, h.q.mono hv, h.own, h.below⟩
theorem RQ.same {n : Nat} {ps : List (Nat × Nat)} {m0 : List Nat} {w0 : World} {g cap a b c : Nat} {ms : List Nat} {ag : Bool} {wr : World} (h : RQ n ps m0 w0 g cap a b c ms ag wr) (ht : has ms a b → has ms b c → has ms a c) : RQ n ps m0 w0 g cap a b (c + 1) ms ag wr :=
  ⟨h.mid, h.q.same (a := a) (b := b) (c := c) (fun x y z hh => by unfold Vc at *; omega) ht, h.own, h.below⟩
theorem RQ.more {n : Nat} (hn : n ≤ 64) {ps : List (Nat × Nat)} (hp : ∀ p ∈ ps, p.1 < n ∧ p.2 < n) {m0 : List Nat} {w0 : World} {g cap a b c : Nat} {ms : List Nat} {ag : Bool} {wr : World} (h : RQ n ps m0 w0 g cap a b c ms ag wr) (ha : a < n) (hc : c < n) (h1 : has ms a b) (h2 : has ms b c) (h3 : ¬ has ms a c) :
    RQ n ps m0 w0 g cap a b (c + 1) (orAt ms a (2 ^ c)) true (wr.setCell ⟨g, a, none⟩ (.int .u64 (ms.getD a 0 ||| 2 ^ c : Nat))) :=
  ⟨mid_step hn hp h.mid h1 h2, h.q.more (by rw [h.own.1]; exact ha) (by omega) h3, h.own.set a _, h.below.setCell (p := ⟨g, a, none⟩) h.own.base.1 _⟩

theorem Set_zero (a : Nat) (h : a < 64) (w : World) : Calls Tryd.prog 32 #[.int .u64 0, .int .i64 a] w fun e w' => e = .returned (.int .u64 ((2 ^ a : Nat) : Int)) ∧ w = w' :=
  (Set_ref 0 a (by decide) h w).mono fun e w' h => ⟨by rw [h.1, Nat.zero_or], h.2⟩

set_option maxRecDepth 100000 in
set_option maxHeartbeats 4000000 in
theorem rbuild_n (n : Int) (ps : List (Int × Int)) (p : Option Addr) (c : Nat) (w : World) (h : n < 1 ∨ 64 < n) :
    Calls Tryd.prog 13 #[.int .i64 n, .slice p ps.length c] w fun e W' => e = .returned (.tuple #[.slice none 0 0, .int .i64 1]) ∧ Below w.heap.size w W' := by
  rcases h with h | h
  · go_enter Tryd.func13, Tryd.ntmps13
    go_wp2
    go_ret2
    exact ⟨rfl, Below.refl _ _⟩
  · have h1 : ¬ n < 1 := by omega
    go_enter Tryd.func13, Tryd.ntmps13
    go_wp2
    go_ret2
    exact ⟨rfl, Below.refl _ _⟩

/-- what the plain Build answers -/
def RBuildP (n : Nat) (ps : List (Int × Int)) (w : World) (e : Ending) (W' : World) : Prop :=
  ((okPs n ps = false ∧ e = .returned (.tuple #[.slice none 0 0, .int .i64 1])) ∨
   (okPs n ps = true ∧ OrdM (closedM n (natP ps)) ∧ ∃ g cap, e = .returned (.tuple #[.slice (some ⟨g, 0, none⟩) n cap, .int .i64 0]) ∧ OwnM W' w.heap.size g n cap (closedM n (natP ps))) ∨
   (okPs n ps = true ∧ ¬ OrdM (closedM n (natP ps)) ∧ e = .returned (.tuple #[.slice none 0 0, .int .i64 9]))) ∧ Below w.heap.size w W'

set_option maxRecDepth 100000 in
set_option maxHeartbeats 16000000 in
theorem rbuild_in (n : Nat) (ps : List (Int × Int)) (p : Option Addr) (c : Nat) (w : World) (h1 : 1 ≤ n) (hn : n ≤ 64) (hz : ps.length ≤ maxLen) (hp : Ps w w.heap.size p ps) :
    Calls Tryd.prog 13 #[.int .i64 n, .slice p ps.length c] w (RBuildP n ps w) := by
  have HPS := Lib.hid hp
  unfold maxLen at hz
  clear hp
  have g1 : ¬ (n : Int) < 1 := by omega
  have g2 : ¬ (64 : Int) < (n : Int) := by omega
  obtain ⟨i0, hi, hz0, hz1, hz2⟩ := info_parts Tryd.info36p
  go_enter Tryd.func13, Tryd.ntmps13
  go_wp2_with fail
  go_loopw [6, 7] (fun o v wr => ∃ k : Nat, k ≤ n ∧ v = .int .i64 k ∧ Hid (wr.ownsRow w.heap.size 36 1 o k (cellsM (idM k))) ∧ Below w.heap.size w wr) (fun _ v _ => n - (intOf v).toNat)
  case atStart => exact ⟨0, Nat.zero_le _, rfl, Lib.hid (World.ownsRow_nil _ _ _ _), Below.refl _ _⟩
  case round =>
    obtain ⟨k, hk, rfl, HOW, hb⟩ := hrel
    have HB := Lib.hid hb
    clear hb
    by_cases hlt : k < n
    · have HS := Lib.hid (fun wx => Set_zero k (by omega) wx)
      have HID := Lib.hid (show cellsM (idM (k + 1)) = cellsM (idM k) ++ [.int .u64 ((2 ^ k : Nat) : Int)] by unfold cellsM idM; rw [List.range_succ, List.map_append, List.map_append]; rfl)
      generalize 2 ^ k = pk at *
      have HS1 := Lib.hid (show ∀ (j : Nat) (u : Value), [Value.int .u64 pk][j]? = some u → (wr.alloc (.cells #[.int .u64 pk] 36)).cell? ((⟨wr.heap.size, 0, none⟩ : Addr).add j) = some u from fun j u hj => by
        match j, hj with
        | 0, hj => simp at hj; subst hj; simp [go_sem, Addr.add])
      have HS2 := Lib.hid (show ∀ u ∈ [Value.int .u64 pk], u.oneCell' = true from fun u hu => by simp at hu; subst hu; rfl)
      have S3 := Lib.hid (show k + 1 ≤ maxLen by unfold maxLen; omega)
      have S4 := Lib.hid (show (k + 1) * 8 ≤ 140737488355328 by omega)
      have S5 := Lib.hid (show w.heap.size ≤ (wr.alloc (.cells #[.int .u64 pk] 36)).heap.size by have := HB.out.size; simp; omega)
      go_wp2_with (first
        | (go_at_call 32; refine (HS.out _).mono ?_; rintro e w' ⟨rfl, rfl⟩)
        | (at_builtin; refine wpList_append_own _ rfl (.tmp 25) (.tmp 28) 24 rfl w.heap.size 36 i0 (.int .u64 0) 1 8 Tryd.und24p hi hz0 hz1 hz2 rfl (by decide) _ _ _ rfl (HOW.out.alloc _) ⟨wr.heap.size, 0, none⟩ 1 1 [.int .u64 pk] rfl rfl HS1.out HS2.out S3.out S4.out S5.out ?_))
      intro v' w1 hown' hgrow _
      have HOW2 := Lib.hid (show w1.ownsRow w.heap.size 36 1 v' (k + 1) (cellsM (idM (k + 1))) from by rw [HID.out]; exact hown')
      have HB2 := Lib.hid ((HB.out.alloc HB.out.size (.cells #[.int .u64 pk] 36)).grown hgrow (by have := HB.out.size; simp; omega) (fun k e => (HOW.out.lt k e).1))
      clear hown' hgrow
      go_wp2_with fail
      go_roundw
      case rel => exact ⟨k + 1, by omega, by go_num, HOW2, HB2.out⟩
      case measure => simp [intOf]; omega
    · obtain rfl : k = n := by omega
      obtain ⟨n', rfl⟩ : ∃ n', k = n' + 1 := ⟨k - 1, by omega⟩
      obtain ⟨g, cap, rfl⟩ := ownsRow_succ HOW.out
      generalize n' + 1 = n at *
      have HOM := Lib.hid (show OwnM wr w.heap.size g n cap (idM n) from ⟨idM_len n, HOW.out⟩)
      have HPW := Lib.hid (HPS.out.below HB.out (Nat.le_refl _))
      clear HOW
      go_wp2_with fail
      go_loop [8] (fun v => ∃ j : Nat, j ≤ ps.length ∧ v = .int .i64 j ∧ Hid (okPs n (ps.take j) = true)) (fun v => ps.length - (intOf v).toNat)
      case atStart => exact ⟨0, Nat.zero_le _, rfl, Lib.hid rfl⟩
      case round =>
        obtain ⟨j, hj, rfl, HOK⟩ := hrel
        by_cases hlt : j < ps.length
        · obtain ⟨b, off, rfl, hbl, x0, x1⟩ := HPW.out.at j hlt
          have HALL := Lib.hid (show okPs n ps = true → okP n ps[j] = true from fun h => List.all_eq_true.1 h _ (List.getElem_mem hlt))
          have HSN := Lib.hid (show okP n ps[j] = true → okPs n (ps.take (j + 1)) = true from fun h => by
            rw [List.take_succ_eq_append_getElem hlt]
            have := HOK.out
            unfold okPs at this ⊢
            rw [List.all_append, this]
            simp [h])
          have HPI := Lib.hid (okP_iff n ps[j])
          generalize ps[j] = q at *
          obtain ⟨q1, q2⟩ := q
          dsimp only at x0 x1 HPI
          have hway : ((q1 < 0) ∨ (¬ q1 < 0 ∧ (n : Int) ≤ q1) ∨ (¬ q1 < 0 ∧ ¬ (n : Int) ≤ q1 ∧ q2 < 0) ∨ (¬ q1 < 0 ∧ ¬ (n : Int) ≤ q1 ∧ ¬ q2 < 0 ∧ (n : Int) ≤ q2)) ∨ (¬ q1 < 0 ∧ ¬ (n : Int) ≤ q1 ∧ ¬ q2 < 0 ∧ ¬ (n : Int) ≤ q2) := by omega
          rcases hway with hbad | ⟨e1, e2, e3, e4⟩
          · have HBAD := Lib.hid (show okPs n ps = false by
              rw [Bool.eq_false_iff]; intro ht; have := HPI.out.1 (HALL.out ht); omega)
            rcases hbad with e1 | ⟨e1, e2⟩ | ⟨e1, e2, e3⟩ | ⟨e1, e2, e3, e4⟩
            all_goals
              go_wp2_with fail
              go_ret2
              exact ⟨.inl ⟨HBAD.out, rfl⟩, HB.out⟩
          · have HOK2 := Lib.hid (HSN.out (HPI.out.2 (by omega)))
            have f1 : 0 ≤ q1 := by omega
            have f2 : q1 < (n : Int) := by omega
            have f3 : 0 ≤ q2 := by omega
            have f4 : q2 < (n : Int) := by omega
            have d1 : decide (q1 < 0) = false := by simpa using e1
            have d2 : decide ((n : Int) ≤ q1) = false := by simpa using e2
            have d3 : decide (q2 < 0) = false := by simpa using e3
            have d4 : decide ((n : Int) ≤ q2) = false := by simpa using e4
            clear e1 e2 e3 e4
            go_wp2_with fail
            go_round
            case rel => exact ⟨j + 1, by omega, by go_num, HOK2⟩
            case measure => simp [intOf]; omega
        · have hok : okPs n ps = true := by have := HOK.out; rw [List.take_of_length_le (by omega)] at this; exact this
          have HOKA := Lib.hid hok
          have HIN := Lib.hid (natP_lt hok)
          have HUPS := Lib.hid (ups_natP hok)
          have HPU := Lib.hid (show Ps wr w.heap.size p (ups (natP ps)) from by rw [HUPS.out]; exact HPW.out)
          have hql : (natP ps).length = ps.length := natP_len ps
          clear hok HUPS HPW
          generalize hNP : natP ps = qs at *
          have HNP := Lib.hid hNP
          clear hNP
          go_wp2_with fail
          go_loopw [9] (fun v wr => ∃ j : Nat, j ≤ ps.length ∧ v = .int .i64 j ∧ Hid (OwnM wr w.heap.size g n cap (addPs (idM n) (qs.take j))) ∧ Below w.heap.size w wr) (fun v _ => ps.length - (intOf v).toNat)
          case atStart => exact ⟨0, Nat.zero_le _, rfl, HOM, HB.out⟩
          case round =>
            have HPU0 := HPU
            clear HOM
            have HBO := HB
            clear HPU HB
            obtain ⟨j, hj, rfl, HR, hb⟩ := hrel
            have HB := Lib.hid hb
            clear hb
            by_cases hlt : j < ps.length
            · have hltq : j < qs.length := by omega
              have HPU := Lib.hid (show Ps wr w.heap.size p (ups qs) from by
                have h0 := HPS.out
                rcases HPU0.out with h | ⟨b, off, e, hl, hc⟩
                · exact .inl h
                · refine .inr ⟨b, off, e, hl, fun i hi => ?_⟩
                  have h1 := hc i hi
                  have a1 := HBO.out.cell (p := ⟨b, off + i * 2, none⟩) hl
                  have a2 := HBO.out.cell (p := ⟨b, off + i * 2 + 1, none⟩) hl
                  rw [HB.out.cell (p := ⟨b, off + i * 2, none⟩) hl, HB.out.cell (p := ⟨b, off + i * 2 + 1, none⟩) hl, ← a1, ← a2]
                  exact h1)
              obtain ⟨b, off, rfl, hbl, x0, x1⟩ := HPU.out.at j (by unfold ups; simpa using hltq)
              have hin := HIN.out qs[j] (List.getElem_mem hltq)
              simp only [ups, List.getElem_map] at x0 x1
              have HTK := Lib.hid (show addPs (idM n) (qs.take (j + 1)) = addP (addPs (idM n) (qs.take j)) qs[j] by
                rw [List.take_succ_eq_append_getElem hltq, addPs_snoc])
              have hXs := small_getD (small_addPs (qs.take j) (idM n) (small_idM hn) (fun q hq => by have := HIN.out q (List.mem_of_mem_take hq); omega)) qs[j].1
              generalize addPs (idM n) (qs.take j) = M at *
              generalize hq : qs[j] = q at *
              obtain ⟨q1, q2⟩ := q
              obtain ⟨hq1, hq2⟩ := hin
              dsimp only at hXs x0 x1
              have hrc := HR.out.cell hq1
              have hrf := HR.out.frozen q1
              have HSTEP := Lib.hid (show addP M (q1, q2) = M.set q1 (M.getD q1 0 ||| 2 ^ q2) from rfl)
              have HSE := Lib.hid (show ∀ wx, Calls Tryd.prog 32 #[.int .u64 (M.getD q1 0 : Nat), .int .i64 q2] wx fun e w' => e = .returned (.int .u64 ((M.getD q1 0 ||| 2 ^ q2 : Nat) : Int)) ∧ w' = wx from fun wx => (Set_any (M.getD q1 0) q2 hXs (by dsimp only at hq2; omega) wx).mono fun e w' h => ⟨h.1, h.2⟩)
              generalize hX2 : M.getD q1 0 ||| 2 ^ q2 = X2 at *
              generalize M.getD q1 0 = X at *
              dsimp only at hq1 hq2
              have hmx : Tryd.prog.follows .mixedOrders = true := by kernel_rfl
              have i1 : (0 : Int) ≤ (q1 : Int) := by omega
              have i2 : (q1 : Int) < (n : Int) := by omega
              have i3 : (0 : Int) ≤ (j : Int) := by omega
              have i4 : (j : Int) < (ps.length : Int) := by omega
              have e0 : wr.drew.cell? ⟨g, q1, none⟩ = some (.int .u64 X) := by simpa [go_sem] using hrc
              have ef : wr.drew.frozen? ⟨g, q1, none⟩ = false := by simpa [go_sem] using hrf
              have e1 : wr.drew.cell? ⟨b, off + j * 2, none⟩ = some (.int .i64 q1) := by simpa [go_sem] using x0
              have e2 : wr.drew.cell? ⟨b, off + j * 2 + 1, none⟩ = some (.int .i64 q2) := by simpa [go_sem] using x1
              have HRD := Lib.hid HR.out.drew
              have HBD := Lib.hid HB.out.drew
              have HGB := Lib.hid HR.out.base.1
              clear hq hrc hrf x0 x1 hX2 hXs
              go_wp2_with fail
              refine wp_region_still_tail 21 hmx (by kernel_rfl) ?_
              simp only [List.take_succ_cons, List.take_zero, List.drop_succ_cons, List.drop_zero]
              change wpStill _ _ wr.drew _ _ _
              change wpStill _ _ _ (fun a' => wpList _ _ _ _ a' wr.drew) _ _
              generalize wr.drew = WD at *
              repeat (first | still_step | (still_call (HSE.out _)))
              refine wpStill_nil ?_
              go_wp2_with fail
              go_roundw
              case rel => exact ⟨j + 1, by omega, by go_num, Lib.hid (by rw [HTK.out, HSTEP.out]; exact HRD.out.set q1 _), HBD.out.setCell (p := ⟨g, q1, none⟩) HGB.out _⟩
              case measure => simp [intOf]; omega
            · have HOM := Lib.hid (show OwnM wr w.heap.size g n cap (addPs (idM n) qs) from by have h := HR.out; rw [List.take_of_length_le (by omega)] at h; exact h)
              have HMS := Lib.hid (mid_start hn HIN.out)
              clear HR
              go_wp2_with fail
              generalize addPs (idM n) qs = M0 at *
              go_loopg [10] (64 * n - mass M0 + 1) (fun gk v wr => ∃ (ms : List Nat) (ag : Bool), v = .bool ag ∧ gk = 64 * n - mass ms + (if ag = true then 1 else 0) ∧ Hid (Mid n qs ms ∧ OwnM wr w.heap.size g n cap ms ∧ Below w.heap.size w wr ∧ (ag = false → ∀ x y z, x < n → y < n → z < n → has ms x y → has ms y z → has ms x z)))
              case atStart => exact ⟨M0, true, rfl, rfl, Lib.hid ⟨HMS.out, HOM.out, HB.out, fun h => by cases h⟩⟩
              case round =>
                clear HOM HMS HB
                obtain ⟨ms, ag, rfl, rfl, HI⟩ := hrel
                cases ag with
                | false =>
                  have HE := Lib.hid (show ms = closedM n qs from mid_end HIN.out HI.out.1 (HI.out.2.2.2 rfl))
                  have HR := Lib.hid (rright_any ms (some ⟨g, 0, none⟩) cap wr (by rw [HI.out.1.1]; unfold maxLen; omega) HI.out.1.2.1 (HI.out.2.1.us HI.out.2.1.base.2))
                  rw [HI.out.1.1] at HR
                  by_cases ho : OrdM ms
                  · rw [ordB_true ho] at HR
                    have HO := Lib.hid ho
                    clear ho
                    go_wp2_with (go_at_call 16; refine HR.out.mono ?_; rintro e w' ⟨rfl, rfl⟩)
                    go_ret2
                    exact ⟨.inr (.inl ⟨HOKA.out, by rw [HNP.out, ← HE.out]; exact HO.out, g, cap, rfl, by rw [HNP.out, ← HE.out]; exact HI.out.2.1⟩), HI.out.2.2.1⟩
                  · rw [ordB_false ho] at HR
                    have HO := Lib.hid ho
                    clear ho
                    go_wp2_with (go_at_call 16; refine HR.out.mono ?_; rintro e w' ⟨rfl, rfl⟩)
                    go_ret2
                    exact ⟨.inr (.inr ⟨HOKA.out, by rw [HNP.out, ← HE.out]; exact HO.out, rfl⟩), HI.out.2.2.1⟩
                | true =>
                  have HQ := Lib.hid (show RQ n qs ms w g cap 0 0 0 ms false wr from ⟨HI.out.1, ⟨fun _ => ⟨rfl, fun x y z h => by unfold Vc at h; omega⟩, fun h => by cases h⟩, HI.out.2.1, HI.out.2.2.1⟩)
                  have HML := Lib.hid (show ∀ m : List Nat, m.length = n → mass m ≤ 64 * n from fun m h => h ▸ mass_le m)
                  clear HI
                  go_wp2_with fail
                  obtain ⟨wo, rfl⟩ : ∃ wo : World, wo = wr := ⟨_, rfl⟩
                  go_loopw [10, 11] (fun o v wr => ∃ (a : Nat) (m1 : List Nat) (ag : Bool), a ≤ n ∧ v = .int .i64 a ∧ o = .bool ag ∧ Hid (RQ n qs ms w g cap a 0 0 m1 ag wr)) (fun _ v _ => n - (intOf v).toNat)
                  case atStart => exact ⟨0, ms, false, Nat.zero_le _, rfl, rfl, HQ⟩
                  case round =>
                    clear HQ
                    obtain ⟨a, m1, ag, ha, rfl, rfl, HQ⟩ := hrel
                    by_cases hlta : a < n
                    · go_wp2_with fail
                      obtain ⟨wp, rfl⟩ : ∃ wp : World, wp = wr := ⟨_, rfl⟩
                      go_loopw [10, 12] (fun o v wr => ∃ (b : Nat) (m1 : List Nat) (ag : Bool), b ≤ n ∧ v = .int .i64 b ∧ o = .bool ag ∧ Hid (RQ n qs ms w g cap a b 0 m1 ag wr)) (fun _ v _ => n - (intOf v).toNat)
                      case atStart => exact ⟨0, m1, ag, Nat.zero_le _, rfl, rfl, HQ⟩
                      case round =>
                        clear HQ
                        obtain ⟨b, m2, ag2, hb, rfl, rfl, HQ⟩ := hrel
                        by_cases hltb : b < n
                        · go_wp2_with fail
                          obtain ⟨wq, rfl⟩ : ∃ wq : World, wq = wr := ⟨_, rfl⟩
                          go_loopw [10, 13] (fun o v wr => ∃ (c : Nat) (m1 : List Nat) (ag : Bool), c ≤ n ∧ v = .int .i64 c ∧ o = .bool ag ∧ Hid (RQ n qs ms w g cap a b c m1 ag wr)) (fun _ v _ => n - (intOf v).toNat)
                          case atStart => exact ⟨0, m2, ag2, Nat.zero_le _, rfl, rfl, HQ⟩
                          case round =>
                            clear HQ
                            obtain ⟨c', m3, ag3, hc, rfl, rfl, HQ⟩ := hrel
                            by_cases hltc : c' < n
                            · have xa := HQ.out.own.cell hlta
                              have xb := HQ.out.own.cell hltb
                              have fa := HQ.out.own.frozen a
                              have hXa := small_getD HQ.out.mid.2.1 a
                              have hXb := small_getD HQ.out.mid.2.1 b
                              have HSAME := Lib.hid (fun h => HQ.out.same h)
                              have HMORE := Lib.hid (fun h1 h2 h3 => HQ.out.more hn HIN.out hlta hltc h1 h2 h3)
                              have hway : ((m3.getD a 0).testBit b = false ∧ (has m3 a b → has m3 b c' → has m3 a c')) ∨ ((m3.getD a 0).testBit b = true ∧ (m3.getD b 0).testBit c' = false ∧ (has m3 a b → has m3 b c' → has m3 a c')) ∨
                                  ((m3.getD a 0).testBit b = true ∧ (m3.getD b 0).testBit c' = true ∧ (m3.getD a 0).testBit c' = true ∧ (has m3 a b → has m3 b c' → has m3 a c')) ∨
                                  ((m3.getD a 0).testBit b = true ∧ (m3.getD b 0).testBit c' = true ∧ (m3.getD a 0).testBit c' = false ∧ has m3 a b ∧ has m3 b c' ∧ ¬ has m3 a c') := by
                                unfold has
                                cases (m3.getD a 0).testBit b <;> cases (m3.getD b 0).testBit c' <;> cases (m3.getD a 0).testBit c' <;> simp
                              have HSE := Lib.hid (show ∀ wx, Calls Tryd.prog 32 #[.int .u64 (m3.getD a 0 : Nat), .int .i64 c'] wx fun e w' => e = .returned (.int .u64 ((m3.getD a 0 ||| 2 ^ c' : Nat) : Int)) ∧ wx = w' from fun wx => Set_ref (m3.getD a 0) c' hXa (by omega) wx)
                              generalize m3.getD a 0 ||| 2 ^ c' = X2 at *
                              generalize m3.getD b 0 = Y at *
                              generalize m3.getD a 0 = X at *
                              rcases hway with ⟨e1, h⟩ | ⟨e1, e2, h⟩ | ⟨e1, e2, e3, h⟩ | ⟨e1, e2, e3, h1', h2', h3'⟩
                              · have HQ2 := Lib.hid (HSAME.out h)
                                clear h
                                go_wp2_with (go_at_call 29; refine (Bit_ref _ _ (by assumption) (by omega) _).mono ?_; rintro e w' ⟨rfl, rfl⟩)
                                go_roundw
                                case rel => exact ⟨c' + 1, m3, ag3, by omega, by go_num, rfl, HQ2⟩
                                case measure => simp [intOf]; omega
                              · have HQ2 := Lib.hid (HSAME.out h)
                                clear h
                                go_wp2_with (go_at_call 29; refine (Bit_ref _ _ (by assumption) (by omega) _).mono ?_; rintro e w' ⟨rfl, rfl⟩)
                                go_roundw
                                case rel => exact ⟨c' + 1, m3, ag3, by omega, by go_num, rfl, HQ2⟩
                                case measure => simp [intOf]; omega
                              · have HQ2 := Lib.hid (HSAME.out h)
                                clear h
                                go_wp2_with (go_at_call 29; refine (Bit_ref _ _ (by assumption) (by omega) _).mono ?_; rintro e w' ⟨rfl, rfl⟩)
                                go_roundw
                                case rel => exact ⟨c' + 1, m3, ag3, by omega, by go_num, rfl, HQ2⟩
                                case measure => simp [intOf]; omega
                              · have HQ2 := Lib.hid (HMORE.out h1' h2' h3')
                                clear h1' h2' h3'
                                go_wp2_with (first
                                  | (go_at_call 29; refine (Bit_ref _ _ (by assumption) (by omega) _).mono ?_; rintro e w' ⟨rfl, rfl⟩)
                                  | (go_at_call 32; refine (HSE.out _).mono ?_; rintro e w' ⟨rfl, rfl⟩))
                                go_roundw
                                case rel => exact ⟨c' + 1, _, true, by omega, by go_num, rfl, HQ2⟩
                                case measure => simp [intOf]; omega
                            · obtain rfl : c' = n := by omega
                              have HQ2 := Lib.hid (HQ.out.next (a' := a) (b' := b + 1) (c' := 0) (fun x y z h => by unfold Vc at *; omega))
                              clear HQ
                              go_wp2_with fail
                              go_roundw
                              case rel => exact ⟨b + 1, m3, ag3, by omega, by go_num, rfl, HQ2⟩
                              case measure => simp [intOf]; omega
                        · obtain rfl : b = n := by omega
                          have HQ2 := Lib.hid (HQ.out.next (a' := a + 1) (b' := 0) (c' := 0) (fun x y z h => by unfold Vc at *; omega))
                          clear HQ
                          go_wp2_with fail
                          go_roundw
                          case rel => exact ⟨a + 1, m2, ag2, by omega, by go_num, rfl, HQ2⟩
                          case measure => simp [intOf]; omega
                    · obtain rfl : a = n := by omega
                      go_wp2_with fail
                      go_roundg (64 * a - mass m1 + (if ag = true then 1 else 0))
                      case measure =>
                        have hq := HQ.out.q
                        have hl := HML.out m1 HQ.out.own.1
                        cases ag with
                        | true => have := hq.2 rfl; simp; omega
                        | false => have := (hq.1 rfl).1; subst this; simp
                      case rel =>
                        refine ⟨m1, ag, rfl, rfl, Lib.hid ⟨HQ.out.mid, HQ.out.own, HQ.out.below, fun h x y z hx hy hz => ?_⟩⟩
                        have := HQ.out.q.1 h
                        rw [this.1]
                        exact this.2 x y z (by unfold Vc; omega)
end Go.Proofs.YtkgcloggnnjioaaDoor
