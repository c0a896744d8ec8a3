/-
  Contracts: the reference's Same (bindings, tuples), SameAll; CopyFlat; slices.Clone of values.
-/
import Derived.Test.YtmfaallipfhajaaBrh
import Derived.Test.YtmfaallipfhajaaBrf
import Derived.Test.YtmfaallipfhajaaRefO
namespace Go.Proofs.Ytmfaallipfhajaa
open Go.RowKit

theorem neB0 (v s : ByteArray) (n : Int) (w : World) : (binOp .neq 50 (.agg #[.string v, .string s, .int .i64 n]) (.agg #[.string v, .string s, .int .i64 n])).run Try.prog w = .ok (.bool false) w := by
  have u9 := Try.underlying9
  have u2 := Try.underlying2
  have a9 := Try.isAgg9
  have z9 := Try.sizeOf9
  have a2 := Try.isAgg2
  have z2 := Try.sizeOf2
  have av := Try.isAgg46
  have zv := Try.sizeOf46
  have hS : Try.prog.underlying 50 = some (.struct (Try.prog.fieldsOf 50)) := by kernel_rfl
  have hp : Try.prog.stoodInHeld 50 = false := by kernel_rfl
  have hSV : Try.prog.underlying 46 = some (.struct (Try.prog.fieldsOf 46)) := by kernel_rfl
  have hpV : Try.prog.stoodInHeld 46 = false := by kernel_rfl
  have hv : ∀ wx, (Op.equalIn 9999 46 (.agg #[.string s, .int .i64 n]) (.agg #[.string s, .int .i64 n])).run Try.prog wx = .ok true wx := fun wx => by
    rw [show (9999 : Nat) = 9998 + 1 from rfl, run_equalIn_agg wx 9998 46 _ _ hSV hpV]
    simp only [Program.fieldsOf, Try.underlying46]
    go_simp
  rw [run_neq_struct, show (10000 : Nat) = 9999 + 1 from rfl, run_equalIn_agg w 9999 50 _ _ hS hp]
  simp only [Program.fieldsOf, Try.underlying50]
  go_simp

set_option maxHeartbeats 2000000 in
set_option maxRecDepth 100000 in
theorem same_binds (p q : Option Addr) (l : List Tm) (c d : Nat) (w : World) (h1 : Tms w w.heap.size p l) (h2 : Tms w w.heap.size q l) (hm : l.length ≤ maxLen) :
    Calls Try.prog 12 #[.slice p l.length c, .slice q l.length d] w fun e w' => e = .returned (.bool true) ∧ Below w.heap.size w w' := by
  unfold maxLen at hm
  have H1 := Lib.hid h1
  have H2 := Lib.hid h2
  clear h1 h2
  go_enter Try.func12, Try.ntmps12
  go_wp2_with fail
  go_loopw [5] (fun i wr => ∃ k : Nat, k ≤ l.length ∧ i = .int .i64 k ∧ Below w.heap.size w wr) (fun i _ => l.length - (intOf i).toNat)
  case atStart => exact ⟨0, Nat.zero_le _, rfl, Below.refl _ _⟩
  case round =>
    obtain ⟨k, hk, rfl, hb⟩ := hrel
    have HB := Lib.hid hb
    by_cases hlt : k < l.length
    · obtain ⟨b1, o1, rfl, hb1, x1, x2, x3⟩ := rdM_at (H1.out.below HB.out (Nat.le_refl _)) k hlt
      obtain ⟨b2, o2, rfl, hb2, y1, y2, y3⟩ := rdM_at (H2.out.below HB.out (Nat.le_refl _)) k hlt
      have hne := fun wx => neB0 l[k].v l[k].s l[k].n wx
      have hkn : (0 : Int) ≤ (k : Int) := by omega
      have hki : (k : Int) < (l.length : Int) := by omega
      clear hb
      go_wp2_with fail
      go_quiet (fail)
      all_goals
        go_wp2_with fail
        go_roundw
        case rel => exact ⟨k + 1, by omega, by go_num, below_drewN' HB.out _⟩
        case measure => simp [intOf]; omega
    · clear hb
      go_wp2_with fail
      go_ret
      exact ⟨rfl, HB.out⟩

theorem load3 {w : World} {b : Nat} {c1 c2 c3 : Value} (h1 : w.cell? ⟨b, 0, none⟩ = some c1) (h2 : w.cell? ⟨b, 1, none⟩ = some c2) (h3 : w.cell? ⟨b, 2, none⟩ = some c3) (u v t : Value) :
    (((w.setCell ⟨b, 0, none⟩ u).setCell ⟨b, 1, none⟩ v).setCell ⟨b, 2, none⟩ t).cell? ⟨b, 0, none⟩ = some u ∧ (((w.setCell ⟨b, 0, none⟩ u).setCell ⟨b, 1, none⟩ v).setCell ⟨b, 2, none⟩ t).cell? ⟨b, 1, none⟩ = some v ∧ (((w.setCell ⟨b, 0, none⟩ u).setCell ⟨b, 1, none⟩ v).setCell ⟨b, 2, none⟩ t).cell? ⟨b, 2, none⟩ = some t := by
  have n01 : (⟨b, 0, none⟩ : Addr) ≠ ⟨b, 1, none⟩ := by intro h; cases h
  have n02 : (⟨b, 0, none⟩ : Addr) ≠ ⟨b, 2, none⟩ := by intro h; cases h
  have n12 : (⟨b, 1, none⟩ : Addr) ≠ ⟨b, 2, none⟩ := by intro h; cases h
  refine ⟨?_, ?_, ?_⟩
  · rw [World.cell?_setCell_other _ _ _ _ n02.symm, World.cell?_setCell_other _ _ _ _ n01.symm]; exact World.cell?_setCell_same _ _ _ h1
  · rw [World.cell?_setCell_other _ _ _ _ n12.symm]; exact World.cell?_setCell_same _ _ _ (by rw [World.cell?_setCell_other _ _ _ _ n01]; exact h2)
  · exact World.cell?_setCell_same _ _ _ (by rw [World.cell?_setCell_other _ _ _ _ n12, World.cell?_setCell_other _ _ _ _ n02]; exact h3)
theorem underT : Try.prog.underlying 22 = some (.slice 48) := Try.underlying22
set_option maxHeartbeats 2000000 in
set_option maxRecDepth 100000 in
theorem copyflat_any (k : Int) (p : ByteArray) (q : Option Addr) (l : List Tm) (c : Nat) (w : World) (h : Tms w w.heap.size q l) (hm : l.length * 40 ≤ 140737488355328) :
    Calls Try.prog 10 #[.agg #[.int .u8 k, .string p, .slice q l.length c]] w fun e w' => ∃ v, e = .returned (.agg #[.int .u8 k, .string p, v]) ∧ Made encM 3 l v w' ∧ Below w.heap.size w w' := by
  obtain ⟨i0, hi, hz0, hz1, hzb⟩ := info_parts infoTerm
  have hWs : ((w.alloc (.cells #[.int .u8 k, .string p, .slice q l.length c] 24)).alloc (.cells #[.int .u8 0, .string ⟨#[]⟩, .slice none 0 0] 24)).heap.size = w.heap.size + 1 + 1 := by simp
  have HB := Lib.hid (below2 w (.cells #[.int .u8 k, .string p, .slice q l.length c] 24) (.cells #[.int .u8 0, .string ⟨#[]⟩, .slice none 0 0] 24))
  have hO : (((w.alloc (.cells #[.int .u8 k, .string p, .slice q l.length c] 24)).alloc (.cells #[.int .u8 0, .string ⟨#[]⟩, .slice none 0 0] 24)).alloc (.cells #[] 48)).ownsRow (w.heap.size + 1 + 1) 48 3 (.slice (some ⟨w.heap.size + 1 + 1, 0, none⟩) 0 0) 0 [] := by
    have := World.ownsRow_made (base := w.heap.size + 1 + 1) (e := 48) (size := 3) ((w.alloc (.cells #[.int .u8 k, .string p, .slice q l.length c] 24)).alloc (.cells #[.int .u8 0, .string ⟨#[]⟩, .slice none 0 0] 24)) #[] 0 (Nat.le_of_eq hWs.symm) (by decide) (by simp)
    rw [hWs] at this; exact this
  have HO := Lib.hid hO
  have HR := Lib.hid (h.grow ((below2 w (.cells #[.int .u8 k, .string p, .slice q l.length c] 24) (.cells #[.int .u8 0, .string ⟨#[]⟩, .slice none 0 0] 24)).alloc (by simp; omega) (.cells #[] 48)))
  have hm1 : l.length ≤ maxLen := by unfold maxLen; omega
  have HBS := Lib.hid (show w.heap.size + 1 + 1 ≤ (((w.alloc (.cells #[.int .u8 k, .string p, .slice q l.length c] 24)).alloc (.cells #[.int .u8 0, .string ⟨#[]⟩, .slice none 0 0] 24)).alloc (.cells #[] 48)).heap.size by simp)
  have Q0 := Lib.hid (show (((w.alloc (.cells #[.int .u8 k, .string p, .slice q l.length c] 24)).alloc (.cells #[.int .u8 0, .string ⟨#[]⟩, .slice none 0 0] 24)).alloc (.cells #[] 48)).cell? ⟨w.heap.size, 0, none⟩ = some (.int .u8 k) by simp [go_sem])
  have Q1 := Lib.hid (show (((w.alloc (.cells #[.int .u8 k, .string p, .slice q l.length c] 24)).alloc (.cells #[.int .u8 0, .string ⟨#[]⟩, .slice none 0 0] 24)).alloc (.cells #[] 48)).cell? ⟨w.heap.size, 1, none⟩ = some (.string p) by simp [go_sem])
  have Q2 := Lib.hid (show (((w.alloc (.cells #[.int .u8 k, .string p, .slice q l.length c] 24)).alloc (.cells #[.int .u8 0, .string ⟨#[]⟩, .slice none 0 0] 24)).alloc (.cells #[] 48)).cell? ⟨w.heap.size, 2, none⟩ = some (.slice q l.length c) by simp [go_sem])
  have F0 := Lib.hid (show (((w.alloc (.cells #[.int .u8 k, .string p, .slice q l.length c] 24)).alloc (.cells #[.int .u8 0, .string ⟨#[]⟩, .slice none 0 0] 24)).alloc (.cells #[] 48)).frozen? ⟨w.heap.size, 2, none⟩ = false by simp [go_sem])
  have Q3 := Lib.hid (show (((w.alloc (.cells #[.int .u8 k, .string p, .slice q l.length c] 24)).alloc (.cells #[.int .u8 0, .string ⟨#[]⟩, .slice none 0 0] 24)).alloc (.cells #[] 48)).cell? ⟨w.heap.size + 1, 0, none⟩ = some (.int .u8 0) by simp [go_sem])
  have Q4 := Lib.hid (show (((w.alloc (.cells #[.int .u8 k, .string p, .slice q l.length c] 24)).alloc (.cells #[.int .u8 0, .string ⟨#[]⟩, .slice none 0 0] 24)).alloc (.cells #[] 48)).cell? ⟨w.heap.size + 1, 1, none⟩ = some (.string ⟨#[]⟩) by simp [go_sem])
  have Q5 := Lib.hid (show (((w.alloc (.cells #[.int .u8 k, .string p, .slice q l.length c] 24)).alloc (.cells #[.int .u8 0, .string ⟨#[]⟩, .slice none 0 0] 24)).alloc (.cells #[] 48)).cell? ⟨w.heap.size + 1, 2, none⟩ = some (.slice none 0 0) by simp [go_sem])
  have F1 := Lib.hid (show (((w.alloc (.cells #[.int .u8 k, .string p, .slice q l.length c] 24)).alloc (.cells #[.int .u8 0, .string ⟨#[]⟩, .slice none 0 0] 24)).alloc (.cells #[] 48)).frozen? ⟨w.heap.size + 1, 0, none⟩ = false by simp [go_sem])
  have F2 := Lib.hid (show (((w.alloc (.cells #[.int .u8 k, .string p, .slice q l.length c] 24)).alloc (.cells #[.int .u8 0, .string ⟨#[]⟩, .slice none 0 0] 24)).alloc (.cells #[] 48)).frozen? ⟨w.heap.size + 1, 1, none⟩ = false by simp [go_sem])
  have F3 := Lib.hid (show (((w.alloc (.cells #[.int .u8 k, .string p, .slice q l.length c] 24)).alloc (.cells #[.int .u8 0, .string ⟨#[]⟩, .slice none 0 0] 24)).alloc (.cells #[] 48)).frozen? ⟨w.heap.size + 1, 2, none⟩ = false by simp [go_sem])
  clear h hO hWs
  go_enter Try.func10, Try.ntmps10
  go_wp2_with (at_builtin; go_must (refine wpList_copyE EM rfl _ _ 22 rfl (w.heap.size + 1 + 1) 48 i0 _ 40 underT hi hz0 hz1 hzb rfl _ 0 rfl (.inr HO.out) _ l c rfl HR.out hm1 hm HBS.out ?_; intro p' cap w1 h1 h2 h3 h4; have q0 := (h4.cell (p := ⟨w.heap.size, 0, none⟩) (by first | (simp; done) | (simp; omega))).trans Q0.out; have q1 := (h4.cell (p := ⟨w.heap.size, 1, none⟩) (by first | (simp; done) | (simp; omega))).trans Q1.out; have q2 := (h4.cell (p := ⟨w.heap.size, 2, none⟩) (by first | (simp; done) | (simp; omega))).trans Q2.out; have f0 := (h4.frozen (p := ⟨w.heap.size, 2, none⟩) (by first | (simp; done) | (simp; omega))).trans F0.out; have q3 := (h4.cell (p := ⟨w.heap.size + 1, 0, none⟩) (by first | (simp; done) | (simp; omega))).trans Q3.out; have q4 := (h4.cell (p := ⟨w.heap.size + 1, 1, none⟩) (by first | (simp; done) | (simp; omega))).trans Q4.out; have q5 := (h4.cell (p := ⟨w.heap.size + 1, 2, none⟩) (by first | (simp; done) | (simp; omega))).trans Q5.out; have f1 := (h4.frozen (p := ⟨w.heap.size + 1, 0, none⟩) (by first | (simp; done) | (simp; omega))).trans F1.out; have f2 := (h4.frozen (p := ⟨w.heap.size + 1, 1, none⟩) (by first | (simp; done) | (simp; omega))).trans F2.out; have f3 := (h4.frozen (p := ⟨w.heap.size + 1, 2, none⟩) (by first | (simp; done) | (simp; omega))).trans F3.out; have HO1 := Lib.hid (owns_of_copy h1 h3 HO.out); have H4 := Lib.hid h4; have hz1 : w.heap.size < w1.heap.size := (Nat.lt_of_lt_of_le (by first | (simp; done) | (simp; omega)) h4.size); have hz2 : w.heap.size + 1 < w1.heap.size := (Nat.lt_of_lt_of_le (by first | (simp; done) | (simp; omega)) h4.size); clear h1 h2 h3 h4))
  generalize hhs : w.heap.size = hs at *
  have HH := Lib.hid hhs
  clear hhs
  have n0 : ∀ o o' : Nat, (⟨hs, o, none⟩ : Addr) ≠ ⟨hs + 1, o', none⟩ := fun o o' h => by injection h with h _ _; omega
  have g3 : (w1.setCell ⟨hs, 2, none⟩ (.slice p' l.length cap)).cell? ⟨hs + 1, 0, none⟩ = some (.int .u8 0) := by rw [World.cell?_setCell_other _ _ _ _ (n0 _ _)]; exact q3
  have g4 : (w1.setCell ⟨hs, 2, none⟩ (.slice p' l.length cap)).cell? ⟨hs + 1, 1, none⟩ = some (.string ⟨#[]⟩) := by rw [World.cell?_setCell_other _ _ _ _ (n0 _ _)]; exact q4
  have g5 : (w1.setCell ⟨hs, 2, none⟩ (.slice p' l.length cap)).cell? ⟨hs + 1, 2, none⟩ = some (.slice none 0 0) := by rw [World.cell?_setCell_other _ _ _ _ (n0 _ _)]; exact q5
  obtain ⟨L1, L2, L3⟩ := load3 g3 g4 g5 (.int .u8 k) (.string p) (.slice p' l.length cap)
  refine bodyPost_ret (v := .agg #[.int .u8 k, .string p, .slice p' l.length cap]) ?_ rfl ?_
  · clear n0
    simp [results, Try.results10, go_sem, L1, L2, L3]
  refine ⟨_, rfl, ?_, ?_⟩
  · exact made_of_owns EM (ownsRow_setCell_below (ownsRow_setCell_below (ownsRow_setCell_below (ownsRow_setCell_below HO1.out (a := ⟨hs, 2, none⟩) (by show hs < _; omega) _) (a := ⟨hs + 1, 0, none⟩) (by show hs + 1 < _; omega) _) (a := ⟨hs + 1, 1, none⟩) (by show hs + 1 < _; omega) _) (a := ⟨hs + 1, 2, none⟩) (by show hs + 1 < _; omega) _)
  · have hbb : Below hs w w1 := HB.out.trans ((Below.alloc (Below.refl _ _) (by have := HH.out; simp; omega) _).trans (H4.out.mono (by omega)))
    exact (((hbb.setCell (p := ⟨hs, 2, none⟩) (Nat.le_refl _) _).setCell (p := ⟨hs + 1, 0, none⟩) (by show hs ≤ hs + 1; omega) _).setCell (p := ⟨hs + 1, 1, none⟩) (by show hs ≤ hs + 1; omega) _).setCell (p := ⟨hs + 1, 2, none⟩) (by show hs ≤ hs + 1; omega) _

set_option maxHeartbeats 2000000 in
set_option maxRecDepth 100000 in
theorem cloneV_any (q : Option Addr) (l : List Vl) (c : Nat) (w : World) (h : Rd encV 2 w w.heap.size q l) (hm : l.length * 24 ≤ 140737488355328) :
    Calls Try.prog 29 #[.slice q l.length c] w fun e w' => ∃ v, e = .returned v ∧ Made encV 2 l v w' ∧ Below w.heap.size w w' := by
  cases q with
  | none =>
    have hl : l = [] := by
      rcases h with h | ⟨_, _, h, _⟩
      · exact h
      · cases h
    subst hl
    have hne := fun wx => Lib.run_eql_slice_nil (P := Try.prog) wx 25 46 none 0 c 0 0 underV
    go_enter Try.func29, Try.ntmps29
    go_wp2_with fail
    go_ret
    exact ⟨_, rfl, made_nil, Below.refl _ _⟩
  | some a =>
    obtain ⟨i0, hi, hz0, hz1, hz2⟩ := info_parts infoValue
    have hne := fun wx => Lib.run_eql_slice_nil (P := Try.prog) wx 25 46 (some a) l.length c 0 0 underV
    have hb0 := below1 w (.cells #[] 46)
    have HG := Lib.hid (grw_made (w := w) (base := w.heap.size) (E := 46) (k := 2) (Nat.le_refl _))
    have HR := Lib.hid (h.grow hb0)
    have hm1 : l.length ≤ maxLen := by unfold maxLen; omega
    have hbs : w.heap.size ≤ (w.alloc (.cells #[] 46)).heap.size := by simp
    clear h
    go_enter Try.func29, Try.ntmps29
    go_wp2_with (at_builtin; refine wpList_copyE EV rfl _ _ 25 rfl w.heap.size 46 i0 _ 24 underV hi hz0 hz1 hz2 rfl _ 0 rfl HG.out _ l c rfl HR.out hm1 hm hbs ?_; intro p' cap w1 h1 h2 h3 h4)
    go_ret
    exact ⟨_, rfl, made_of_copy h1 h2 (fun e => ⟨(h3 e).1, (h3 e).2.1⟩) rfl, hb0.trans h4⟩

/-! tuples -/
theorem rd_vals {w : World} {B : Nat} {p : Option Addr} {l : List Vl} (h : Vals w B p l) : Rd encV 2 w B p l := by
  rcases h with h | ⟨b, off, rfl, hl, hc⟩
  · exact .inl h
  · refine .inr ⟨b, off, rfl, hl, fun i hi r u hu => ?_⟩
    have hr : r < 2 := by have := (List.getElem?_eq_some_iff.1 hu).1; simpa [encV] using this
    match r, hr with
    | 0, _ => simp [encV] at hu; subst hu; exact (hc i hi).1
    | 1, _ => simp [encV] at hu; subst hu; exact (hc i hi).2
theorem cmpVs_zero : ∀ (x y : List Vl), x.length = y.length → (cmpVs x y = 0 ↔ x = y)
  | [], [], _ => by simp [cmpVs]
  | a :: x, b :: y, h => by
    have := cmpVs_zero x y (by simpa using h)
    obtain ⟨⟨⟨a1⟩⟩, a2⟩ := a
    obtain ⟨⟨⟨b1⟩⟩, b2⟩ := b
    simp only [cmpVs, lexI_zero, this, cmpW, cmpV_zero, List.cons.injEq, Prod.mk.injEq]
    simp
  | [], _ :: _, h => by simp at h
  | _ :: _, [], h => by simp at h
theorem cmpT_zero (a b : Tp) : cmpT a b = 0 ↔ a.pred = b.pred ∧ a.args = b.args := by
  obtain ⟨⟨⟨p⟩⟩, x, c, l⟩ := a
  obtain ⟨⟨⟨q⟩⟩, y, d, m⟩ := b
  unfold cmpT
  rw [lexI_zero, lexI_zero, cmpI_zero]
  show cmpL p q = 0 ∧ _ ↔ _
  rw [cmpL_zero]
  by_cases hl : l.length = m.length
  · simp [hl, cmpVs_zero l m hl]
  · simp only [Int.ofNat_inj, hl, false_and, and_false, false_iff, not_and]
    intro _ h
    exact hl (by rw [h])

set_option maxHeartbeats 2000000 in
set_option maxRecDepth 100000 in
theorem same_tuples (a b : Tp) (w : World) (ha : a.In w) (hb : b.In w) (hp : a.pred.size ≤ maxLen) (hq : b.pred.size ≤ maxLen) (z1 : SzOk a.args) (z2 : SzOk b.args) :
    Calls Try.prog 17 #[a.agg, b.agg] w fun e w' => e = .returned (.bool (cmpT a b == 0)) ∧ Below w.heap.size w w' := by
  have hb2 := below2 w (.cells #[.string a.pred, .slice a.ptr a.args.length a.cap] 27) (.cells #[.string b.pred, .slice b.ptr b.args.length b.cap] 27)
  have HC := Lib.hid (reforder_any a b _ (ha.grow hb2) (hb.grow hb2) hp hq z1 z2)
  have HB := Lib.hid hb2
  clear ha hb hb2
  unfold Tp.agg at HC ⊢
  go_enter Try.func17, Try.ntmps17
  go_wp2_with fail
  refine HC.out.mono ?_
  rintro e w1 ⟨rfl, hb1⟩
  have HB1 := Lib.hid hb1
  clear hb1
  go_wp2_with fail
  go_ret
  exact ⟨rfl, HB.out.trans (HB1.out.mono HB.out.size)⟩
end Go.Proofs.Ytmfaallipfhajaa
