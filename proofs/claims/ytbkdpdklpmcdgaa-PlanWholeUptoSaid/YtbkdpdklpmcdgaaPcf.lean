/-
  Contract: CopyFlat (b5's text, in this seat's names).
-/
import Derived.Test.YtbkdpdklpmcdgaaPrf
set_option linter.unusedVariables false
set_option linter.unusedSimpArgs false
namespace Go.Proofs.Ytbkdpdklpmcdgaa
open Go.RowKit

def Made {α : Type} (enc : α → List Value) (k : Nat) (l : List α) (v : Value) (w : World) : Prop :=
  ∃ q c, v = .slice q l.length c ∧ Rd enc k w w.heap.size q l ∧ l.length ≤ c ∧ c ≤ maxLen ∧ (q = none → c = 0)
theorem made_nil {α : Type} {enc : α → List Value} {k : Nat} {w : World} : Made enc k [] (.slice none 0 0) w := ⟨none, 0, rfl, .nil, Nat.le_refl _, Nat.zero_le _, fun _ => rfl⟩
theorem owns_cap {w : World} {base E k n c : Nat} {p : Option Addr} {xs : List Value} (h : w.ownsRow base E k (.slice p n c) n xs) : n ≤ c ∧ c ≤ maxLen ∧ (p = none → c = 0) := by
  rcases h.2 with ⟨h1, h2⟩ | ⟨g, cap, cur, h1, _, _, h3, h4, _⟩
  · cases h1; exact ⟨Nat.le_refl _, Nat.zero_le _, fun _ => rfl⟩
  · cases h1; exact ⟨h3, h4, fun h => by cases h⟩
theorem own_fresh {w : World} {base e size n l c : Nat} {q : Option Addr} {xs : List Value} (h : w.ownsRow base e size (.slice q l c) n xs) : ∀ b, q = some b → base ≤ b.block := by
  intro b hb
  subst hb
  rcases h.2 with ⟨h1, _⟩ | ⟨g, cap, cur, h1, hg, _⟩
  · cases h1
  · cases h1; exact hg
theorem made_of_owns {α : Type} {enc : α → List Value} {k : Nat} (F : Enc enc k) {w : World} {base E : Nat} {v : Value} {l : List α} (h : w.ownsRow base E k v l.length (flatE enc l)) : Made enc k l v w := by
  rcases Nat.eq_zero_or_pos l.length with h0 | h0
  · have he : l = [] := List.length_eq_zero_iff.1 h0
    subst he
    rcases h.2 with ⟨rfl, _⟩ | ⟨g, cap, cur, hv, _, _, h3, h4, _⟩
    · exact made_nil
    · exact ⟨_, cap, hv, .nil, h3, h4, fun e => by cases e⟩
  · obtain ⟨g, cap, rfl, hge, hlt⟩ := h.form h0
    obtain ⟨a, b, c⟩ := owns_cap h
    exact ⟨_, cap, rfl, rd_of_owns F hlt h, a, b, c⟩
theorem cf_post {k : Int} {p : ByteArray} {l : List Tm} {w w' : World} {p' : Option Addr} {cap base E s : Nat} (h : w'.ownsRow base E 3 (.slice p' l.length cap) l.length (flatE encM l)) (hs : s ≤ base) (hb : Below s w w') :
    ∃ q' c', (Ending.returned (.agg #[.int .u8 k, .string p, .slice p' l.length cap])) = .returned (.agg #[.int .u8 k, .string p, .slice q' l.length c']) ∧ Tms w' w'.heap.size q' l ∧ (∀ b, q' = some b → s ≤ b.block) ∧ Below s w w' := by
  obtain ⟨qe, ce, he, hrd, _⟩ := made_of_owns EM h
  cases he
  exact ⟨_, _, rfl, hrd, fun b hb => Nat.le_trans hs (own_fresh h b hb), hb⟩
theorem owns_of_copy {α : Type} {enc : α → List Value} {k : Nat} {w w' : World} {base E d cap : Nat} {p p' : Option Addr} {l : List α} (h1 : w'.ownsRow base E k (.slice p' l.length cap) l.length (flatE enc l) ∨ l = []) (h3 : l = [] → p' = p ∧ cap = d ∧ w' = w) (ho : w.ownsRow base E k (.slice p 0 d) 0 []) : w'.ownsRow base E k (.slice p' l.length cap) l.length (flatE enc l) := by
  by_cases hl : l = []
  · obtain ⟨rfl, rfl, rfl⟩ := h3 hl
    subst hl
    exact ho
  · rcases h1 with h1 | h1
    · exact h1
    · exact absurd h1 hl
theorem load3 {w : World} {b : Nat} {c1 c2 c3 : Value} (h1 : w.cell? ⟨b, 0, none⟩ = some c1) (h2 : w.cell? ⟨b, 1, none⟩ = some c2) (h3 : w.cell? ⟨b, 2, none⟩ = some c3) (u v t : Value) :
    (((w.setCell ⟨b, 0, none⟩ u).setCell ⟨b, 1, none⟩ v).setCell ⟨b, 2, none⟩ t).cell? ⟨b, 0, none⟩ = some u ∧ (((w.setCell ⟨b, 0, none⟩ u).setCell ⟨b, 1, none⟩ v).setCell ⟨b, 2, none⟩ t).cell? ⟨b, 1, none⟩ = some v ∧ (((w.setCell ⟨b, 0, none⟩ u).setCell ⟨b, 1, none⟩ v).setCell ⟨b, 2, none⟩ t).cell? ⟨b, 2, none⟩ = some t := by
  have n01 : (⟨b, 0, none⟩ : Addr) ≠ ⟨b, 1, none⟩ := by intro h; cases h
  have n02 : (⟨b, 0, none⟩ : Addr) ≠ ⟨b, 2, none⟩ := by intro h; cases h
  have n12 : (⟨b, 1, none⟩ : Addr) ≠ ⟨b, 2, none⟩ := by intro h; cases h
  refine ⟨?_, ?_, ?_⟩
  · rw [World.cell?_setCell_other _ _ _ _ n02.symm, World.cell?_setCell_other _ _ _ _ n01.symm]; exact World.cell?_setCell_same _ _ _ h1
  · rw [World.cell?_setCell_other _ _ _ _ n12.symm]; exact World.cell?_setCell_same _ _ _ (by rw [World.cell?_setCell_other _ _ _ _ n01]; exact h2)
  · exact World.cell?_setCell_same _ _ _ (by rw [World.cell?_setCell_other _ _ _ _ n12, World.cell?_setCell_other _ _ _ _ n02]; exact h3)
theorem underT : Try.prog.underlying 22 = some (.slice 52) := Try.underlying22
theorem infoTerm : (Try.prog.info? 52).map (fun i => (i.zero, i.size, i.bytes)) = some (some (.agg #[.string ⟨#[]⟩, .string ⟨#[]⟩, .int .i64 0]), 3, 40) := by kernel_rfl
set_option maxHeartbeats 2000000 in
set_option maxRecDepth 100000 in
theorem copyflat_any (k : Int) (p : ByteArray) (q : Option Addr) (l : List Tm) (c : Nat) (w : World) (h : Tms w w.heap.size q l) (hm : l.length * 40 ≤ 140737488355328) :
    Calls Try.prog 21 #[.agg #[.int .u8 k, .string p, .slice q l.length c]] w fun e w' => ∃ q' c', e = .returned (.agg #[.int .u8 k, .string p, .slice q' l.length c']) ∧ Tms w' w'.heap.size q' l ∧ (∀ b, q' = some b → w.heap.size ≤ b.block) ∧ Below w.heap.size w w' := by
  obtain ⟨i0, hi, hz0, hz1, hzb⟩ := info_parts infoTerm
  have hWs : ((w.alloc (.cells #[.int .u8 k, .string p, .slice q l.length c] 24)).alloc (.cells #[.int .u8 0, .string ⟨#[]⟩, .slice none 0 0] 24)).heap.size = w.heap.size + 1 + 1 := by simp
  have HB := Lib.hid (below2 w (.cells #[.int .u8 k, .string p, .slice q l.length c] 24) (.cells #[.int .u8 0, .string ⟨#[]⟩, .slice none 0 0] 24))
  have hO : (((w.alloc (.cells #[.int .u8 k, .string p, .slice q l.length c] 24)).alloc (.cells #[.int .u8 0, .string ⟨#[]⟩, .slice none 0 0] 24)).alloc (.cells #[] 52)).ownsRow (w.heap.size + 1 + 1) 52 3 (.slice (some ⟨w.heap.size + 1 + 1, 0, none⟩) 0 0) 0 [] := by
    have := World.ownsRow_made (base := w.heap.size + 1 + 1) (e := 52) (size := 3) ((w.alloc (.cells #[.int .u8 k, .string p, .slice q l.length c] 24)).alloc (.cells #[.int .u8 0, .string ⟨#[]⟩, .slice none 0 0] 24)) #[] 0 (Nat.le_of_eq hWs.symm) (by decide) (by simp)
    rw [hWs] at this; exact this
  have HO := Lib.hid hO
  have HR := Lib.hid (h.grow ((below2 w (.cells #[.int .u8 k, .string p, .slice q l.length c] 24) (.cells #[.int .u8 0, .string ⟨#[]⟩, .slice none 0 0] 24)).alloc (by simp; omega) (.cells #[] 52)))
  have hm1 : l.length ≤ maxLen := by unfold maxLen; omega
  have HBS := Lib.hid (show w.heap.size + 1 + 1 ≤ (((w.alloc (.cells #[.int .u8 k, .string p, .slice q l.length c] 24)).alloc (.cells #[.int .u8 0, .string ⟨#[]⟩, .slice none 0 0] 24)).alloc (.cells #[] 52)).heap.size by simp)
  have Q0 := Lib.hid (show (((w.alloc (.cells #[.int .u8 k, .string p, .slice q l.length c] 24)).alloc (.cells #[.int .u8 0, .string ⟨#[]⟩, .slice none 0 0] 24)).alloc (.cells #[] 52)).cell? ⟨w.heap.size, 0, none⟩ = some (.int .u8 k) by simp [go_sem])
  have Q1 := Lib.hid (show (((w.alloc (.cells #[.int .u8 k, .string p, .slice q l.length c] 24)).alloc (.cells #[.int .u8 0, .string ⟨#[]⟩, .slice none 0 0] 24)).alloc (.cells #[] 52)).cell? ⟨w.heap.size, 1, none⟩ = some (.string p) by simp [go_sem])
  have Q2 := Lib.hid (show (((w.alloc (.cells #[.int .u8 k, .string p, .slice q l.length c] 24)).alloc (.cells #[.int .u8 0, .string ⟨#[]⟩, .slice none 0 0] 24)).alloc (.cells #[] 52)).cell? ⟨w.heap.size, 2, none⟩ = some (.slice q l.length c) by simp [go_sem])
  have F0 := Lib.hid (show (((w.alloc (.cells #[.int .u8 k, .string p, .slice q l.length c] 24)).alloc (.cells #[.int .u8 0, .string ⟨#[]⟩, .slice none 0 0] 24)).alloc (.cells #[] 52)).frozen? ⟨w.heap.size, 2, none⟩ = false by simp [go_sem])
  have Q3 := Lib.hid (show (((w.alloc (.cells #[.int .u8 k, .string p, .slice q l.length c] 24)).alloc (.cells #[.int .u8 0, .string ⟨#[]⟩, .slice none 0 0] 24)).alloc (.cells #[] 52)).cell? ⟨w.heap.size + 1, 0, none⟩ = some (.int .u8 0) by simp [go_sem])
  have Q4 := Lib.hid (show (((w.alloc (.cells #[.int .u8 k, .string p, .slice q l.length c] 24)).alloc (.cells #[.int .u8 0, .string ⟨#[]⟩, .slice none 0 0] 24)).alloc (.cells #[] 52)).cell? ⟨w.heap.size + 1, 1, none⟩ = some (.string ⟨#[]⟩) by simp [go_sem])
  have Q5 := Lib.hid (show (((w.alloc (.cells #[.int .u8 k, .string p, .slice q l.length c] 24)).alloc (.cells #[.int .u8 0, .string ⟨#[]⟩, .slice none 0 0] 24)).alloc (.cells #[] 52)).cell? ⟨w.heap.size + 1, 2, none⟩ = some (.slice none 0 0) by simp [go_sem])
  have F1 := Lib.hid (show (((w.alloc (.cells #[.int .u8 k, .string p, .slice q l.length c] 24)).alloc (.cells #[.int .u8 0, .string ⟨#[]⟩, .slice none 0 0] 24)).alloc (.cells #[] 52)).frozen? ⟨w.heap.size + 1, 0, none⟩ = false by simp [go_sem])
  have F2 := Lib.hid (show (((w.alloc (.cells #[.int .u8 k, .string p, .slice q l.length c] 24)).alloc (.cells #[.int .u8 0, .string ⟨#[]⟩, .slice none 0 0] 24)).alloc (.cells #[] 52)).frozen? ⟨w.heap.size + 1, 1, none⟩ = false by simp [go_sem])
  have F3 := Lib.hid (show (((w.alloc (.cells #[.int .u8 k, .string p, .slice q l.length c] 24)).alloc (.cells #[.int .u8 0, .string ⟨#[]⟩, .slice none 0 0] 24)).alloc (.cells #[] 52)).frozen? ⟨w.heap.size + 1, 2, none⟩ = false by simp [go_sem])
  clear h hO hWs
  go_enter Try.func21, Try.ntmps21
  go_wp2_with (at_builtin; go_must (refine wpList_copyE EM rfl _ _ 22 rfl (w.heap.size + 1 + 1) 52 i0 _ 40 underT hi hz0 hz1 hzb rfl _ 0 rfl (.inr HO.out) _ l c rfl HR.out hm1 hm HBS.out ?_; intro p' cap w1 h1 h2 h3 h4; have q0 := (h4.cell (p := ⟨w.heap.size, 0, none⟩) (by first | (simp; done) | (simp; omega))).trans Q0.out; have q1 := (h4.cell (p := ⟨w.heap.size, 1, none⟩) (by first | (simp; done) | (simp; omega))).trans Q1.out; have q2 := (h4.cell (p := ⟨w.heap.size, 2, none⟩) (by first | (simp; done) | (simp; omega))).trans Q2.out; have f0 := (h4.frozen (p := ⟨w.heap.size, 2, none⟩) (by first | (simp; done) | (simp; omega))).trans F0.out; have q3 := (h4.cell (p := ⟨w.heap.size + 1, 0, none⟩) (by first | (simp; done) | (simp; omega))).trans Q3.out; have q4 := (h4.cell (p := ⟨w.heap.size + 1, 1, none⟩) (by first | (simp; done) | (simp; omega))).trans Q4.out; have q5 := (h4.cell (p := ⟨w.heap.size + 1, 2, none⟩) (by first | (simp; done) | (simp; omega))).trans Q5.out; have f1 := (h4.frozen (p := ⟨w.heap.size + 1, 0, none⟩) (by first | (simp; done) | (simp; omega))).trans F1.out; have f2 := (h4.frozen (p := ⟨w.heap.size + 1, 1, none⟩) (by first | (simp; done) | (simp; omega))).trans F2.out; have f3 := (h4.frozen (p := ⟨w.heap.size + 1, 2, none⟩) (by first | (simp; done) | (simp; omega))).trans F3.out; have HO1 := Lib.hid (owns_of_copy h1 h3 HO.out); have H4 := Lib.hid h4; have hz1 : w.heap.size < w1.heap.size := (Nat.lt_of_lt_of_le (by first | (simp; done) | (simp; omega)) h4.size); have hz2 : w.heap.size + 1 < w1.heap.size := (Nat.lt_of_lt_of_le (by first | (simp; done) | (simp; omega)) h4.size); clear h1 h2 h3 h4))
  generalize hhs : w.heap.size = hs at *
  have HH := Lib.hid hhs
  clear hhs
  have n0 : ∀ o o' : Nat, (⟨hs, o, none⟩ : Addr) ≠ ⟨hs + 1, o', none⟩ := fun o o' h => by injection h with h _ _; omega
  have g3 : (w1.setCell ⟨hs, 2, none⟩ (.slice p' l.length cap)).cell? ⟨hs + 1, 0, none⟩ = some (.int .u8 0) := by rw [World.cell?_setCell_other _ _ _ _ (n0 _ _)]; exact q3
  have g4 : (w1.setCell ⟨hs, 2, none⟩ (.slice p' l.length cap)).cell? ⟨hs + 1, 1, none⟩ = some (.string ⟨#[]⟩) := by rw [World.cell?_setCell_other _ _ _ _ (n0 _ _)]; exact q4
  have g5 : (w1.setCell ⟨hs, 2, none⟩ (.slice p' l.length cap)).cell? ⟨hs + 1, 2, none⟩ = some (.slice none 0 0) := by rw [World.cell?_setCell_other _ _ _ _ (n0 _ _)]; exact q5
  obtain ⟨L1, L2, L3⟩ := load3 g3 g4 g5 (.int .u8 k) (.string p) (.slice p' l.length cap)
  refine bodyPost_ret (v := .agg #[.int .u8 k, .string p, .slice p' l.length cap]) ?_ rfl ?_
  · clear n0
    simp [results, Try.results21, go_sem, L1, L2, L3]
  have hbb : Below hs w w1 := HB.out.trans ((Below.alloc (Below.refl _ _) (by have := HH.out; simp; omega) _).trans (H4.out.mono (by omega)))
  exact cf_post (ownsRow_setCell_below (ownsRow_setCell_below (ownsRow_setCell_below (ownsRow_setCell_below HO1.out (a := ⟨hs, 2, none⟩) (by show hs < _; omega) _) (a := ⟨hs + 1, 0, none⟩) (by show hs + 1 < _; omega) _) (a := ⟨hs + 1, 1, none⟩) (by show hs + 1 < _; omega) _) (a := ⟨hs + 1, 2, none⟩) (by show hs + 1 < _; omega) _) (by omega) ((((hbb.setCell (p := ⟨hs, 2, none⟩) (Nat.le_refl _) _).setCell (p := ⟨hs + 1, 0, none⟩) (by show hs ≤ hs + 1; omega) _).setCell (p := ⟨hs + 1, 1, none⟩) (by show hs ≤ hs + 1; omega) _).setCell (p := ⟨hs + 1, 2, none⟩) (by show hs ≤ hs + 1; omega) _)

end Go.Proofs.Ytbkdpdklpmcdgaa
