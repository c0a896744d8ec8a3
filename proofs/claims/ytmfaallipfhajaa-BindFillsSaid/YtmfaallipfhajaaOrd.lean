/-
  Plain mathematics: the order of byte lists, of numbers, of values: total orders. Nothing of the program.
-/
import GoSem.Op.String
namespace Go.Proofs.Ytmfaallipfhajaa

def lexI (p q : Int) : Int := if p = 0 then q else p
def Tri (p : Int) : Prop := p = -1 ∨ p = 0 ∨ p = 1
def Tr (p q r : Int) : Prop := p ≤ 0 → q ≤ 0 → r ≤ 0 ∧ (r = 0 → p = 0 ∧ q = 0)

def cmpI (a b : Int) : Int := if a < b then -1 else if b < a then 1 else 0
def cmpL : List UInt8 → List UInt8 → Int
  | [], [] => 0
  | [], _ :: _ => -1
  | _ :: _, [] => 1
  | a :: x, b :: y => lexI (cmpI a.toNat b.toNat) (cmpL x y)
def cmpV (s : List UInt8) (n : Int) (t : List UInt8) (m : Int) : Int := lexI (cmpL s t) (cmpI n m)

theorem lexI_tri (p q : Int) (h : Tri p) (k : Tri q) : Tri (lexI p q) := by unfold lexI; split <;> assumption
theorem lexI_neg (p q : Int) : lexI (-p) (-q) = - lexI p q := by unfold lexI; by_cases h : p = 0 <;> simp [h]
theorem lexI_zero (p q : Int) : lexI p q = 0 ↔ p = 0 ∧ q = 0 := by unfold lexI; by_cases h : p = 0 <;> simp [h]
theorem lexI_tr (p q r p' q' r' : Int) (h : Tr p q r) (k : Tr p' q' r') (e1 : p = 0 → r = q) (e2 : q = 0 → r = p) : Tr (lexI p p') (lexI q q') (lexI r r') := by
  unfold Tr lexI at *
  intro a b
  by_cases hp : p = 0
  · have e := e1 hp
    subst e
    by_cases hq : r = 0
    · rw [if_pos hp] at a ⊢; rw [if_pos hq] at b ⊢; rw [if_pos hq]; exact k a b
    · rw [if_neg hq] at b ⊢; rw [if_neg hq, if_pos hp]; exact ⟨b, fun c => absurd c hq⟩
  · rw [if_neg hp] at a ⊢
    by_cases hq : q = 0
    · have e := e2 hq
      subst e
      rw [if_neg hp, if_pos hq]; exact ⟨a, fun c => absurd c hp⟩
    · rw [if_neg hq] at b ⊢
      have := h a b
      by_cases hr : r = 0
      · exact absurd (this.2 hr).1 hp
      · rw [if_neg hr]; exact this

theorem cmpI_tri (a b : Int) : Tri (cmpI a b) := by unfold Tri cmpI; (repeat' split) <;> omega
theorem cmpI_swap (a b : Int) : cmpI b a = - cmpI a b := by unfold cmpI; (repeat' split) <;> omega
theorem cmpI_zero (a b : Int) : cmpI a b = 0 ↔ a = b := by unfold cmpI; (repeat' split) <;> omega
theorem cmpI_tr (a b c : Int) : Tr (cmpI a b) (cmpI b c) (cmpI a c) := by unfold Tr cmpI; (repeat' split) <;> omega

theorem cmpL_tri : ∀ x y, Tri (cmpL x y)
  | [], [] => by simp [cmpL, Tri]
  | [], _ :: _ => by simp [cmpL, Tri]
  | _ :: _, [] => by simp [cmpL, Tri]
  | _ :: x, _ :: y => lexI_tri _ _ (cmpI_tri _ _) (cmpL_tri x y)
theorem cmpL_swap : ∀ x y, cmpL y x = - cmpL x y
  | [], [] => by simp [cmpL]
  | [], _ :: _ => by simp [cmpL]
  | _ :: _, [] => by simp [cmpL]
  | a :: x, b :: y => by rw [cmpL, cmpL, cmpI_swap a.toNat b.toNat, cmpL_swap x y, lexI_neg]
theorem cmpL_zero : ∀ x y, cmpL x y = 0 ↔ x = y
  | [], [] => by simp [cmpL]
  | [], _ :: _ => by simp [cmpL]
  | _ :: _, [] => by simp [cmpL]
  | a :: x, b :: y => by
    rw [cmpL, lexI_zero, cmpI_zero, cmpL_zero x y, List.cons.injEq, ← UInt8.toNat_inj, Int.ofNat_inj]
theorem cmpL_tr : ∀ x y z, Tr (cmpL x y) (cmpL y z) (cmpL x z)
  | [], [], [] => by simp [cmpL, Tr]
  | [], [], _ :: _ => by simp [cmpL, Tr]
  | [], _ :: _, [] => by simp [cmpL, Tr]
  | [], _ :: _, _ :: _ => by simp [cmpL, Tr]
  | _ :: _, [], _ => by simp [cmpL, Tr]
  | _ :: _, _ :: _, [] => by simp [cmpL, Tr]
  | a :: x, b :: y, c :: z => lexI_tr _ _ _ _ _ _ (cmpI_tr _ _ _) (cmpL_tr x y z) (fun h => by rw [(cmpI_zero _ _).1 h]) (fun h => by rw [(cmpI_zero _ _).1 h])
theorem cmpL_less : ∀ x y, Op.bytesLess x y = decide (cmpL x y = -1)
  | [], [] => by simp [cmpL, Op.bytesLess]
  | [], _ :: _ => by simp [cmpL, Op.bytesLess]
  | _ :: _, [] => by simp [cmpL, Op.bytesLess]
  | a :: x, b :: y => by
    rw [cmpL, Op.bytesLess, cmpL_less x y]
    unfold lexI cmpI
    by_cases h : a < b
    · have h' : (a.toNat : Int) < b.toNat := by have := UInt8.lt_iff_toNat_lt.1 h; omega
      simp [h, h']
    · have h' : ¬ (a.toNat : Int) < b.toNat := by have := mt UInt8.lt_iff_toNat_lt.2 h; omega
      by_cases k : (b.toNat : Int) < a.toNat
      · have : a ≠ b := by rintro rfl; omega
        simp [h, h', k, this]
      · have e : a = b := UInt8.toNat_inj.1 (by omega)
        simp [e]

theorem cmpV_tri (s n t m) : Tri (cmpV s n t m) := lexI_tri _ _ (cmpL_tri _ _) (cmpI_tri _ _)
theorem cmpV_swap (s n t m) : cmpV t m s n = - cmpV s n t m := by unfold cmpV; rw [cmpL_swap s t, cmpI_swap n m, lexI_neg]
theorem cmpV_zero (s n t m) : cmpV s n t m = 0 ↔ s = t ∧ n = m := by unfold cmpV; rw [lexI_zero, cmpL_zero, cmpI_zero]
theorem cmpV_tr (s n t m u o) : Tr (cmpV s n t m) (cmpV t m u o) (cmpV s n u o) :=
  lexI_tr _ _ _ _ _ _ (cmpL_tr _ _ _) (cmpI_tr _ _ _) (fun h => by rw [(cmpL_zero _ _).1 h]) (fun h => by rw [(cmpL_zero _ _).1 h])
end Go.Proofs.Ytmfaallipfhajaa
