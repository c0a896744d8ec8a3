/-
  Contracts: value.Right and the reference's Right answer as rightB says.
-/
import Derived.Test.YtdoadclblloddaaDoorOrder
namespace Go.Proofs.YtdoadclblloddaaDoor
open Go.RowKit

def goodAll (l : List Vl) : Bool := l.all fun v => goodB v.1 v.2
def hdS (l : List Vl) : ByteArray := (l.headD (⟨#[]⟩, 0)).1
def rightB (p : ByteArray) (l : List Vl) : Bool := decide (1 ≤ l.length) && decide (l.length ≤ 5) && !(hdS l).toList.isEmpty && nameB p && goodAll l
def SzOk (l : List Vl) : Prop := ∀ i (h : i < l.length), l[i].1.size ≤ maxLen

theorem goodTo_snoc (l : List Vl) (k : Nat) (h : k < l.length) (a : goodAll (l.take k) = true) (b : goodB l[k].1 l[k].2 = true) : goodAll (l.take (k + 1)) = true := by
  rw [List.take_succ_eq_append_getElem h]; unfold goodAll at *; rw [List.all_append, a]; simp [b]
theorem goodAll_no (l : List Vl) (k : Nat) (h : k < l.length) (b : goodB l[k].1 l[k].2 = false) : goodAll l = false := by
  unfold goodAll
  rw [Bool.eq_false_iff]; intro hh
  have := List.all_eq_true.1 hh l[k] (List.getElem_mem h)
  rw [b] at this; cases this
theorem goodAll_all (l : List Vl) (a : goodAll (l.take l.length) = true) : goodAll l = true := by rwa [List.take_length] at a
theorem hdS_eq (l : List Vl) (h : 0 < l.length) : l[0].1 = hdS l := by
  match l, h with
  | x :: r, _ => rfl

set_option maxHeartbeats 1000000 in
theorem right_no (p : ByteArray) (q : Option Addr) (c : Nat) (l : List Vl) (w : World) (hv : Vals w w.heap.size q l) (hm : l.length ≤ maxLen) (hp : p.size ≤ maxLen)
    (h : l.length < 1 ∨ 5 < l.length ∨ (hdS l).toList.isEmpty = true ∨ nameB p = false) :
    Calls Tryd.prog 17 #[.agg #[.string p, .slice q l.length c]] w fun e w' => e = .returned (.bool false) ∧ Below w.heap.size w w' := by
  unfold maxLen at hm
  have hB := Lib.hid (show ∀ o, Below w.heap.size w (w.alloc o) from fun o => (Below.refl _ _).alloc (Nat.le_refl _) o)
  by_cases h1 : l.length < 1
  · have h2 : ¬ 5 < l.length := by omega
    clear h
    go_enter Tryd.func17, Tryd.ntmps17
    go_wp2_with fail
    go_ret
    exact ⟨rfl, hB.out _⟩
  · by_cases h2 : 5 < l.length
    · clear h
      go_enter Tryd.func17, Tryd.ntmps17
      go_wp2_with fail
      go_ret
      exact ⟨rfl, hB.out _⟩
    · have hl : 0 < l.length := by omega
      obtain ⟨b, o, rfl, hb, hc⟩ : ∃ b off, q = some ⟨b, off, none⟩ ∧ b < w.heap.size ∧ ∀ i (h : i < l.length), w.cell? ⟨b, off + i * 2, none⟩ = some (.string l[i].1) ∧ w.cell? ⟨b, off + i * 2 + 1, none⟩ = some (.int .i64 l[i].2) := by
        rcases hv with h | h
        · subst h; simp at hl
        · exact h
      have c0 := (hc 0 hl).1
      rw [hdS_eq l hl] at c0
      simp only [Nat.zero_mul, Nat.add_zero] at c0
      clear hc hv
      by_cases h3 : (hdS l).toList.isEmpty = true
      · clear h
        go_enter Tryd.func17, Tryd.ntmps17
        go_wp2_with fail
        go_ret
        exact ⟨rfl, hB.out _⟩
      · have h3 : (hdS l).toList.isEmpty = false := by simpa using h3
        have h4 : nameB p = false := by rcases h with h | h | h | h <;> simp_all
        clear h
        go_enter Tryd.func17, Tryd.ntmps17
        go_wp2_with (go_at_call 13; refine (name_any _ _ hp).mono ?_; rintro e w' ⟨rfl, rfl⟩)
        go_ret
        exact ⟨rfl, hB.out _⟩

set_option maxHeartbeats 1000000 in
theorem right_loop (p : ByteArray) (q : Option Addr) (c : Nat) (l : List Vl) (w : World) (hv : Vals w w.heap.size q l) (hp : p.size ≤ maxLen) (hz : SzOk l)
    (h1 : 0 < l.length) (h2 : l.length ≤ 5) (h3 : (hdS l).toList.isEmpty = false) (h4 : nameB p = true) :
    Calls Tryd.prog 17 #[.agg #[.string p, .slice q l.length c]] w fun e w' => e = .returned (.bool (goodAll l)) ∧ Below w.heap.size w w' := by
  obtain ⟨b, o, rfl, hb, hc⟩ : ∃ b off, q = some ⟨b, off, none⟩ ∧ b < w.heap.size ∧ ∀ i (h : i < l.length), w.cell? ⟨b, off + i * 2, none⟩ = some (.string l[i].1) ∧ w.cell? ⟨b, off + i * 2 + 1, none⟩ = some (.int .i64 l[i].2) := by
    rcases hv with h | h
    · subst h; simp at h1
    · exact h
  have HC := Lib.hid hc
  have c0 := (hc 0 h1).1
  rw [hdS_eq l h1] at c0
  simp only [Nat.zero_mul, Nat.add_zero] at c0
  have HZ := Lib.hid hz
  clear hc hv hz
  go_enter Tryd.func17, Tryd.ntmps17
  go_wp2_with (go_at_call 13; refine (name_any _ _ hp).mono ?_; rintro e w' ⟨rfl, rfl⟩)
  go_loopw [32] (fun i wr => ∃ k : Nat, k ≤ l.length ∧ i = .int .i64 k ∧ goodAll (l.take k) = true ∧ Below w.heap.size w wr) (fun i _ => l.length - (intOf i).toNat)
  case atStart => exact ⟨0, Nat.zero_le _, rfl, rfl, (Below.refl _ _).alloc (Nat.le_refl _) _⟩
  case round =>
    obtain ⟨k, hk, rfl, hg, hbw⟩ := hrel
    have HG := Lib.hid hg
    have hsz := hbw.size
    clear hg
    by_cases hlt : k < l.length
    · have x0 : wr.cell? ⟨b, o + k * 2, none⟩ = some (.string l[k].1) := by rw [hbw.cell (p := ⟨b, o + k * 2, none⟩) hb]; exact (HC.out k hlt).1
      have x1 : wr.cell? ⟨b, o + k * 2 + 1, none⟩ = some (.int .i64 l[k].2) := by rw [hbw.cell (p := ⟨b, o + k * 2 + 1, none⟩) hb]; exact (HC.out k hlt).2
      by_cases hgk : goodB l[k].1 l[k].2 = true
      · have HN := Lib.hid (goodTo_snoc l k hlt HG.out hgk)
        go_wp2_with (go_at_call 15; refine (good_any _ _ _ (HZ.out k hlt)).mono ?_; rintro e w1 ⟨rfl, hb1⟩)
        go_roundw
        case rel => exact ⟨k + 1, by omega, by go_num, HN.out, (hbw.alloc hsz _).trans (hb1.mono (by simp; omega))⟩
        case measure => simp [intOf]; omega
      · have hgk : goodB l[k].1 l[k].2 = false := by simpa using hgk
        have HN := Lib.hid (goodAll_no l k hlt hgk)
        go_wp2_with (go_at_call 15; refine (good_any _ _ _ (HZ.out k hlt)).mono ?_; rintro e w1 ⟨rfl, hb1⟩)
        go_ret
        exact ⟨by rw [HN.out]; rfl, (hbw.alloc hsz _).trans (hb1.mono (by simp; omega))⟩
    · go_wp2_with fail
      go_ret
      obtain rfl : k = l.length := by omega
      exact ⟨by rw [goodAll_all l HG.out]; rfl, hbw⟩

theorem right_any (p : ByteArray) (q : Option Addr) (c : Nat) (l : List Vl) (w : World) (hv : Vals w w.heap.size q l) (hm : l.length ≤ maxLen) (hp : p.size ≤ maxLen) (hz : SzOk l) :
    Calls Tryd.prog 17 #[.agg #[.string p, .slice q l.length c]] w fun e w' => e = .returned (.bool (rightB p l)) ∧ Below w.heap.size w w' := by
  by_cases h : l.length < 1 ∨ 5 < l.length ∨ (hdS l).toList.isEmpty = true ∨ nameB p = false
  · have e : rightB p l = false := by
      unfold rightB
      rcases h with h | h | h | h
      · have : ¬ 1 ≤ l.length := by omega
        simp [this]
      · have : ¬ l.length ≤ 5 := by omega
        simp [this]
      · simp [h]
      · simp [h]
    rw [e]; exact right_no p q c l w hv hm hp h
  · simp only [not_or, Bool.not_eq_true, Bool.not_eq_false] at h
    obtain ⟨a1, a2, a3, a4⟩ := h
    have e : rightB p l = goodAll l := by
      unfold rightB
      have b1 : 1 ≤ l.length := by omega
      have b2 : l.length ≤ 5 := by omega
      simp [b1, b2, a3, a4]
    rw [e]; exact right_loop p q c l w hv hp hz (by omega) (by omega) a3 a4
end Go.Proofs.YtdoadclblloddaaDoor
