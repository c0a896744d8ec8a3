/-
  Contract: the reference's Right answers as rightB says.
-/
import Derived.Test.YtdoadclblloddaaDoorRight
namespace Go.Proofs.YtdoadclblloddaaDoor
open Go.RowKit

theorem sz_pos (s : ByteArray) : decide (0 < s.size) = !s.toList.isEmpty := by
  rw [ByteArray.toList_eq]
  obtain ⟨⟨l⟩⟩ := s
  cases l with
  | nil => rfl
  | cons c r => show decide (0 < r.length + 1) = true; simp

set_option maxHeartbeats 1000000 in
theorem refright_no (p : ByteArray) (q : Option Addr) (c : Nat) (l : List Vl) (w : World) (hm : l.length ≤ maxLen) (hp : p.size ≤ maxLen)
    (h : nameB p = false ∨ l.length < 1 ∨ 5 < l.length) :
    Calls Tryd.prog 18 #[.agg #[.string p, .slice q l.length c]] w fun e w' => e = .returned (.bool false) ∧ Below w.heap.size w w' := by
  unfold maxLen at hm
  have hB := Lib.hid (show ∀ o, Below w.heap.size w (w.alloc o) from fun o => (Below.refl _ _).alloc (Nat.le_refl _) o)
  by_cases h0 : nameB p = false
  · clear h
    go_enter Tryd.func18, Tryd.ntmps18
    go_wp2_with (go_at_call 14; refine (refname_any _ _ hp).mono ?_; rintro e w' ⟨rfl, rfl⟩)
    go_ret
    exact ⟨rfl, hB.out _⟩
  · have h0 : nameB p = true := by simpa using h0
    by_cases h1 : l.length < 1
    · have h2 : ¬ 5 < l.length := by omega
      clear h
      go_enter Tryd.func18, Tryd.ntmps18
      go_wp2_with (go_at_call 14; refine (refname_any _ _ hp).mono ?_; rintro e w' ⟨rfl, rfl⟩)
      go_ret
      exact ⟨rfl, hB.out _⟩
    · have h2 : 5 < l.length := by rcases h with h | h | h <;> simp_all
      clear h
      go_enter Tryd.func18, Tryd.ntmps18
      go_wp2_with (go_at_call 14; refine (refname_any _ _ hp).mono ?_; rintro e w' ⟨rfl, rfl⟩)
      go_ret
      exact ⟨rfl, hB.out _⟩

set_option maxHeartbeats 1000000 in
theorem refright_loop (p : ByteArray) (q : Option Addr) (c : Nat) (l : List Vl) (w : World) (hv : Vals w w.heap.size q l) (hp : p.size ≤ maxLen) (hz : SzOk l)
    (h1 : 0 < l.length) (h2 : l.length ≤ 5) (h4 : nameB p = true) :
    Calls Tryd.prog 18 #[.agg #[.string p, .slice q l.length c]] w fun e w' => e = .returned (.bool (goodAll l && !(hdS l).toList.isEmpty)) ∧ Below w.heap.size w w' := by
  obtain ⟨b, o, rfl, hb, hc⟩ : ∃ b off, q = some ⟨b, off, none⟩ ∧ b < w.heap.size ∧ ∀ i (h : i < l.length), w.cell? ⟨b, off + i * 2, none⟩ = some (.string l[i].1) ∧ w.cell? ⟨b, off + i * 2 + 1, none⟩ = some (.int .i64 l[i].2) := by
    rcases hv with h | h
    · subst h; simp at h1
    · exact h
  have HC := Lib.hid hc
  have HZ := Lib.hid hz
  have HP := Lib.hid (sz_pos (hdS l))
  have hh1 : (hdS l).size ≤ maxLen := by rw [← hdS_eq l h1]; exact hz 0 h1
  unfold maxLen at hh1
  have HH := Lib.hid (hdS_eq l h1)
  have hW := Lib.hid (show Below w.heap.size w (w.alloc (.cells #[.string p, .slice (some ⟨b, o, none⟩) l.length c] 28)) from (Below.refl _ _).alloc (Nat.le_refl _) _)
  clear hc hv hz
  go_enter Tryd.func18, Tryd.ntmps18
  go_wp2_with (go_at_call 14; refine (refname_any _ _ hp).mono ?_; rintro e w' ⟨rfl, rfl⟩)
  generalize hW0 : w.alloc (.cells #[.string p, .slice (some ⟨b, o, none⟩) l.length c] 28) = w0 at *
  have k0 : w0.cell? ⟨w.heap.size, 0, none⟩ = some (.string p) := by rw [← hW0]; simp
  have k1 : w0.cell? ⟨w.heap.size, 1, none⟩ = some (.slice (some ⟨b, o, none⟩) l.length c) := by rw [← hW0]; simp
  have hs0 : w.heap.size < w0.heap.size := by rw [← hW0]; simp
  have hs1 : b < w0.heap.size := by omega
  clear hW0
  go_loopw [3] (fun i wr => ∃ k : Nat, k ≤ l.length ∧ i = .int .i64 k ∧ goodAll (l.take k) = true ∧ Below w0.heap.size w0 wr) (fun i _ => l.length - (intOf i).toNat)
  case atStart => exact ⟨0, Nat.zero_le _, rfl, rfl, Below.refl _ _⟩
  case round =>
    obtain ⟨k, hk, rfl, hg, hbw⟩ := hrel
    have HG := Lib.hid hg
    have hsz := hbw.size
    have q1 : wr.cell? ⟨w.heap.size, 1, none⟩ = some (.slice (some ⟨b, o, none⟩) l.length c) := by rw [hbw.cell (p := ⟨w.heap.size, 1, none⟩) hs0]; exact k1
    clear hg
    by_cases hlt : k < l.length
    · have x0 : wr.cell? ⟨b, o + k * 2, none⟩ = some (.string l[k].1) := by rw [hbw.cell (p := ⟨b, o + k * 2, none⟩) hs1, hW.out.cell (p := ⟨b, o + k * 2, none⟩) hb]; exact (HC.out k hlt).1
      have x1 : wr.cell? ⟨b, o + k * 2 + 1, none⟩ = some (.int .i64 l[k].2) := by rw [hbw.cell (p := ⟨b, o + k * 2 + 1, none⟩) hs1, hW.out.cell (p := ⟨b, o + k * 2 + 1, none⟩) hb]; exact (HC.out k hlt).2
      by_cases hgk : goodB l[k].1 l[k].2 = true
      · have HN := Lib.hid (goodTo_snoc l k hlt HG.out hgk)
        go_wp2_with (go_at_call 16; refine (refgood_any _ _ _ (HZ.out k hlt)).mono ?_; rintro e w1 ⟨rfl, hb1⟩)
        go_roundw
        case rel => exact ⟨k + 1, by omega, by go_num, HN.out, hbw.trans (hb1.mono hsz)⟩
        case measure => simp [intOf]; omega
      · have hgk : goodB l[k].1 l[k].2 = false := by simpa using hgk
        have HN := Lib.hid (goodAll_no l k hlt hgk)
        go_wp2_with (go_at_call 16; refine (refgood_any _ _ _ (HZ.out k hlt)).mono ?_; rintro e w1 ⟨rfl, hb1⟩)
        go_ret
        exact ⟨by rw [HN.out]; rfl, hW.out.trans ((hbw.trans (hb1.mono hsz)).mono (by omega))⟩
    · have x0 : wr.cell? ⟨b, o, none⟩ = some (.string (hdS l)) := by
        rw [hbw.cell (p := ⟨b, o, none⟩) hs1, hW.out.cell (p := ⟨b, o, none⟩) hb]
        have := (HC.out 0 h1).1
        rw [HH.out] at this
        simpa using this
      go_wp2_with fail
      go_ret
      obtain rfl : k = l.length := by omega
      exact ⟨by rw [goodAll_all l HG.out, Bool.true_and, ← HP.out]; rfl, hW.out.trans (hbw.mono (by omega))⟩

theorem refright_any (p : ByteArray) (q : Option Addr) (c : Nat) (l : List Vl) (w : World) (hv : Vals w w.heap.size q l) (hm : l.length ≤ maxLen) (hp : p.size ≤ maxLen) (hz : SzOk l) :
    Calls Tryd.prog 18 #[.agg #[.string p, .slice q l.length c]] w fun e w' => e = .returned (.bool (rightB p l)) ∧ Below w.heap.size w w' := by
  by_cases h : nameB p = false ∨ l.length < 1 ∨ 5 < l.length
  · have e : rightB p l = false := by
      unfold rightB
      rcases h with h | h | h
      · simp [h]
      · have : ¬ 1 ≤ l.length := by omega
        simp [this]
      · have : ¬ l.length ≤ 5 := by omega
        simp [this]
    rw [e]; exact refright_no p q c l w hm hp h
  · simp only [not_or, Bool.not_eq_false] at h
    obtain ⟨a4, a1, a2⟩ := h
    have e : rightB p l = (goodAll l && !(hdS l).toList.isEmpty) := by
      unfold rightB
      have b1 : 1 ≤ l.length := by omega
      have b2 : l.length ≤ 5 := by omega
      simp [b1, b2, a4, Bool.and_comm]
    rw [e]; exact refright_loop p q c l w hv hp hz (by omega) (by omega) a4
end Go.Proofs.YtdoadclblloddaaDoor
