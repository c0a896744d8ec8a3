/-
  Contract: value.Read at every text.
-/
import Derived.Test.YtpkccmceobonnaaDoorText
namespace Go.Proofs.YtpkccmceobonnaaDoor
open Go.RowKit Go.Sort

/-- the number that a text is the text of -/
def readN (s : ByteArray) : Option Int := match Lib.parseIntB 64 s.data.toList with
  | .ok v => if Lib.itoa v = s.data.toList then some v else none
  | _ => none
/-- what value.Read answers -/
def readV (s : ByteArray) : Value := if nameB s = true then .tuple #[.agg #[.string s, .int .i64 0], .bool true] else
  match readN s with
  | some v => .tuple #[.agg #[.string ⟨#[]⟩, .int .i64 v], .bool true]
  | none => .tuple #[.agg #[.string ⟨#[]⟩, .int .i64 0], .bool false]

theorem parseUintM_le (M : Nat) : ∀ (l : List UInt8) (acc u : Nat), acc ≤ M → Lib.parseUintM M acc l = .ok u → u ≤ M
  | [], acc, u, h, e => by simp [Lib.parseUintM] at e; omega
  | c :: r, acc, u, h, e => by
    rw [Lib.parseUintM] at e
    by_cases h1 : 48 ≤ c.toNat ∧ c.toNat ≤ 57
    · rw [if_pos h1] at e
      by_cases h2 : 1844674407370955162 ≤ acc
      · rw [if_pos h2] at e; cases e
      · rw [if_neg h2] at e
        by_cases h3 : M < acc * 10 + (c.toNat - 48)
        · rw [if_pos h3] at e; cases e
        · rw [if_neg h3] at e; exact parseUintM_le M r _ u (by omega) e
    · rw [if_neg h1] at e; cases e
theorem parseIntB_bd (l : List UInt8) (v : Int) (h : Lib.parseIntB 64 l = .ok v) : -9223372036854775808 ≤ v ∧ v ≤ 9223372036854775807 := by
  unfold Lib.parseIntB at h
  cases l with
  | nil => cases h
  | cons c r =>
    simp only at h
    split at h
    · cases h
    · cases h
    · rename_i u hu
      by_cases h1 : ¬ (c.toNat = 45) ∧ 2 ^ (64 - 1) ≤ u
      · rw [if_pos h1] at h; cases h
      · rw [if_neg h1] at h
        by_cases h2 : c.toNat = 45 ∧ 2 ^ (64 - 1) < u
        · rw [if_pos h2] at h; cases h
        · rw [if_neg h2] at h
          simp only [Lib.NumEnd.ok.injEq] at h
          have e63 : (2 : Nat) ^ (64 - 1) = 9223372036854775808 := by decide
          rw [e63] at h1 h2
          by_cases h3 : c.toNat = 45
          · rw [if_pos h3] at h; omega
          · rw [if_neg h3] at h; omega

theorem below_bytes {w w1 : World} (h : w1 = w ∨ ∃ t, w1 = Lib.bytesWorld w 5 t) : Below w.heap.size w w1 := by
  rcases h with rfl | ⟨t, rfl⟩
  · exact Below.refl _ _
  · exact Lib.bytesWorld_below _ _ _

set_option maxHeartbeats 1000000 in
theorem read_num (s : ByteArray) (w : World) (hs : s.size ≤ 140737488351232) (hn : nameB s = false) (v : Int) (hp : Lib.parseIntB 64 s.data.toList = .ok v) (he : Env w) :
    Calls Tryd.prog 21 #[.string s] w fun e w' => e = .returned (if Lib.itoa v = s.data.toList then .tuple #[.agg #[.string ⟨#[]⟩, .int .i64 v], .bool true] else .tuple #[.agg #[.string ⟨#[]⟩, .int .i64 0], .bool false]) ∧ Below w.heap.size w w' := by
  obtain ⟨h0, h1⟩ := parseIntB_bd _ _ hp
  have hm : s.size ≤ maxLen := by unfold maxLen; omega
  have hB := (Below.refl w.heap.size w).alloc (Nat.le_refl _) (.cells #[.string ⟨#[]⟩, .int .i64 0] 43)
  have HB := Lib.hid hB
  have HE := Lib.hid he
  have HP := Lib.hid hp
  clear he hp hB
  by_cases hi : Lib.itoa v = s.data.toList
  · rw [if_pos hi]
    have hq : ((itoaS v).toList == s.toList) = true := by rw [ByteArray.toList_eq, ByteArray.toList_eq]; simp [itoaS, hi]
    clear hi
    go_enter Tryd.func21, Tryd.ntmps21
    go_wp2_with (go_at_call 24; refine (name_any _ _ hm).mono ?_; rintro e w' ⟨rfl, rfl⟩)
    refine (Tryd.strconv_ParseInt_10_at64_ok s (by omega) v HP.out _).mono ?_
    rintro e w1 ⟨rfl, hw1⟩
    have hb1 := below_bytes hw1
    clear hw1
    obtain ⟨hc1, hf1⟩ := bcell hb1
    have hs1 := hb1.size
    go_wp2_with fail
    refine (formatInt_any v _ h0 h1 ((HE.out.on HB.out).on hb1)).mono ?_
    rintro e w2 ⟨rfl, hb2⟩
    obtain ⟨hc2, hf2⟩ := bcell hb2
    have hs2 := hb2.size
    have hz : w.heap.size < w1.heap.size := by simp at hs1; omega
    have hz2 : w.heap.size < w2.heap.size := by omega
    go_wp2_with fail
    refine bodyPost_ret (v := .tuple #[.agg #[.string ⟨#[]⟩, .int .i64 v], .bool true]) (by simp [results, Tryd.results21, go_sem, hc1, hc2, hz]) rfl ⟨rfl, ?_⟩
    exact (((HB.out.trans (hb1.mono HB.out.size)).trans (hb2.mono (by have := HB.out.size; omega))).setCell (Nat.le_refl _) _).setCell (Nat.le_refl _) _
  · rw [if_neg hi]
    have hq : ((itoaS v).toList == s.toList) = false := by rw [ByteArray.toList_eq, ByteArray.toList_eq]; simp [itoaS, hi]
    clear hi
    go_enter Tryd.func21, Tryd.ntmps21
    go_wp2_with (go_at_call 24; refine (name_any _ _ hm).mono ?_; rintro e w' ⟨rfl, rfl⟩)
    refine (Tryd.strconv_ParseInt_10_at64_ok s (by omega) v HP.out _).mono ?_
    rintro e w1 ⟨rfl, hw1⟩
    have hb1 := below_bytes hw1
    clear hw1
    obtain ⟨hc1, hf1⟩ := bcell hb1
    have hs1 := hb1.size
    go_wp2_with fail
    refine (formatInt_any v _ h0 h1 ((HE.out.on HB.out).on hb1)).mono ?_
    rintro e w2 ⟨rfl, hb2⟩
    obtain ⟨hc2, hf2⟩ := bcell hb2
    have hs2 := hb2.size
    have hz : w.heap.size < w1.heap.size := by simp at hs1; omega
    have hz2 : w.heap.size < w2.heap.size := by omega
    go_wp2_with fail
    refine bodyPost_ret (v := .tuple #[.agg #[.string ⟨#[]⟩, .int .i64 0], .bool false]) (by simp [results, Tryd.results21, go_sem, hc1, hc2, hz]) rfl ⟨rfl, ?_⟩
    exact (((HB.out.trans (hb1.mono HB.out.size)).trans (hb2.mono (by have := HB.out.size; omega))).setCell (Nat.le_refl _) _).setCell (Nat.le_refl _) _
end Go.Proofs.YtpkccmceobonnaaDoor
