/-
  Contracts: lex.kind, the reference's Kind.
-/
import Derived.Test.YtpkccmceobonnaaDoorLexS
import Derived.Test.YtpkccmceobonnaaDoorLexC
namespace Go.Proofs.YtpkccmceobonnaaDoor
open Go.RowKit

theorem refread_parts (s : ByteArray) (w : World) (hs : s.size ≤ maxLen) :
    Calls Tryd.prog 23 #[.string s] w fun e w' => e = .returned (.tuple #[.agg #[.string (readS s), .int .i64 (readI s)], .bool (readB s)]) ∧ Below w.heap.size w w' := by
  rw [← readV_eq]; exact refread_any s w hs
theorem read_parts (s : ByteArray) (w : World) (hs : s.size ≤ 140737488351232) (he : Env w) :
    Calls Tryd.prog 21 #[.string s] w fun e w' => e = .returned (.tuple #[.agg #[.string (readS s), .int .i64 (readI s)], .bool (readB s)]) ∧ Below w.heap.size w w' := by
  rw [← readV_eq]; exact read_any s w hs he

/-- a piece's kind, by what its readers say -/
theorem kindL_eq (s : ByteArray) : kindL s.data.toList = if wordB s = true then 5 else if (upB (hdB s) && decide (s.size ≤ 16)) = true then 2 else if nameB s = true then 1 else if (readN s).isSome = true then 3 else 0 := by
  unfold kindL
  rw [wordB_eq, nameB_eq, mk_toList]
  rfl
theorem kind_word (s : ByteArray) (h : wordB s = true) : kindL s.data.toList = 5 := by rw [kindL_eq, if_pos h]
theorem kind_var (s : ByteArray) (h : wordB s = false) (h2 : (upB (hdB s) && decide (s.size ≤ 16)) = true) : kindL s.data.toList = 2 := by rw [kindL_eq, if_neg (by rw [h]; decide), if_pos h2]
theorem kind_name (s : ByteArray) (h : wordB s = false) (h2 : (upB (hdB s) && decide (s.size ≤ 16)) = false) (h3 : nameB s = true) : kindL s.data.toList = 1 := by rw [kindL_eq, if_neg (by rw [h]; decide), if_neg (by rw [h2]; decide), if_pos h3]
theorem kind_num (s : ByteArray) (h : wordB s = false) (h2 : (upB (hdB s) && decide (s.size ≤ 16)) = false) (h3 : nameB s = false) (h4 : (readN s).isSome = true) : kindL s.data.toList = 3 := by rw [kindL_eq, if_neg (by rw [h]; decide), if_neg (by rw [h2]; decide), if_neg (by rw [h3]; decide), if_pos h4]
theorem kind_no (s : ByteArray) (h : wordB s = false) (h2 : (upB (hdB s) && decide (s.size ≤ 16)) = false) (h3 : nameB s = false) (h4 : (readN s).isSome = false) : kindL s.data.toList = 0 := by rw [kindL_eq, if_neg (by rw [h]; decide), if_neg (by rw [h2]; decide), if_neg (by rw [h3]; decide), if_neg (by rw [h4]; decide)]
theorem name_noup (s : ByteArray) (h : nameB s = true) : upB (hdB s) = false := by
  unfold nameB at h
  simp only [Bool.and_eq_true] at h
  have h2 := h.1.2
  simp only [letB, Bool.and_eq_true, decide_eq_true_eq] at h2
  exact upB_no _ (by omega)

set_option maxHeartbeats 1000000 in
theorem kind_any (s : ByteArray) (w : World) (hs : s.size ≤ 140737488351232) (h0 : 0 < s.size) (he : Env w) :
    Calls Tryd.prog 17 #[.string s] w fun e w' => e = .returned (.int .u8 (kindL s.data.toList)) ∧ Below w.heap.size w w' := by
  have HE := Lib.hid he
  clear he
  cases hw : wordB s with
  | true =>
    have HK := Lib.hid (kind_word s hw)
    have hh : (s.toList == [110, 111, 116]) = true ∨ (s.toList == [110, 111, 116]) = false ∧ (s.toList == [115, 97, 121, 115]) = true := by
      unfold wordB at hw
      cases h : (s.toList == [110, 111, 116]) with
      | true => exact .inl rfl
      | false => rw [h] at hw; exact .inr ⟨rfl, hw⟩
    clear hw
    rcases hh with h1 | ⟨h1, h2⟩
    all_goals
      go_enter Tryd.func17, Tryd.ntmps17
      go_wp2_with fail
      go_ret
      exact ⟨by rw [HK.out]; rfl, Below.refl _ _⟩
  | false =>
    have hn1 : (s.toList == [110, 111, 116]) = false := by unfold wordB at hw; rw [Bool.or_eq_false_iff] at hw; exact hw.1
    have hn2 : (s.toList == [115, 97, 121, 115]) = false := by unfold wordB at hw; rw [Bool.or_eq_false_iff] at hw; exact hw.2
    have HU := Lib.hid (show ∀ wx, Calls Tryd.prog 20 #[.int .u8 (s[0].toNat : Int)] wx fun e w' => e = .returned (.bool (upB (hdB s))) ∧ wx = w' from fun wx => by rw [← hd_eq s h0]; exact upper_any _ wx)
    cases hv : (upB (hdB s) && decide (s.size ≤ 16)) with
    | true =>
      have HK := Lib.hid (kind_var s hw hv)
      simp only [Bool.and_eq_true, decide_eq_true_eq] at hv
      obtain ⟨hv1, hv2⟩ := hv
      rw [hv1] at HU
      clear hw
      go_enter Tryd.func17, Tryd.ntmps17
      go_wp2_with (go_at_call 20; refine (HU.out _).mono ?_; rintro e w' ⟨rfl, rfl⟩)
      go_ret
      exact ⟨by rw [HK.out]; rfl, Below.refl _ _⟩
    | false =>
      have HR := Lib.hid (show ∀ wx, Env wx → _ from fun wx => read_parts s wx hs)
      have hcase : upB (hdB s) = false ∨ upB (hdB s) = true ∧ ¬ s.size ≤ 16 := by
        cases h : upB (hdB s) with
        | false => exact .inl rfl
        | true => rw [h] at hv; exact .inr ⟨rfl, by simpa using hv⟩
      have hres : (nameB s = true ∧ readB s = true ∧ (readS s).toList.isEmpty = false ∧ kindL s.data.toList = 1) ∨ (readB s = true ∧ (readS s).toList.isEmpty = true ∧ kindL s.data.toList = 3) ∨ (readB s = false ∧ kindL s.data.toList = 0) := by
        cases h3 : nameB s with
        | true => exact .inl ⟨rfl, by unfold readB; rw [h3]; rfl, by unfold readS; rw [if_pos h3]; exact nameB_ne s h3, kind_name s hw hv h3⟩
        | false =>
          cases h4 : (readN s).isSome with
          | true => exact .inr (.inl ⟨by unfold readB; rw [h3, h4]; rfl, by unfold readS; rw [h3]; exact isEmpty_nil, kind_num s hw hv h3 h4⟩)
          | false => exact .inr (.inr ⟨by unfold readB; rw [h3, h4]; rfl, kind_no s hw hv h3 h4⟩)
      clear hw hv
      generalize readS s = rs at *
      generalize readI s = ri at *
      generalize readB s = rb at *
      have fin : ∀ (wx w1 : World), wx = w → Below wx.heap.size wx w1 → Below w.heap.size w (w1.alloc (.cells #[.string rs, .int .i64 ri] 43)) := fun wx w1 e hb => by subst e; exact hb.alloc hb.size _
      have HF := Lib.hid fin
      clear fin
      rcases hcase with hc | ⟨hc, hc2⟩
      all_goals
        rw [hc] at HU
        rcases hres with ⟨_, rfl, hr, hk⟩ | ⟨rfl, hr, hk⟩ | ⟨rfl, hk⟩
        all_goals
          have HK := Lib.hid hk
          clear hk
          go_enter Tryd.func17, Tryd.ntmps17
          go_wp2_with (go_at_call 20; refine (HU.out _).mono ?_; rintro e w' ⟨rfl, rfl⟩)
          refine (HR.out _ HE.out).mono ?_
          rintro e w1 ⟨rfl, hb1⟩
          have HB := Lib.hid (HF.out _ _ rfl hb1)
          clear hb1
          go_wp2_with fail
          go_ret
          exact ⟨by rw [HK.out]; rfl, HB.out⟩

set_option maxHeartbeats 1000000 in
theorem refkind_any (s : ByteArray) (w : World) (hs : s.size ≤ 140737488351232) :
    Calls Tryd.prog 19 #[.string s] w fun e w' => e = .returned (.int .u8 (kindL s.data.toList)) ∧ Below w.heap.size w w' := by
  have hm : s.size ≤ maxLen := by unfold maxLen; omega
  cases hw : wordB s with
  | true =>
    have HK := Lib.hid (kind_word s hw)
    have hh : (s.toList == [110, 111, 116]) = true ∨ (s.toList == [110, 111, 116]) = false ∧ (s.toList == [115, 97, 121, 115]) = true := by
      unfold wordB at hw
      cases h : (s.toList == [110, 111, 116]) with
      | true => exact .inl rfl
      | false => rw [h] at hw; exact .inr ⟨rfl, hw⟩
    clear hw
    rcases hh with h1 | ⟨h1, h2⟩
    all_goals
      go_enter Tryd.func19, Tryd.ntmps19
      go_wp2_with fail
      go_ret
      exact ⟨by rw [HK.out]; rfl, Below.refl _ _⟩
  | false =>
    have hn1 : (s.toList == [110, 111, 116]) = false := by unfold wordB at hw; rw [Bool.or_eq_false_iff] at hw; exact hw.1
    have hn2 : (s.toList == [115, 97, 121, 115]) = false := by unfold wordB at hw; rw [Bool.or_eq_false_iff] at hw; exact hw.2
    cases hn : nameB s with
    | true =>
      have HK := Lib.hid (kind_name s hw (by rw [name_noup s hn]; rfl) hn)
      have HN := Lib.hid (show ∀ wx, Calls Tryd.prog 22 #[.string s] wx fun e w' => e = .returned (.bool true) ∧ wx = w' from fun wx => hn ▸ refname_any s wx hm)
      clear hw hn
      go_enter Tryd.func19, Tryd.ntmps19
      go_wp2_with (go_at_call 22; refine (HN.out _).mono ?_; rintro e w' ⟨rfl, rfl⟩)
      go_ret
      exact ⟨by rw [HK.out]; rfl, Below.refl _ _⟩
    | false =>
      have HN := Lib.hid (show ∀ wx, Calls Tryd.prog 22 #[.string s] wx fun e w' => e = .returned (.bool false) ∧ wx = w' from fun wx => hn ▸ refname_any s wx hm)
      cases hv : (upB (hdB s) && decide (s.size ≤ 16)) with
      | true =>
        have HK := Lib.hid (kind_var s hw hv)
        simp only [Bool.and_eq_true, decide_eq_true_eq, upB] at hv
        obtain ⟨⟨hv1, hv2⟩, hv3⟩ := hv
        have h0 : 0 < s.size := by
          rcases Nat.eq_zero_or_pos s.size with h | h
          · exfalso
            obtain ⟨⟨l⟩⟩ := s
            cases l with
            | nil => simp [hdB] at hv1
            | cons c r => cases h
          · exact h
        rw [← hd_eq s h0] at hv1 hv2
        clear hw hn
        go_enter Tryd.func19, Tryd.ntmps19
        go_wp2_with (go_at_call 22; refine (HN.out _).mono ?_; rintro e w' ⟨rfl, rfl⟩)
        go_ret
        exact ⟨by rw [HK.out]; rfl, Below.refl _ _⟩
      | false =>
        have HR := Lib.hid (show ∀ wx, _ from fun wx => refread_parts s wx hm)
        have hres : (readB s = true ∧ kindL s.data.toList = 3) ∨ (readB s = false ∧ kindL s.data.toList = 0) := by
          cases h4 : (readN s).isSome with
          | true => exact .inl ⟨by unfold readB; rw [hn, h4]; rfl, kind_num s hw hv hn h4⟩
          | false => exact .inr ⟨by unfold readB; rw [hn, h4]; rfl, kind_no s hw hv hn h4⟩
        have hcase : ¬ 0 < s.size ∨ (∃ h0 : 0 < s.size, ¬ s.size ≤ 16) ∨ (∃ h0 : 0 < s.size, s.size ≤ 16 ∧ (s[0].toNat : Int) < 65) ∨ (∃ h0 : 0 < s.size, s.size ≤ 16 ∧ 65 ≤ (s[0].toNat : Int) ∧ 90 < (s[0].toNat : Int)) := by
          rcases Nat.eq_zero_or_pos s.size with h | h
          · exact .inl (by omega)
          · by_cases h16 : s.size ≤ 16
            · have hh := hd_eq s h
              have : upB (hdB s) = false := by simpa [h16] using hv
              rw [← hh] at this
              simp only [upB, Bool.and_eq_false_iff, decide_eq_false_iff_not] at this
              by_cases h65 : (s[0].toNat : Int) < 65
              · exact .inr (.inr (.inl ⟨h, h16, h65⟩))
              · exact .inr (.inr (.inr ⟨h, h16, by omega, by omega⟩))
            · exact .inr (.inl ⟨h, h16⟩)
        clear hw hv hn
        generalize readS s = rs at *
        generalize readI s = ri at *
        generalize readB s = rb at *
        have fin : ∀ (wx w1 : World), wx = w → Below wx.heap.size wx w1 → Below w.heap.size w (w1.alloc (.cells #[.string rs, .int .i64 ri] 43)) := fun wx w1 e hb => by subst e; exact hb.alloc hb.size _
        have HF := Lib.hid fin
        clear fin
        rcases hcase with h0 | ⟨h0, g1⟩ | ⟨h0, g1, g2⟩ | ⟨h0, g1, g2, g3⟩
        all_goals
          try have g4 : decide (s[0].toNat ≤ 90) = false := by rw [decide_eq_false_iff_not]; omega
          rcases hres with ⟨rfl, hk⟩ | ⟨rfl, hk⟩
          all_goals
            have HK := Lib.hid hk
            clear hk
            go_enter Tryd.func19, Tryd.ntmps19
            go_wp2_with (go_at_call 22; refine (HN.out _).mono ?_; rintro e w' ⟨rfl, rfl⟩)
            refine (HR.out _).mono ?_
            rintro e w1 ⟨rfl, hb1⟩
            have HB := Lib.hid (HF.out _ _ rfl hb1)
            clear hb1
            go_wp2_with fail
            go_ret
            exact ⟨by rw [HK.out]; rfl, HB.out⟩
end Go.Proofs.YtpkccmceobonnaaDoor
