/-
  The walk of mandatelaw05.LexWhole: it answers true.
-/
import Derived.Test.YtpkccmceobonnaaDoorWholeA
import Derived.Test.YtpkccmceobonnaaDoorOnesW
namespace Go.Proofs.YtpkccmceobonnaaDoor
open Go.RowKit

theorem blank_at (s : ByteArray) (k p j : Nat) (h : Blanks s.data.toList k p) (h1 : k ≤ j) (h2 : j < p) : ∃ hj : j < s.size, s[j].toNat = 32 ∨ s[j].toNat = 9 := by
  obtain ⟨a, b⟩ := h j h1 h2
  exact ⟨by simpa using a, b⟩

set_option maxHeartbeats 8000000 in
set_option maxRecDepth 100000 in
theorem whole_walk (hfix : FixedOk) (s : ByteArray) (w : World) (he : Env w) (hs : s.size ≤ 140737488351232) :
    Calls Tryd.prog 6 #[.string s] w fun e w' => e = .returned (.bool true) ∧ Below w.heap.size w w' := by
  have HE := Lib.hid he
  have HFX := Lib.hid hfix
  clear he hfix
  go_enter Tryd.func6, Tryd.ntmps6
  go_wp2_with fail
  refine (HFX.out _ HE.out).mono ?_
  rintro e w0 ⟨rfl, hb0⟩
  have HB0 := Lib.hid hb0
  clear hb0
  go_wp2_with fail
  refine (all_any s _ hs (HE.out.on HB0.out)).mono ?_
  rintro e w1 ⟨v, rfl, hr, hb1⟩
  have HR := Lib.hid hr
  have HB1 := Lib.hid (HB0.out.trans (hb1.mono HB0.out.size))
  obtain ⟨q, c, rfl, _⟩ := hr
  clear hb1
  by_cases h0 : (allL s.data.toList).err = 0
  · have HCH := Lib.hid (chain_all s.data.toList h0)
    have HLN := toks_len s.data.toList
    rw [h0]
    clear h0
    generalize (allL s.data.toList).toks = l at *
    generalize (allL s.data.toList).pl = P at *
    go_wp2_with fail
    go_loopw [6, 7] (fun at' i wr => ∃ k a : Nat, k ≤ l.length + 1 ∧ i = .int .i64 k ∧ at' = .int .i64 a ∧ a ≤ s.size ∧ Hid (k ≤ l.length → ChainT s.data.toList a (l.drop k)) ∧ Below w1.heap.size w1 wr) (fun _ i _ => l.length + 1 - (intOf i).toNat)
    case atStart => exact ⟨0, 0, Nat.zero_le _, rfl, rfl, Nat.zero_le _, Lib.hid (fun _ => HCH.out), Below.refl _ _⟩
    case round =>
      obtain ⟨k, a, hk, rfl, rfl, ha, HC, hb⟩ := hrel
      have HB := Lib.hid (HB1.out.trans (hb.mono HB1.out.size))
      obtain ⟨wo, rfl⟩ : ∃ wo : World, wo = wr := ⟨_, rfl⟩
      by_cases hkl : k < l.length
      · have hch := HC.out (by omega)
        rw [List.drop_eq_getElem_cons hkl] at hch
        obtain ⟨p, n, hap, hpl, hfr, hbl, hone, hto, hn, hpn, hrest⟩ := hch
        obtain ⟨b1, c1, e1, hl1, x0, x1, x2⟩ := (HR.out.below hb).at k hkl
        cases e1
        rw [hfr] at x1
        rw [hto] at x2
        have hpl' : p < s.size := by simpa using hpl
        have hpn' : p + n ≤ s.size := by simpa using hpn
        have HBL := Lib.hid hbl
        have HRE := Lib.hid (show k + 1 ≤ l.length → ChainT s.data.toList (p + n) (l.drop (k + 1)) from fun _ => hrest)
        have HO := Lib.hid (show ∀ wx, Env wx → Calls Tryd.prog 13 #[.string s, .int .i64 p] wx fun e w' => e = .returned (.tuple #[.agg #[.int .u8 l[k].kind, .int .i64 p, .int .i64 (p + n : Nat)], .int .i64 0]) ∧ Below wx.heap.size wx w' from fun wx hx => by
          have h := one_any s p wx hs hx
          rw [oneA_at s p hpl', hone] at h
          exact h)
        have HBO := Lib.hid hb
        have hpm : p < p + n := by omega
        clear hb hfr hto hone hrest hbl hpn hpl hn
        generalize l[k].kind = K at *
        generalize p + n = m at *
        have heq := fun wx => neq32_self K p m wx
        go_wp2_with fail
        go_loop [6] (fun i => ∃ j : Nat, a ≤ j ∧ j ≤ p ∧ i = .int .i64 j) (fun i => p - (intOf i).toNat)
        case atStart => exact ⟨a, Nat.le_refl _, hap, rfl⟩
        case round =>
          obtain ⟨j, hj1, hj2, rfl⟩ := hrel
          by_cases hjp : j < p
          · obtain ⟨hjs, hby⟩ := blank_at s a p j HBL.out hj1 hjp
            rcases hby with hby | hby
            · have y1 : ((s[j].toNat : Int) != 32) = false := by rw [hby]; rfl
              have y2 : (s[j].toNat != 32) = false := by rw [hby]; rfl
              clear hby
              go_wp2_with fail
              go_round
              case rel => exact ⟨j + 1, by omega, by omega, by go_num⟩
              case measure => simp [intOf]; omega
            · have y1 : ((s[j].toNat : Int) != 32) = true := by rw [hby]; rfl
              have y2 : (s[j].toNat != 32) = true := by rw [hby]; rfl
              have y3 : ((s[j].toNat : Int) != 9) = false := by rw [hby]; rfl
              have y4 : (s[j].toNat != 9) = false := by rw [hby]; rfl
              clear hby
              go_wp2_with fail
              go_round
              case rel => exact ⟨j + 1, by omega, by omega, by go_num⟩
              case measure => simp [intOf]; omega
          · obtain rfl : j = p := by omega
            go_wp2_with fail
            refine (HO.out _ (HE.out.on HB.out)).mono ?_
            rintro e w2 ⟨rfl, hb2⟩
            obtain ⟨hc2, _⟩ := bcell hb2
            have z0 := (hc2 b1 _ hl1).trans x0
            have z1 := (hc2 b1 _ hl1).trans x1
            have z2 := (hc2 b1 _ hl1).trans x2
            have hl2 := Nat.lt_of_lt_of_le hl1 hb2.size
            have HB2 := Lib.hid ((HBO.out.trans (hb2.mono HBO.out.size)).alloc (HBO.out.trans (hb2.mono HBO.out.size)).size (.cells #[.int .u8 K, .int .i64 j, .int .i64 m] 32))
            have t0 : (w2.alloc (.cells #[.int .u8 K, .int .i64 j, .int .i64 m] 32)).cell? ⟨w2.heap.size, 0, none⟩ = some (.int .u8 K) := by simp [go_sem]
            have t1 : (w2.alloc (.cells #[.int .u8 K, .int .i64 j, .int .i64 m] 32)).cell? ⟨w2.heap.size, 1, none⟩ = some (.int .i64 j) := by simp [go_sem]
            have t2 : (w2.alloc (.cells #[.int .u8 K, .int .i64 j, .int .i64 m] 32)).cell? ⟨w2.heap.size, 2, none⟩ = some (.int .i64 m) := by simp [go_sem]
            have hA := ((Below.refl w2.heap.size w2).alloc (Nat.le_refl _) (.cells #[.int .u8 K, .int .i64 j, .int .i64 m] 32))
            obtain ⟨hcA, _⟩ := bcell hA
            rw [← hcA b1 _ hl2] at z0 z1 z2
            have d1 : decide ((m : Int) ≤ (j : Int)) = false := by rw [decide_eq_false_iff_not]; omega
            have d2 : decide ((s.size : Int) < (m : Int)) = false := by rw [decide_eq_false_iff_not]; omega
            have d3 : decide (m ≤ j) = false := by rw [decide_eq_false_iff_not]; omega
            have d4 : decide (s.size < m) = false := by rw [decide_eq_false_iff_not]; omega
            clear hb2 hc2 x0 x1 x2 hcA hA
            go_wp2_with fail
            generalize (w2.alloc (.cells #[.int .u8 K, .int .i64 j, .int .i64 m] 32)) = w3 at *
            generalize w2.heap.size = m2 at *
            go_quiet (fail)
            go_wp2_with fail
            exact ⟨⟨k + 1, m, by omega, by go_num, rfl, by omega, HRE, below_drewN' HB2.out _⟩, by simp [intOf]; omega⟩
      · by_cases hke : k = l.length
        · subst hke
          have hch := HC.out (Nat.le_refl _)
          rw [List.drop_length] at hch
          have HBL := Lib.hid hch.2
          clear hch
          have HBO := Lib.hid hb
          clear hb
          go_wp2_with fail
          go_loop [6] (fun i => ∃ j : Nat, a ≤ j ∧ j ≤ s.size ∧ i = .int .i64 j) (fun i => s.size - (intOf i).toNat)
          case atStart => exact ⟨a, Nat.le_refl _, ha, rfl⟩
          case round =>
            obtain ⟨j, hj1, hj2, rfl⟩ := hrel
            by_cases hjp : j < s.size
            · obtain ⟨hjs, hby⟩ := blank_at s a s.size j (by simpa using HBL.out) hj1 hjp
              rcases hby with hby | hby
              · have y1 : ((s[j].toNat : Int) != 32) = false := by rw [hby]; rfl
                have y2 : (s[j].toNat != 32) = false := by rw [hby]; rfl
                clear hby
                go_wp2_with fail
                go_round
                case rel => exact ⟨j + 1, by omega, by omega, by go_num⟩
                case measure => simp [intOf]; omega
              · have y1 : ((s[j].toNat : Int) != 32) = true := by rw [hby]; rfl
                have y2 : (s[j].toNat != 32) = true := by rw [hby]; rfl
                have y3 : ((s[j].toNat : Int) != 9) = false := by rw [hby]; rfl
                have y4 : (s[j].toNat != 9) = false := by rw [hby]; rfl
                clear hby
                go_wp2_with fail
                go_round
                case rel => exact ⟨j + 1, by omega, by omega, by go_num⟩
                case measure => simp [intOf]; omega
            · obtain rfl : j = s.size := by omega
              go_wp2_with fail
              exact ⟨⟨l.length + 1, s.size, Nat.le_refl _, by go_num, rfl, Nat.le_refl _, Lib.hid (fun h => absurd h (by omega)), HBO.out⟩, by simp [intOf]⟩
        · go_wp2_with fail
          go_ret
          exact ⟨rfl, HB.out⟩
  · have HN := Lib.hid (all_err_nil _ h0)
    have hx : ((allL s.data.toList).err == 0) = false := by rw [beq_eq_false_iff_ne]; exact h0
    have hx' : ((allL s.data.toList).err != 0) = true := by rw [bne_iff_ne]; exact h0
    rw [HN.out]
    clear h0
    generalize (allL s.data.toList).err = X at *
    generalize (allL s.data.toList).pl = P at *
    go_wp2_with fail
    go_ret
    exact ⟨rfl, HB1.out⟩
end Go.Proofs.YtpkccmceobonnaaDoor
