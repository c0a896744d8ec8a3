/-
  The walk of mandatelaw05.LexAgain: it answers true.
-/
import Derived.Test.YtpkccmceobonnaaDoorAgainA
import Derived.Test.YtpkccmceobonnaaDoorJoinW
namespace Go.Proofs.YtpkccmceobonnaaDoor
open Go.RowKit

def bs (l : List UInt8) : ByteArray := ⟨l.toArray⟩
theorem bs_list (l : List UInt8) : (bs l).data.toList = l := rfl
theorem bs_size (l : List UInt8) : (bs l).size = l.length := rfl
theorem bs_app (a b : List UInt8) : bs (a ++ b) = bs a ++ bs b := by
  apply ByteArray.ext; rw [ByteArray.data_append]; unfold bs; simp
theorem bs_ext (s : ByteArray) (p q : Nat) : s.extract p q = bs ((s.data.toList.drop p).take (q - p)) := by
  rw [← extract_list]; exact (mk_toList _).symm

set_option maxHeartbeats 8000000 in
set_option maxRecDepth 100000 in
theorem again_walk0 (hfix : FixedOk) (s : ByteArray) (w : World) (he : Env w) (hs : s.size ≤ 2000) (ts zs : List Tok) (hx : (allL s.data.toList).err = 0) (ht : (allL s.data.toList).toks = ts)
    (hJ : (allL (JT s.data.toList ts ts.length)) = ⟨zs, 0, 0⟩) (hlike : Like s.data.toList ts ts.length (JT s.data.toList ts ts.length) zs) (hjl : ∀ k, k ≤ ts.length → (JT s.data.toList ts k).length ≤ 4000) (hzl : ts.length ≤ 5000)
    (hbd : ∀ t ∈ ts, ∃ p q : Nat, t.fr = p ∧ t.to = q ∧ p < q ∧ q ≤ s.data.toList.length) :
    Calls Tryd.prog 8 #[.string s] w fun e w' => e = .returned (.bool true) ∧ Below w.heap.size w w' := by
  have HE := Lib.hid he
  have HFX := Lib.hid hfix
  have HA := Lib.hid (fun wx he => all_parts s ts _ 0 ht rfl hx wx (by omega) he)
  have HB := Lib.hid (fun wx he => all_parts (bs (JT s.data.toList ts ts.length)) zs 0 0 (by rw [bs_list, hJ]) (by rw [bs_list, hJ]) (by rw [bs_list, hJ]) wx (by rw [bs_size]; have := hjl _ (Nat.le_refl _); omega) he)
  have HLK := Lib.hid hlike.2
  have hzlen := hlike.1
  have HJL := Lib.hid hjl
  have HBD := Lib.hid hbd
  have g0 : ¬ 2000 < s.size := by omega
  have HST := Lib.hid (jt_step s.data.toList ts)
  clear he hfix hx ht hJ hlike hjl hbd
  generalize (allL s.data.toList).pl = P1 at *
  go_enter Tryd.func8, Tryd.ntmps8
  go_wp2_with fail
  refine (HFX.out _ HE.out).mono ?_
  rintro e w0 ⟨rfl, hb0⟩
  have HB0 := Lib.hid hb0
  clear hb0
  go_wp2_with fail
  refine (HA.out _ (HE.out.on HB0.out)).mono ?_
  rintro e w1 ⟨v1, rfl, hr1, hb1⟩
  have HB1 := Lib.hid (HB0.out.trans (hb1.mono HB0.out.size))
  have HR1 := Lib.hid hr1
  obtain ⟨q1, c1, rfl, _⟩ := hr1
  clear hb1
  go_wp2_with fail
  go_loopw [6, 7] (fun t i wr => ∃ k : Nat, k ≤ ts.length ∧ i = .int .i64 k ∧ t = .string (bs (JT s.data.toList ts k)) ∧ Below w1.heap.size w1 wr) (fun _ i _ => ts.length - (intOf i).toNat)
  case atStart => exact ⟨0, Nat.zero_le _, rfl, rfl, Below.refl _ _⟩
  case round =>
    obtain ⟨k, hk, rfl, rfl, hb⟩ := hrel
    by_cases hlt : k < ts.length
    · obtain ⟨b1, d1, e1, hl1, x0, x1, x2⟩ := (HR1.out.below hb).at k hlt
      cases e1
      obtain ⟨p, q, hp, hq, hpq, hq4⟩ := HBD.out ts[k] (List.getElem_mem hlt)
      have htx : txt s.data.toList ts[k] = (s.data.toList.drop p).take (q - p) := by unfold txt; rw [hp, hq]; rfl
      have hst := HST.out k hlt
      have hjk := HJL.out (k + 1) hlt
      rw [htx] at hst
      rw [hp] at x1
      rw [hq] at x2
      have hqs : q ≤ s.size := by simpa using hq4
      have HBO := Lib.hid hb
      clear hb htx hp hq hq4 x0
      have hTz : (bs (JT s.data.toList ts k)).size ≤ 4000 := HJL.out k hk
      have hEz : (s.extract p q).size ≤ 2000 := by rw [ByteArray.size_extract]; omega
      rcases Nat.eq_zero_or_pos k with h0 | h0
      · have HNX := Lib.hid (show bs (JT s.data.toList ts k) ++ s.extract p q = bs (JT s.data.toList ts (k + 1)) by rw [hst, if_neg (by omega), bs_app, bs_ext])
        have g1 : ¬ 0 < k := by omega
        clear hst hjk h0
        generalize bs (JT s.data.toList ts k) = T at *
        go_wp2_with fail
        go_quiet (fail)
        go_wp2_with fail
        exact ⟨⟨k + 1, by omega, by go_num, by rw [HNX.out], below_drewN' HBO.out _⟩, by simp [intOf]; omega⟩
      · have HNX := Lib.hid (show bs (JT s.data.toList ts k) ++ ⟨#[32]⟩ ++ s.extract p q = bs (JT s.data.toList ts (k + 1)) by rw [hst, if_pos h0, bs_app, bs_app, bs_ext]; rfl)
        clear hst hjk
        generalize bs (JT s.data.toList ts k) = T at *
        have hTz2 : (T ++ ⟨#[32]⟩ : ByteArray).size ≤ 4001 := by rw [ByteArray.size_append]; show T.size + 1 ≤ _; omega
        go_wp2_with fail
        go_quiet (fail)
        go_wp2_with fail
        exact ⟨⟨k + 1, by omega, by go_num, by rw [HNX.out], below_drewN' HBO.out _⟩, by simp [intOf]; omega⟩
    · obtain rfl : k = ts.length := by omega
      have HB1' := Lib.hid (HB1.out.trans (hb.mono HB1.out.size))
      have HR1' := Lib.hid (HR1.out.below hb)
      clear hb
      go_wp2_with fail
      refine (HB.out _ (HE.out.on HB1'.out)).mono ?_
      rintro e w3 ⟨v3, rfl, hr3, hb3⟩
      have HB3 := Lib.hid (HB1'.out.trans (hb3.mono HB1'.out.size))
      have HR1c := Lib.hid (HR1'.out.below hb3)
      have HR3 := Lib.hid hr3
      obtain ⟨q3, c3, rfl, _⟩ := hr3
      clear hb3
      rw [hzlen]
      go_wp2_with fail
      go_loopw [11] (fun i wr => ∃ k : Nat, k ≤ ts.length ∧ i = .int .i64 k ∧ Below w3.heap.size w3 wr) (fun i _ => ts.length - (intOf i).toNat)
      case atStart => exact ⟨0, Nat.zero_le _, rfl, Below.refl _ _⟩
      case round =>
        obtain ⟨k, hk, rfl, hb⟩ := hrel
        have HBW := Lib.hid (HB3.out.trans (hb.mono HB3.out.size))
        by_cases hlt : k < ts.length
        · obtain ⟨b1, d1, e1, hl1, x0, x1, x2⟩ := (HR1c.out.below hb).at k hlt
          cases e1
          obtain ⟨b3, d3, e3, hl3, y0, y1, y2⟩ := (HR3.out.below hb).at k (by omega)
          cases e3
          obtain ⟨p, q, hp, hq, hpq, hq4⟩ := HBD.out ts[k] (List.getElem_mem hlt)
          obtain ⟨hkd, p2, q2, hp2, hq2, hpq2, hq5, htx⟩ := HLK.out k (by omega) hlt
          have hjz := HJL.out ts.length (Nat.le_refl _)
          rw [hkd] at y0
          rw [hp] at x1
          rw [hq] at x2
          rw [hp2] at y1
          rw [hq2] at y2
          have hqs : q ≤ s.size := by simpa using hq4
          have hqs2 : q2 ≤ (bs (JT s.data.toList ts ts.length)).size := hq5
          have hTz : (bs (JT s.data.toList ts ts.length)).size ≤ 4000 := hjz
          have heq : (((bs (JT s.data.toList ts ts.length)).extract p2 q2).toList != (s.extract p q).toList) = false := by
            rw [bs_ext, bs_ext, bs_list, htx, show txt s.data.toList ts[k] = (s.data.toList.drop p).take (q - p) by unfold txt; rw [hp, hq]; rfl]
            simp
          have heq2 : (((bs (JT s.data.toList ts ts.length)).extract p2 q2).toList == (s.extract p q).toList) = true := by
            simpa using heq
          have HBO := Lib.hid hb
          clear hb hp hq hq4 hkd hp2 hq2 hq5 htx hjz
          generalize ts[k].kind = K at *
          generalize bs (JT s.data.toList ts ts.length) = T at *
          go_wp2_with fail
          go_quiet (fail)
          go_wp2_with fail
          exact ⟨⟨k + 1, by omega, by go_num, below_drewN' HBO.out _⟩, by simp [intOf]; omega⟩
        · go_wp2_with fail
          go_ret
          exact ⟨rfl, HBW.out⟩

set_option maxHeartbeats 2000000 in
set_option maxRecDepth 100000 in
/-- a text that is refused, or too long -/
theorem again_let (hfix : FixedOk) (s : ByteArray) (w : World) (he : Env w) (hs : s.size ≤ 140737488351232) (X : Int) (hx : (allL s.data.toList).err = X) (h : (X != 0) = true ∨ (X != 0) = false ∧ 2000 < s.size) :
    Calls Tryd.prog 8 #[.string s] w fun e w' => e = .returned (.bool true) ∧ Below w.heap.size w w' := by
  have HE := Lib.hid he
  have HFX := Lib.hid hfix
  have HA := Lib.hid (fun wx he => all_parts s _ _ X rfl rfl hx wx hs he)
  clear he hfix hx
  generalize (allL s.data.toList).pl = P1 at *
  rcases h with h | ⟨h, h2⟩
  all_goals
    go_enter Tryd.func8, Tryd.ntmps8
    go_wp2_with fail
    refine (HFX.out _ HE.out).mono ?_
    rintro e w0 ⟨rfl, hb0⟩
    have HB0 := Lib.hid hb0
    clear hb0
    go_wp2_with fail
    refine (HA.out _ (HE.out.on HB0.out)).mono ?_
    rintro e w1 ⟨v1, rfl, hr1, hb1⟩
    have HB1 := Lib.hid (HB0.out.trans (hb1.mono HB0.out.size))
    clear hb1 hr1
    go_wp2_with fail
    go_ret
    exact ⟨rfl, HB1.out⟩
theorem again_walk (hfix : FixedOk) (s : ByteArray) (w : World) (he : Env w) (hs : s.size ≤ 140737488351232) :
    Calls Tryd.prog 8 #[.string s] w fun e w' => e = .returned (.bool true) ∧ Below w.heap.size w w' := by
  by_cases hx : (allL s.data.toList).err = 0
  · by_cases hz : 2000 < s.size
    · exact again_let hfix s w he hs 0 hx (.inr ⟨rfl, hz⟩)
    · have hch := chain_all _ hx
      have hll : s.data.toList.length = s.size := by simp
      obtain ⟨zs, h1, h2⟩ := jt_like s.data.toList (allL s.data.toList).toks (chain_lone _ _ _ hch) (allL s.data.toList).toks.length (Nat.le_refl _)
      have hjl : ∀ k, k ≤ (allL s.data.toList).toks.length → (JT s.data.toList (allL s.data.toList).toks k).length ≤ 4000 := fun k hk => by
        have := jt_len _ _ hch k hk; omega
      exact again_walk0 hfix s w he (by omega) _ zs hx rfl ((allL_short _ (by have := hjl _ (Nat.le_refl _); omega)).trans h1) h2 hjl (toks_len _) (chain_bd _ _ _ hch)
  · exact again_let hfix s w he hs _ rfl (.inl (by simpa using hx))
end Go.Proofs.YtpkccmceobonnaaDoor
