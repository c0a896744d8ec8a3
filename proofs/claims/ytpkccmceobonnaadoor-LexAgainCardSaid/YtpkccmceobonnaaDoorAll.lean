/-
  Contract: lex.All, whole.
-/
import Derived.Test.YtpkccmceobonnaaDoorOneA
import Derived.Test.YtpkccmceobonnaaDoorAllP
namespace Go.Proofs.YtpkccmceobonnaaDoor
open Go.RowKit

set_option maxHeartbeats 4000000 in
set_option maxRecDepth 100000 in
theorem all_any (s : ByteArray) (w : World) (hm : s.size ≤ 140737488351232) (he : Env w) : Calls Tryd.prog 9 #[.string s] w (AllPost s w) := by
  by_cases hl : 4096 < s.size
  · have HL := Lib.hid (allL_long s.data.toList (by simpa using hl))
    go_enter Tryd.func9, Tryd.ntmps9
    go_wp2_with fail
    go_ret3
    exact ⟨_, by rw [HL.out]; rfl, by rw [HL.out]; exact tokrow_nil w, Below.refl _ _⟩
  · have HL := Lib.hid (allL_short s.data.toList (by simpa using hl))
    obtain ⟨i0, hi, hz0, hz1, hz2⟩ := info_parts info32
    have HE := Lib.hid he
    clear he
    go_enter Tryd.func9, Tryd.ntmps9
    go_wp2_with fail
    go_loopw [5, 6] (fun v i wr => ∃ (k : Nat) (acc : List Tok), i = .int .i64 k ∧ k ≤ s.size ∧ Hid (Rest s.data.toList k acc) ∧ Hid (wr.ownsRow w.heap.size 32 3 v acc.length (flatT acc)) ∧ Below w.heap.size w wr) (fun _ i _ => s.size - (intOf i).toNat)
    case atStart => exact ⟨0, [], rfl, Nat.zero_le _, Lib.hid (rest_start _), Lib.hid (World.ownsRow_nil _ _ _ _), Below.refl _ _⟩
    case round =>
      obtain ⟨k, acc, rfl, hk, HR, HO, hb⟩ := hrel
      have HB := Lib.hid hb
      clear hb
      by_cases hlt : k < s.size
      · have hlen : k < s.data.toList.length := by simpa using hlt
        have hbd := oneL_bd (s.data.toList.drop k) (by simp; omega)
        have hc := fun wx (hex : Env wx) => one_any s k wx hm hex
        simp only [oneA_at s k hlt] at hc
        by_cases h4 : (oneL (s.data.toList.drop k)).err = 4
        · have HN := Lib.hid (rest_blank _ k acc HR.out hlen h4)
          have hk0 := hbd.2.2 (by rw [h4]; decide)
          unfold ansV at hc
          simp only [h4, hk0, show ¬ ((4 : Int) = 0) by decide, if_false] at hc
          have HC := Lib.hid hc
          clear hc hbd h4 hk0
          go_wp2_with fail
          refine (HC.out _ (HE.out.on HB.out)).mono ?_
          rintro e w1 ⟨rfl, hb1⟩
          have HO1 := Lib.hid ((own_below HO.out hb1).alloc (.cells #[.int .u8 0, .int .i64 0, .int .i64 0] 32))
          have HB1 := Lib.hid ((HB.out.trans (hb1.mono HB.out.size)).alloc (HB.out.trans (hb1.mono HB.out.size)).size (.cells #[.int .u8 0, .int .i64 0, .int .i64 0] 32))
          clear hb1
          go_wp2_with fail
          go_roundw
          case rel => exact ⟨k + 1, acc, by go_num, by omega, HN, HO1, HB1.out⟩
          case measure => simp [intOf]; omega
        · by_cases h0 : (oneL (s.data.toList.drop k)).err = 0
          · obtain ⟨hrest, hp, hle⟩ := rest_tok _ k acc HR.out hlen h0
            have HN := Lib.hid hrest
            unfold ansV at hc
            simp only [h0, if_true] at hc
            have hto : ((k : Int) + (((oneL (s.data.toList.drop k)).len : Nat) : Int)) = ((k + (oneL (s.data.toList.drop k)).len : Nat) : Int) := by omega
            rw [hto] at hc
            have HC := Lib.hid hc
            have hal := rest_len _ _ _ HR.out
            have hle' : k + (oneL (s.data.toList.drop k)).len ≤ s.size := by simpa using hle
            have hkm : k < k + (oneL (s.data.toList.drop k)).len := by omega
            clear hc hbd h4 h0 hto hrest hp hle
            generalize (oneL (s.data.toList.drop k)).kind = K at *
            generalize k + (oneL (s.data.toList.drop k)).len = m at *
            go_wp2_with fail
            refine (HC.out _ (HE.out.on HB.out)).mono ?_
            rintro e w1 ⟨rfl, hb1⟩
            have HLT := Lib.hid (own_below HO.out hb1).lt
            have HO1 := Lib.hid (((own_below HO.out hb1).alloc (.cells #[.int .u8 K, .int .i64 k, .int .i64 m] 32)).alloc (.cells #[.int .u8 K, .int .i64 k, .int .i64 m] 32))
            have hB1 := HB.out.trans (hb1.mono HB.out.size)
            have HB1 := Lib.hid ((hB1.alloc hB1.size (.cells #[.int .u8 K, .int .i64 k, .int .i64 m] 32)).alloc (by have := hB1.size; simp; omega) (.cells #[.int .u8 K, .int .i64 k, .int .i64 m] 32))
            have h63 : acc.length + 1 ≤ maxLen := by unfold maxLen; omega
            have h64 : (acc.length + 1) * 24 ≤ 140737488355328 := by omega
            have h65 := HB1.out.size
            have hnw : ∀ j u, ([.int .u8 K, .int .i64 k, .int .i64 m] : List Value)[j]? = some u → ((w1.alloc (.cells #[.int .u8 K, .int .i64 k, .int .i64 m] 32)).alloc (.cells #[.int .u8 K, .int .i64 k, .int .i64 m] 32)).cell? ((⟨w1.heap.size + 1, 0, none⟩ : Addr).add j) = some u :=
              World.news_of_block (cs := #[.int .u8 K, .int .i64 k, .int .i64 m]) (t := 32) (fr := (0, 0)) (by have := (MapKept.heap_alloc (w1.alloc (.cells #[.int .u8 K, .int .i64 k, .int .i64 m] 32)) (.cells #[.int .u8 K, .int .i64 k, .int .i64 m] 32)).1; simpa using this)
            have h1c : ∀ u ∈ ([.int .u8 K, .int .i64 k, .int .i64 m] : List Value), u.oneCell' = true := by intro u hu; simp at hu; rcases hu with rfl | rfl | rfl <;> rfl
            have HNW := Lib.hid hnw
            clear hnw
            clear hb1 hB1
            go_wp2_with (at_builtin; refine wpList_append_own _ rfl _ _ 22 rfl w.heap.size 32 i0 (.agg #[.int .u8 0, .int .i64 0, .int .i64 0]) 3 24 Tryd.underlying22 hi hz0 hz1 hz2 rfl (by decide) _ _ _ rfl HO1.out ⟨w1.heap.size + 1, 0, none⟩ 1 1 [.int .u8 K, .int .i64 k, .int .i64 m] rfl rfl HNW.out h1c h63 h64 h65 ?_; intro v' w2 hown' hgrow _; have x2 := far_to hgrow HLT.out; have HG := Lib.hid hgrow; have HOW := Lib.hid hown'; clear hgrow hown')
            have HB2 := Lib.hid (HB1.out.grown HG.out h65 (fun x hx => (HLT.out x hx).1))
            go_wp2_with fail
            go_roundw
            case rel => exact ⟨m, acc ++ [⟨K, k, m⟩], rfl, hle', HN, Lib.hid (by rw [List.length_append, flatT_snoc]; exact HOW.out), HB2.out⟩
            case measure => simp [intOf]; omega
          · have HF := Lib.hid (rest_err _ k acc HR.out hlen h0 h4)
            have h5 : (oneL (s.data.toList.drop k)).err = 5 := by rcases hbd.2.1 with h | h | h; exact absurd h h0; exact absurd h h4; exact h
            have hk0 := hbd.2.2 h0
            unfold ansV at hc
            simp only [h5, hk0, show ¬ ((5 : Int) = 0) by decide, if_false] at hc
            rw [h5] at HF
            have HC := Lib.hid hc
            clear hc hbd h4 h0 hk0 h5
            go_wp2_with fail
            refine (HC.out _ (HE.out.on HB.out)).mono ?_
            rintro e w1 ⟨rfl, hb1⟩
            have hB1 := HB.out.trans (hb1.mono HB.out.size)
            have HB1 := Lib.hid (hB1.alloc hB1.size (.cells #[.int .u8 0, .int .i64 0, .int .i64 0] 32))
            clear hb1 hB1
            go_wp2_with fail
            go_ret3
            exact ⟨_, by rw [HL.out, HF.out]; rfl, by rw [HL.out, HF.out]; exact tokrow_nil _, HB1.out⟩
      · have HF := Lib.hid (rest_end _ k acc HR.out (by simpa using hlt))
        go_wp2_with fail
        go_ret3
        exact ⟨_, by rw [HL.out, HF.out]; rfl, by rw [HL.out, HF.out]; exact own_toks HO.out, HB.out⟩
end Go.Proofs.YtpkccmceobonnaaDoor
