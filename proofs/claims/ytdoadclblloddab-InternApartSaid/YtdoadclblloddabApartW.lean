/-
  The walk of mandatelaw02.InternApart.
-/
import Derived.Test.YtdoadclblloddabBackW
namespace Go.Proofs.Ytdoadclblloddab
open Go.RowKit Go.Maps Go.WideMaps
namespace ApartLaw
open BackLaw

/-- what another pool's call does leaves this one as it is -/
theorem kept_by {w w' : World} {pb bm pc bn : Nat} {sv su su' : Value} {l : List Vl} (h : Pool w pb bm sv l) (ht : Turned w w' pc bn su su') (h1 : Off pc bn su pb) (h2 : Off pc bn su bm) (h3 : ∀ g, sv.ownBlock = some g → Off pc bn su g) : Pool w' pb bm sv l :=
  h.kept fun b hb hn => ht.block b hb (by
    by_cases e1 : b = pb
    · subst e1; exact h1
    · by_cases e2 : b = bm
      · subst e2; exact h2
      · exact h3 b (by
          by_cases e3 : sv.ownBlock = some b
          · exact e3
          · exact absurd ⟨e1, e2, e3⟩ hn))

set_option maxHeartbeats 8000000 in
set_option maxRecDepth 100000 in
theorem walk_long (q r : Option Addr) (l more : List Vl) (c d : Nat) (w : World) (hm : l.length ≤ maxLen) (hm2 : more.length ≤ maxLen) (h : 200 < l.length ∨ 200 < more.length) :
    Calls Try.prog 4 #[.slice q l.length c, .slice r more.length d] w fun e w' => e = .returned (.bool true) ∧ Below w.heap.size w w' := by
  unfold maxLen at hm hm2
  by_cases h1 : 200 < l.length
  · clear h
    go_enter Try.func4, Try.ntmps4
    go_wp2_with fail
    refine (new_any _).mono ?_
    rintro e w1 ⟨rfl, hP1, hB1⟩
    go_wp2_with fail
    refine (new_any _).mono ?_
    rintro e w2 ⟨rfl, hP2, hB2⟩
    go_wp2_with (go_at_call 6; refine (fixed_any _).mono ?_; rintro e w3 ⟨rfl, hB3⟩)
    go_ret
    exact ⟨rfl, hB1.trans ((hB2.mono hB1.size).trans (hB3.mono (Nat.le_trans hB1.size hB2.size)))⟩
  · have h2 : 200 < more.length := by omega
    clear h
    go_enter Try.func4, Try.ntmps4
    go_wp2_with fail
    refine (new_any _).mono ?_
    rintro e w1 ⟨rfl, hP1, hB1⟩
    go_wp2_with fail
    refine (new_any _).mono ?_
    rintro e w2 ⟨rfl, hP2, hB2⟩
    go_wp2_with (go_at_call 6; refine (fixed_any _).mono ?_; rintro e w3 ⟨rfl, hB3⟩)
    go_ret
    exact ⟨rfl, hB1.trans ((hB2.mono hB1.size).trans (hB3.mono (Nat.le_trans hB1.size hB2.size)))⟩

set_option maxHeartbeats 16000000 in
set_option maxRecDepth 100000 in
theorem walk_bad (q r : Option Addr) (l more : List Vl) (c d : Nat) (w : World) (hv : Vals w w.heap.size q l) (hv2 : Vals w w.heap.size r more) (ho : OkAll l) (ho2 : OkAll more) (h1 : l.length ≤ 200) (h2 : more.length ≤ 200) (hg : goodAll l = false) :
    Calls Try.prog 4 #[.slice q l.length c, .slice r more.length d] w fun e w' => e = .returned (.bool true) ∧ Below w.heap.size w w' := by
  have HV := Lib.hid hv
  have HV2 := Lib.hid hv2
  have HO := Lib.hid ho
  have HO2 := Lib.hid ho2
  have HG := Lib.hid hg
  clear hv ho hg hv2 ho2
  go_enter Try.func4, Try.ntmps4
  go_wp2_with fail
  refine (new_any _).mono ?_
  rintro e w1 ⟨rfl, hP1, hB1⟩
  have HP1 := Lib.hid hP1
  have HB1 := Lib.hid hB1
  have hs0 : w.heap.size + 1 < w1.heap.size := hP1.lt
  clear hP1 hB1
  go_wp2_with fail
  refine (new_any _).mono ?_
  rintro e w2 ⟨rfl, hQ2, hB2⟩
  have HP2 := Lib.hid (HP1.out.below hB2)
  have HQ2 := Lib.hid hQ2
  have HB2 := Lib.hid (HB1.out.trans (hB2.mono HB1.out.size))
  have hs1 := HB1.out.size
  clear hQ2 hB2 HP1
  go_wp2_with (first
    | (go_at_call 6; refine (fixed_any _).mono ?_; rintro e w3 ⟨rfl, hB3⟩; have HP3 := Lib.hid (HP2.out.below hB3); have HQ3 := Lib.hid (HQ2.out.below hB3); have HB3 := Lib.hid (HB2.out.trans (hB3.mono HB2.out.size)); clear hB3)
    | (at_builtin; refine wpList_copy _ rfl _ _ rfl w3.heap.size rfl (row_new w3 [] 28) q l c rfl (HV.out.below (HB3.out.alloc HB3.out.size _) (Nat.le_refl _)) (by omega) ?_; intro g cap w4 hBg hlt hvc hbc; have HV4 := Lib.hid hvc; have HP4 := Lib.hid (copy_pool HP3.out _ hbc); have HQ4 := Lib.hid (copy_pool HQ3.out _ hbc); have HB4 := Lib.hid (HB3.out.trans ((below_copy _ hbc).mono HB3.out.size)); clear hvc hbc hBg hlt))
  refine (row_bad _ _ _ l cap HV4.out HO.out (by unfold maxLen; omega) HG.out).mono ?_
  rintro e w5 ⟨rfl, hb5⟩
  have HP5 := Lib.hid (HP4.out.below hb5)
  have HQ5 := Lib.hid (HQ4.out.below hb5)
  have HB5 := Lib.hid (HB4.out.trans (hb5.mono HB4.out.size))
  clear hb5 HP4 HQ4 HV4 HB4 HP3 HQ3 HB3 HP2 HQ2 HB2
  go_wp2_with (at_builtin; refine wpList_copy _ rfl _ _ rfl w5.heap.size rfl (row_new w5 [] 28) r more d rfl (HV2.out.below (HB5.out.alloc HB5.out.size _) (Nat.le_refl _)) (by omega) ?_; intro g6 cap6 w6 hBg hlt hvc hbc; have HV6 := Lib.hid hvc; have HP6 := Lib.hid (copy_pool HP5.out _ hbc); have HQ6 := Lib.hid (copy_pool HQ5.out _ hbc); have HO6 := Lib.hid (HQ5.out.off hBg); have HB6 := Lib.hid (HB5.out.trans ((below_copy _ hbc).mono HB5.out.size)); clear hvc hbc hBg hlt)
  refine (row_either _ HQ6.out g6 more cap6 HV6.out HO6.out HO2.out h2 (by simp)).mono ?_
  rintro e w7 ⟨r7, e7, s7, L2, rfl, hQ7, hT7, _, _⟩
  have hpl := HP6.out.lt
  have HP7 := Lib.hid (kept_by HP6.out hT7 ⟨by omega, by omega, by simp [Value.ownBlock]⟩ ⟨by omega, by omega, by simp [Value.ownBlock]⟩ (fun g hg => by simp [Value.ownBlock] at hg))
  have HQ7 := Lib.hid hQ7
  have HB7 := Lib.hid (HB6.out.trans (hT7.below (by omega) (by omega) (fun g hg => by simp [Value.ownBlock] at hg) HB6.out.size))
  have HS7 := Lib.hid (show ∀ g, s7.ownBlock = some g → w.heap.size ≤ g from fun g hg => (hT7.row g hg).elim (fun h => by simp [Value.ownBlock] at h) (fun h => by have := HB6.out.size; omega))
  clear hQ7 hT7 HP6 HQ6 HV6 HO6 HB6 HP5 HQ5 HB5
  have hval := fun wx (hx : Pool wx (w.heap.size + 1) w.heap.size (.slice none 0 0) []) => values_ok wx (some ⟨w.heap.size + 1, 0, none⟩) [] (fun wy _ k hk => by simp at hk) none [] 0 (.inl rfl) (fun k hk => by simp at hk) (by unfold maxLen; simp) (by simp)
  have HVAL := Lib.hid hval
  clear hval
  go_wp2_with fail
  refine (HVAL.out _ HP7.out).mono ?_
  rintro e w8 ⟨R8, rfl, _, _, hb8⟩
  have HP8 := Lib.hid (HP7.out.below hb8)
  have HQ8 := Lib.hid (HQ7.out.below hb8)
  have HB8 := Lib.hid (HB7.out.trans (hb8.mono HB7.out.size))
  clear hb8 HP7 HQ7 HB7
  go_wp2_with fail
  go_loopw [11] (fun i wr => i = .int .i64 0 ∧ Below w8.heap.size w8 wr) (fun _ _ => 0)
  case atStart => exact ⟨rfl, Below.refl _ _⟩
  case round =>
    obtain ⟨rfl, hb⟩ := hrel
    have HB := Lib.hid hb
    clear hb
    go_wp2_with fail
    refine (HVAL.out _ (HP8.out.below HB.out)).mono ?_
    rintro e w9 ⟨R9, rfl, _, _, hb9⟩
    have HQ9 := Lib.hid ((HQ8.out.below HB.out).below hb9)
    have HB9 := Lib.hid (HB8.out.trans ((HB.out.trans (hb9.mono HB.out.size)).mono HB8.out.size))
    clear hb9
    go_wp2_with (go_at_call 11; refine (clear_any _ HQ9.out).mono ?_; rintro e w10 ⟨rfl, _, hT10⟩; have HB10 := Lib.hid (HB9.out.trans (hT10.below (by omega) (by omega) HS7.out HB9.out.size)); clear hT10)
    go_ret
    exact ⟨rfl, HB10.out⟩

set_option maxHeartbeats 16000000 in
set_option maxRecDepth 100000 in
theorem walk_good (q r : Option Addr) (l more : List Vl) (c d : Nat) (w : World) (hv : Vals w w.heap.size q l) (hv2 : Vals w w.heap.size r more) (ho : OkAll l) (ho2 : OkAll more) (h1 : l.length ≤ 200) (h2 : more.length ≤ 200) (hg : goodAll l = true) :
    Calls Try.prog 4 #[.slice q l.length c, .slice r more.length d] w fun e w' => e = .returned (.bool true) ∧ Below w.heap.size w w' := by
  have HV := Lib.hid hv
  have HV2 := Lib.hid hv2
  have HO := Lib.hid ho
  have HO2 := Lib.hid ho2
  have HG := Lib.hid hg
  have HM := Lib.hid (show l.length ≤ maxLen by unfold maxLen; omega)
  clear hv ho hg hv2 ho2
  go_enter Try.func4, Try.ntmps4
  go_wp2_with fail
  refine (new_any _).mono ?_
  rintro e w1 ⟨rfl, hP1, hB1⟩
  have HP1 := Lib.hid hP1
  have HB1 := Lib.hid hB1
  have hs0 : w.heap.size + 1 < w1.heap.size := hP1.lt
  clear hP1 hB1
  go_wp2_with fail
  refine (new_any _).mono ?_
  rintro e w2 ⟨rfl, hQ2, hB2⟩
  have HP2 := Lib.hid (HP1.out.below hB2)
  have HQ2 := Lib.hid hQ2
  have HB2 := Lib.hid (HB1.out.trans (hB2.mono HB1.out.size))
  have hs1 := HB1.out.size
  clear hQ2 hB2 HP1
  go_wp2_with (first
    | (go_at_call 6; refine (fixed_any _).mono ?_; rintro e w3 ⟨rfl, hB3⟩; have HP3 := Lib.hid (HP2.out.below hB3); have HQ3 := Lib.hid (HQ2.out.below hB3); have HB3 := Lib.hid (HB2.out.trans (hB3.mono HB2.out.size)); clear hB3)
    | (at_builtin; refine wpList_copy _ rfl _ _ rfl w3.heap.size rfl (row_new w3 [] 28) q l c rfl (HV.out.below (HB3.out.alloc HB3.out.size _) (Nat.le_refl _)) (by omega) ?_; intro g cap w4 hBg hlt hvc hbc; have HV4 := Lib.hid hvc; have HO4 := Lib.hid (HP3.out.off hBg); have HP4 := Lib.hid (copy_pool HP3.out _ hbc); have HQ4 := Lib.hid (copy_pool HQ3.out _ hbc); have HB4 := Lib.hid (HB3.out.trans ((below_copy _ hbc).mono HB3.out.size)); clear hvc hbc hBg hlt))
  refine (row_good _ HP4.out g l cap HV4.out HO4.out HO.out h1 (by simp) HG.out).mono ?_
  rintro e w5 ⟨R5, s5, rfl, hP5, hT5, hR5, hz5, hO5⟩
  have hpl := HP4.out.lt
  have hql := HQ4.out.lt
  have HP5 := Lib.hid hP5
  have HR5 := Lib.hid hR5
  have HQ5 := Lib.hid (kept_by HQ4.out hT5 ⟨by omega, by omega, by simp [Value.ownBlock]⟩ ⟨by omega, by omega, by simp [Value.ownBlock]⟩ (fun g hg => by simp [Value.ownBlock] at hg))
  have HS5 := Lib.hid (show ∀ g, s5.ownBlock = some g → w4.heap.size ≤ g from fun g hg => (hT5.row g hg).elim (fun h => by simp [Value.ownBlock] at h) id)
  have HB5 := Lib.hid (HB4.out.trans (hT5.below (by omega) (by omega) (fun g hg => by simp [Value.ownBlock] at hg) HB4.out.size))
  have hs45 := hT5.size
  generalize hL1 : addAll [] l = L1 at *
  clear hP5 hT5 hR5 hO5 HP4 HQ4 HV4 HO4 HB4 HP3 HQ3 HB3 HP2 HQ2 HB2
  go_wp2_with (at_builtin; refine wpList_copy _ rfl _ _ rfl w5.heap.size rfl (row_new w5 [] 28) r more d rfl (HV2.out.below (HB5.out.alloc HB5.out.size _) (Nat.le_refl _)) (by omega) ?_; intro g6 cap6 w6 hBg hlt hvc hbc; have HV6 := Lib.hid hvc; have HP6 := Lib.hid (copy_pool HP5.out _ hbc); have HR6 := Lib.hid (HR5.out.below (below_copy _ hbc) HR5.out.lt); have HQ6 := Lib.hid (copy_pool HQ5.out _ hbc); have HO6 := Lib.hid (HQ5.out.off hBg); have HB6 := Lib.hid (HB5.out.trans ((below_copy _ hbc).mono HB5.out.size)); have hs56 := (below_copy _ hbc).size; clear hvc hbc hBg hlt)
  refine (row_either _ HQ6.out g6 more cap6 HV6.out HO6.out HO2.out h2 (by simp)).mono ?_
  rintro e w7 ⟨r7, e7, s7, L2, rfl, hQ7, hT7, _, _⟩
  have hRl := HR5.out.lt
  have HP7 := Lib.hid (kept_by HP6.out hT7 ⟨by omega, by omega, by simp [Value.ownBlock]⟩ ⟨by omega, by omega, by simp [Value.ownBlock]⟩ (fun g hg => by
    have := HS5.out g hg
    exact ⟨by omega, by omega, by simp [Value.ownBlock]⟩))
  have HR7 := Lib.hid (HR6.out.kept (hT7.block R5 HR6.out.lt ⟨by omega, by omega, by simp [Value.ownBlock]⟩))
  have HQ7 := Lib.hid hQ7
  have HB7 := Lib.hid (HB6.out.trans (hT7.below (by omega) (by omega) (fun g hg => by simp [Value.ownBlock] at hg) HB6.out.size))
  have HS7 := Lib.hid (show ∀ g, s7.ownBlock = some g → w6.heap.size ≤ g from fun g hg => (hT7.row g hg).elim (fun h => by simp [Value.ownBlock] at h) id)
  have HS7w := Lib.hid (show ∀ g, s7.ownBlock = some g → w.heap.size ≤ g from fun g hg => by have := HS7.out g hg; have := HB6.out.size; omega)
  have hs67 := hT7.size
  have HL5 := Lib.hid (show ∀ g, s5.ownBlock = some g → g < w5.heap.size from HP5.out.rlt)
  clear hQ7 hT7 HP6 HQ6 HV6 HO6 HB6 HP5 HQ5 HB5 HR5 HR6
  have hlen : (l.map fun v => posOf L1 v).length = l.length := by simp
  have hmem : ∀ v ∈ l, v ∈ L1 := fun v hv => by rw [← hL1]; exact (mem_addAll _ _ _).2 (.inr hv)
  have hval := fun wx (hx : Pool wx (w.heap.size + 1) w.heap.size s5 L1) (hr : RowOf wx R5 3 ((l.map fun v => posOf L1 v).map num)) => values_ok wx (some ⟨w.heap.size + 1, 0, none⟩) L1 (fun wy hy k hk => get_any k wy (hx.below hy) hk) (some ⟨R5, 0, none⟩) (l.map fun v => posOf L1 v) l.length (ints_row hr hr.lt) (fun k hk => by
    obtain ⟨v, hv, rfl⟩ := List.mem_map.1 hk
    exact posOf_lt (hmem v hv)) (by rw [hlen]; exact HM.out) (by rw [hlen]; omega)
  rw [hlen, sel_pos L1 L1 l hmem (List.prefix_refl _)] at hval
  have HVAL := Lib.hid hval
  clear hval hlen hmem
  go_wp2_with fail
  refine (HVAL.out _ HP7.out HR7.out).mono ?_
  rintro e w8 ⟨R8, rfl, hR8, hz8, hb8⟩
  have HR8 := Lib.hid hR8
  have HB8 := Lib.hid hb8
  clear hR8 hb8
  go_wp2_with fail
  go_loopw [11] (fun i wr => ∃ k : Nat, k ≤ l.length ∧ i = .int .i64 k ∧ Hid ((∃ xs : List Value, xs.length = l.length * 2 ∧ RowOf wr R8 28 xs) ∧ Below w7.heap.size w7 wr)) (fun i _ => l.length - (intOf i).toNat)
  case atStart => exact ⟨0, Nat.zero_le _, rfl, ⟨_, flatV_length l, HR8.out⟩, HB8.out⟩
  case round =>
    obtain ⟨k, hk, rfl, hs⟩ := hrel
    have HK := Lib.hid hs.out
    clear hs
    by_cases hlt : k < l.length
    · obtain ⟨xs, hxl, hxr⟩ := HK.out.1
      have y0 := hxr.cell (k * 2)
      have y1 := hxr.cell (k * 2 + 1)
      have f0 := hxr.frozen (k * 2)
      have f1 := hxr.frozen (k * 2 + 1)
      have hRl8 := hxr.lt
      rw [List.getElem?_eq_getElem (by omega)] at y0
      rw [List.getElem?_eq_getElem (by omega)] at y1
      have HX := Lib.hid (show ∃ ys : List Value, ys.length = l.length * 2 ∧ RowOf _ R8 28 ys from ⟨_, by simpa using hxl, (hxr.set (k * 2) (.string ⟨#[122, 122]⟩)).set (k * 2 + 1) (.int .i64 0)⟩)
      have HXB := Lib.hid ((HK.out.2.setCell (p := ⟨R8, k * 2, none⟩) hz8 (.string ⟨#[122, 122]⟩)).setCell (p := ⟨R8, k * 2 + 1, none⟩) hz8 (.int .i64 0))
      clear hxr
      go_wp2_with fail
      go_roundw
      case rel => exact ⟨k + 1, by omega, by go_num, HX.out, HXB.out⟩
      case measure => simp [intOf]; omega
    · go_wp2_with fail
      refine (HVAL.out _ (HP7.out.below HK.out.2) (HR7.out.below HK.out.2 HR7.out.lt)).mono ?_
      rintro e w10 ⟨R10, rfl, hR10, hz10, hb10⟩
      have HR10 := Lib.hid hR10
      have HB710 := Lib.hid (HK.out.2.trans (hb10.mono HK.out.2.size))
      have hsr := HK.out.2.size
      have hs10 := hb10.size
      clear hR10 hb10
      have HP10 := Lib.hid (HP7.out.below HB710.out)
      have HQ10 := Lib.hid (HQ7.out.below HB710.out)
      have HB10 := Lib.hid (HB7.out.trans (HB710.out.mono HB7.out.size))
      go_wp2_with fail
      refine (clear_any _ HQ10.out).mono ?_
      rintro e w11 ⟨rfl, _, hT11⟩
      have HP11 := Lib.hid (kept_by HP10.out hT11 ⟨by omega, by omega, fun e => by have := HS7.out _ e; omega⟩ ⟨by omega, by omega, fun e => by have := HS7.out _ e; omega⟩ (fun g hg => by
        have a := HS5.out g hg
        have b := HL5.out g hg
        exact ⟨by omega, by omega, fun e => by have := HS7.out _ e; omega⟩))
      have HR11 := Lib.hid (HR10.out.kept (hT11.block R10 HR10.out.lt ⟨by omega, by omega, fun e => by have := HQ7.out.rlt _ e; omega⟩))
      have HB11 := Lib.hid (HB10.out.trans (hT11.below (by omega) (by omega) HS7w.out HB10.out.size))
      have hll : (L1.length : Int) ≤ l.length := by rw [← hL1]; have := addAll_len [] l; simp at this; omega
      clear hT11 HP10 HQ10 HB10 HR10
      go_wp2_with (first
        | (go_at_call 12; refine (values_same _ _ l l.length c _ (vals_row HR11.out HR11.out.lt) ((HV.out.below HB11.out (Nat.le_refl _)).up HB11.out.size) HM.out).mono ?_; rintro e w12 ⟨rfl, hb12⟩; have HP12 := Lib.hid (HP11.out.below hb12); have HB12 := Lib.hid (HB11.out.trans (hb12.mono HB11.out.size)); clear hb12)
        | (go_at_call 8; refine (len_any _ HP12.out).mono ?_; rintro e w' ⟨rfl, rfl⟩))
      go_ret
      exact ⟨rfl, HB12.out⟩
end ApartLaw
end Go.Proofs.Ytdoadclblloddab
