/-
  The walk of mandatelaw02.InternFull.
-/
import Derived.Test.YtdoadclblloddabFixed
namespace Go.Proofs.Ytdoadclblloddab
open Go.RowKit Go.Maps Go.WideMaps
namespace FullLaw

def nv (i : Nat) : Vl := (⟨#[]⟩, (i : Int))
def L (k : Nat) : List Vl := (List.range k).map nv
theorem L_len (k : Nat) : (L k).length = k := by simp [L]
theorem L_succ (k : Nat) : L (k + 1) = L k ++ [nv k] := by simp [L, List.range_succ]
theorem L_get (k i : Nat) (h : i < (L k).length) : (L k)[i] = nv i := by simp [L]
theorem nv_inj {i j : Nat} (h : nv i = nv j) : i = j := by
  have := congrArg Prod.snd h
  exact Int.ofNat_inj.1 this
theorem L_nodup (k : Nat) : (L k).Nodup := by
  induction k with
  | zero => exact List.nodup_nil
  | succ k ih =>
    rw [L_succ]
    refine List.nodup_append.2 ⟨ih, by simp, fun a ha b hb e => ?_⟩
    simp at hb; subst e; subst hb
    obtain ⟨i, hi, e⟩ := List.mem_map.1 ha
    have := nv_inj e
    have := List.mem_range.1 hi
    omega
theorem L_good (k : Nat) : goodAll (L k) = true := by
  unfold goodAll
  rw [List.all_eq_true]
  intro v hv
  obtain ⟨i, _, rfl⟩ := List.mem_map.1 hv
  show ((⟨#[]⟩ : ByteArray).toList.isEmpty || _) = true
  rw [ByteArray.toList_eq]; rfl
theorem L_ok (k : Nat) (h : k ≤ 4096) : OkAll (L k) := by
  intro v hv
  obtain ⟨i, hi, rfl⟩ := List.mem_map.1 hv
  have := List.mem_range.1 hi
  exact ⟨Nat.zero_le _, WalkArith.wf_i64 (n := (i : Int)) (by omega)⟩
theorem addAll_nodup_nil : ∀ (l m : List Vl), (m ++ l).Nodup → addAll m l = m ++ l := by
  intro l
  induction l with
  | nil => intro m _; simp [addAll]
  | cons v r ih =>
    intro m h
    show addAll (addV m v) r = _
    have hv : v ∉ m := fun hm => by
      rw [List.nodup_append] at h
      exact h.2.2 v hm v (by simp) rfl
    have e : addV m v = m ++ [v] := by unfold addV; rw [if_neg hv]
    rw [e, ih _ (by simpa using h)]; simp
theorem addAll_L (k : Nat) : addAll [] (L k) = L k := by
  have := addAll_nodup_nil (L k) [] (by simpa using L_nodup k)
  simpa using this

def vX : Vl := (⟨#[120]⟩, 0)
def vY : Vl := (⟨#[121]⟩, 0)
theorem okX : Ok vX := by constructor <;> decide
theorem okY : Ok vY := by constructor <;> decide
theorem sym_out {k : Nat} {s : ByteArray} {n : Int} (h : s.data.toList ≠ []) : (s, n) ∉ L k := by
  intro hm
  obtain ⟨i, _, e⟩ := List.mem_map.1 hm
  have := congrArg (fun v : Vl => v.1.data.toList) e
  exact h this.symm
theorem vals_own {w : World} {base g cap : Nat} {l : List Vl} (hg : g < w.heap.size) (h : w.ownsRow base 28 2 (.slice (some ⟨g, 0, none⟩) l.length cap) l.length (flatV l)) : Vals w w.heap.size (some ⟨g, 0, none⟩) l := by
  refine .inr ⟨g, 0, rfl, hg, fun i hi => ?_⟩
  obtain ⟨p, q⟩ := flatV_get l i hi
  have c1 := h.cells (g := g) rfl (i * 2) _ p
  have c2 := h.cells (g := g) rfl (i * 2 + 1) _ q
  rw [Addr.add_lit] at c1 c2
  exact ⟨c1, c2⟩

theorem len_xy (K : Nat) : (addAll (L K) [vX, vY]).length = K + 2 := by
  have hx : vX ∉ L K := sym_out (by decide)
  have hy : vY ∉ L K ++ [vX] := by
    intro h
    rcases List.mem_append.1 h with h | h
    · exact sym_out (k := K) (by decide) h
    · exact absurd (List.mem_singleton.1 h) (by decide)
  show (addV (addV (L K) vX) vY).length = K + 2
  have e1 : addV (L K) vX = L K ++ [vX] := by unfold addV; rw [if_neg hx]
  rw [e1]
  have e2 : addV (L K ++ [vX]) vY = L K ++ [vX] ++ [vY] := by unfold addV; rw [if_neg hy]
  rw [e2]; simp [L_len]

structure Facts (LL : List Vl) : Prop where
  len : LL.length = 4095
  x : vX ∉ LL
  y : vY ∉ LL ++ [vX]
  xy : (addAll LL [vX, vY]).length = 4097
  at' : ∀ j, j < 4095 → ∃ h : j < LL.length, LL[j] = nv j
  ok : OkAll LL
  good : goodAll LL = true
  all : addAll [] LL = LL
theorem facts (K : Nat) (hK : K = 4095) : Facts (L K) where
  len := by rw [L_len]; exact hK
  x := sym_out (by decide)
  y := fun h => by
    rcases List.mem_append.1 h with h | h
    · exact sym_out (k := K) (by decide) h
    · exact absurd (List.mem_singleton.1 h) (by decide)
  xy := by rw [len_xy]; omega
  at' := fun j hj => ⟨by rw [L_len]; omega, L_get _ _ _⟩
  ok := L_ok K (by omega)
  good := L_good K
  all := addAll_L K

set_option maxHeartbeats 16000000 in
set_option maxRecDepth 100000 in
theorem walk (n : Nat) (w : World) (hn : n ≤ 65535) : Calls Try.prog 3 #[.int .u16 n] w fun e w' => e = .returned (.bool true) ∧ Below w.heap.size w w' := by
  obtain ⟨i0, hi, hz0, hz1, hz2⟩ := info_parts info31
  go_enter Try.func3, Try.ntmps3
  go_wp2_with (first
    | (go_at_call 5; refine (new_any _).mono ?_; rintro e w1 ⟨rfl, hP1, hB1⟩; have HP1 := Lib.hid hP1; have HB1 := Lib.hid hB1; clear hP1 hB1)
    | (go_at_call 6; refine (fixed_any _).mono ?_; rintro e w2 ⟨rfl, hB2⟩; have HP2 := Lib.hid (HP1.out.below hB2); have HB2 := Lib.hid (HB1.out.trans (hB2.mono HB1.out.size)); clear hB2))
  go_loopw [4, 5] (fun v i wr => ∃ k : Nat, k ≤ 4095 ∧ i = .int .i64 k ∧ Hid (wr.ownsRow w2.heap.size 28 2 v k (flatV (L k)) ∧ Below w2.heap.size w2 wr)) (fun _ i _ => 4095 - (intOf i).toNat)
  case atStart => exact ⟨0, by omega, rfl, World.ownsRow_nil _ _ _ _, Below.refl _ _⟩
  case round =>
    obtain ⟨k, hk, rfl, hs⟩ := hrel
    have HS := Lib.hid hs.out
    have hszr := hs.out.2.size
    clear hs
    by_cases hlt : k < 4095
    · have hLk := L_succ k
      have HLK := Lib.hid hLk
      clear hLk
      have h63 : k + 1 ≤ maxLen := by unfold maxLen; omega
      go_wp2_with (at_builtin; refine wpList_append_lies _ rfl _ _ 26 rfl w2.heap.size 28 i0 _ 2 24 Try.underlying26 hi hz0 hz1 hz2 rfl (by omega) u4 k (flatV (L k)) rfl (HS.out.1.alloc _) ⟨wr.heap.size, 0, none⟩ 1 1 (encV (nv k)) rfl rfl (World.news_of_block (cs := #[.string ⟨#[]⟩, .int .i64 k]) (t := 28) (fr := (0, 0)) (MapKept.heap_alloc _ _).1) (by intro u hu; simp [encV] at hu; rcases hu with rfl | rfl <;> rfl) (by omega) h63 (by omega) (by simp; omega) _ rfl ?_; intro g cap w3 hown hgrow hat hlt3; have HOW := Lib.hid hown; have HB3 := Lib.hid ((HS.out.2.trans ((alloc_below wr (.cells #[.string ⟨#[]⟩, .int .i64 k] 28)).mono hszr)).grown hgrow (by simp; omega) (fun j hj => (HS.out.1.lt j hj).1)); clear hown hgrow hat)
      go_roundw
      case rel => exact ⟨k + 1, by omega, by go_num, by rw [HLK.out, flatV_snoc]; exact HOW.out, HB3.out⟩
      case measure => simp [intOf]; omega
    · obtain rfl : k = 4095 := by omega
      have HFA := Lib.hid (facts 4095 rfl)
      generalize L 4095 = LL at *
      have hPr := HP2.out.below HS.out.2
      obtain ⟨g, cap, rfl, hge, hgl⟩ : ∃ g cap, u4 = .slice (some ⟨g, 0, none⟩) 4095 cap ∧ w2.heap.size ≤ g ∧ g < wr.heap.size := by
        obtain ⟨_, h2⟩ := HS.out.1
        rcases h2 with ⟨_, h⟩ | ⟨g, cap, cur, rfl, h3, h4, _⟩
        · cases h
        · exact ⟨g, cap, rfl, h3, (Array.getElem?_eq_some_iff.1 h4).1⟩
      have hrow := row_ok wr hPr (some ⟨g, 0, none⟩) LL cap (vals_own hgl (by rw [HFA.out.len]; exact HS.out.1)) (fun b off e => by cases e; exact HP2.out.off hge) HFA.out.ok (by rw [HFA.out.len]; unfold maxLen; omega) (by rw [HFA.out.len]; omega) HFA.out.good (by rw [HFA.out.all, HFA.out.len]; omega)
      rw [HFA.out.len, HFA.out.all] at hrow
      have HROW := Lib.hid hrow
      clear hrow hPr
      go_wp2_with fail
      refine HROW.out.mono ?_
      rintro e w4 ⟨R4, s4, rfl, hP4, hT4, _, _, _⟩
      have HP4 := Lib.hid hP4
      have HB4 := Lib.hid (show Below w.heap.size w w4 from HB2.out.trans ((HS.out.2.mono HB2.out.size).trans (hT4.below (by omega) (by omega) (fun g hg => by simp [Value.ownBlock] at hg) (Nat.le_trans HB2.out.size hszr))))
      have HS4 := Lib.hid (show ∀ g, s4.ownBlock = some g → w.heap.size ≤ g from fun g hg => (hT4.row g hg).elim (fun h => by simp [Value.ownBlock] at h) (fun h => by have := HB2.out.size; omega))
      clear hP4 hT4 HROW HS hlt hge hgl
      have hl4 : w.heap.size + 1 < w4.heap.size := HP4.out.lt
      have hxy : RowOf (w4.alloc (.cells #[.string ⟨#[120]⟩, .int .i64 0, .string ⟨#[121]⟩, .int .i64 0] 28)) w4.heap.size 28 (flatV [vX, vY]) := row_new w4 (flatV [vX, vY]) 28
      have hrow2 := row_full (w4.alloc (.cells #[.string ⟨#[120]⟩, .int .i64 0, .string ⟨#[121]⟩, .int .i64 0] 28)) (HP4.out.alloc _) (some ⟨w4.heap.size, 0, none⟩) [vX, vY] 2 (.inr ⟨w4.heap.size, 0, rfl, by simp, fun i hi => by
        obtain ⟨p, q⟩ := flatV_get [vX, vY] i hi
        rw [hxy.cell, hxy.cell, Nat.zero_add]; exact ⟨p, q⟩⟩) (by intro v hv; simp at hv; rcases hv with rfl | rfl; exact okX; exact okY) (by unfold maxLen; decide) (by kernel_rfl) (by rw [HFA.out.xy]; omega)
      have HROW2 := Lib.hid hrow2
      clear hrow2 hxy
      go_wp2_with fail
      refine HROW2.out.mono ?_
      rintro e w5 ⟨rfl, hb5⟩
      have HP5 := Lib.hid ((HP4.out.alloc _).below hb5)
      have HB5 := Lib.hid (HB4.out.trans (((alloc_below w4 _).trans (hb5.mono (by simp))).mono HB4.out.size))
      clear hb5 HROW2 HP4 HB4
      have hlen := len_any w5 HP5.out
      rw [HFA.out.len] at hlen
      have HLEN := Lib.hid hlen
      have hputx := put_new ⟨#[120]⟩ 0 w5 (by kernel_rfl) HP5.out okX HFA.out.x (by rw [HFA.out.len]; omega)
      rw [HFA.out.len] at hputx
      have HPUTX := Lib.hid hputx
      clear hlen hputx
      go_wp2_with (go_at_call 8; refine HLEN.out.mono ?_; rintro e w' ⟨rfl, rfl⟩)
      refine HPUTX.out.mono ?_
      rintro e w6 ⟨rfl, s6, hP6, hT6⟩
      have HP6 := Lib.hid hP6
      have hputy := put_full ⟨#[121]⟩ 0 w6 (by kernel_rfl) hP6 okY HFA.out.y (by rw [List.length_append, HFA.out.len]; rfl)
      have HPUTY := Lib.hid hputy
      have HB6 := Lib.hid (HB5.out.trans (hT6.below (by omega) (by omega) HS4.out HB5.out.size))
      clear hP6 hT6 hputy HPUTX HLEN
      go_wp2_with fail
      refine HPUTY.out.mono ?_
      rintro e w7 ⟨rfl, hb7⟩
      have HP7 := Lib.hid (HP6.out.below hb7)
      have HB7 := Lib.hid (HB6.out.trans (hb7.mono HB6.out.size))
      clear hb7 HPUTY HP6 HB6
      have hjn : n % 4095 < 4095 := Nat.mod_lt _ (by omega)
      obtain ⟨hjl, hje⟩ := HFA.out.at' (n % 4095) hjn
      have hjl2 : n % 4095 < (LL ++ [vX]).length := by rw [List.length_append]; omega
      have hel : (LL ++ [vX])[n % 4095]'hjl2 = ((⟨#[]⟩ : ByteArray), (n : Int) % 4095) := by rw [List.getElem_append_left hjl, hje]; unfold nv; rw [Int.natCast_emod]; rfl
      have hput := put_in ⟨#[]⟩ ((n : Int) % 4095) w7 (by show ((⟨#[]⟩ : ByteArray).toList.isEmpty || _) = true; rw [ByteArray.toList_eq]; rfl) HP7.out ⟨Nat.zero_le _, WalkArith.wf_i64 (n := (n : Int) % 4095) (by omega)⟩ (n % 4095) hjl2 hel
      rw [Int.natCast_emod] at hput
      have HPUT := Lib.hid hput
      clear hput hel hje hjl2 hjn
      go_wp2_with fail
      refine HPUT.out.mono ?_
      rintro e w8 ⟨rfl, hb8⟩
      have HB8 := Lib.hid (HB7.out.trans (hb8.mono HB7.out.size))
      have hlen2 := len_any w8 (HP7.out.below hb8)
      rw [List.length_append, HFA.out.len] at hlen2
      have HLEN2 := Lib.hid hlen2
      clear hb8 hlen2 HPUT
      go_wp2_with (go_at_call 8; refine HLEN2.out.mono ?_; rintro e w' ⟨rfl, rfl⟩)
      go_ret
      exact ⟨rfl, HB8.out⟩
end FullLaw
end Go.Proofs.Ytdoadclblloddab
