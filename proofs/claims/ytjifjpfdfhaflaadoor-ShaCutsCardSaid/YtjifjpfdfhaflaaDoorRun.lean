/-
  The walk of ShaRuns.
-/
import Derived.Test.YtjifjpfdfhaflaaDoorFix
import Derived.Test.YtjifjpfdfhaflaaDoorApp
set_option linter.unusedVariables false
set_option linter.unusedSimpArgs false
namespace Go.Proofs.YtjifjpfdfhaflaaDoor
open Go.RowKit

theorem Acc.only {w w' : World} {base N : Nat} {v : Value} {xs : List UInt8} (h : Acc w base v xs) (ho : Only N w w') (hN : N < base) (hv : v = .slice none 0 0 ∨ w.ownsRow base 5 1 v xs.length (cells8 xs)) : Acc w' base v xs := by
  refine ⟨h.1, ?_⟩
  rcases hv with rfl | ⟨h1, h2⟩
  · refine .inl ⟨?_, grw_nil⟩
    obtain ⟨⟨p, d, hv, _⟩, _⟩ := h
    simp only [Value.slice.injEq] at hv
    exact List.eq_nil_of_length_eq_zero hv.2.1.symm
  · refine .inr ⟨h1, ?_⟩
    rcases h2 with h2 | ⟨g', cap, cur, a1, a2, a3, a4⟩
    · exact .inl h2
    · exact .inr ⟨g', cap, cur, a1, a2, (ho.block g' (Array.getElem?_eq_some_iff.1 a3).1 (by omega)).trans a3, a4⟩
/-- a list of the call's own: nothing, or a row -/
def Own8 (w : World) (base : Nat) (v : Value) (xs : List UInt8) : Prop := v = .slice none 0 0 ∧ xs = [] ∨ (∃ p d, v = .slice p xs.length d ∧ xs.length ≤ d) ∧ w.ownsRow base 5 1 v xs.length (cells8 xs)
theorem Own8.acc {w : World} {base : Nat} {v : Value} {xs : List UInt8} (h : Own8 w base v xs) : Acc w base v xs := by
  rcases h with ⟨rfl, rfl⟩ | ⟨h1, h2⟩
  · exact acc_nil
  · exact ⟨h1, .inr h2⟩
theorem Own8.of {w : World} {base : Nat} {v : Value} {xs : List UInt8} (h : Acc w base v xs) (h0 : xs ≠ []) : Own8 w base v xs := by
  obtain ⟨h1, h2⟩ := h
  rcases h2 with ⟨h, _⟩ | h2
  · exact absurd h h0
  · exact .inr ⟨h1, h2⟩
theorem Own8.only {w w' : World} {base N : Nat} {v : Value} {xs : List UInt8} (h : Own8 w base v xs) (ho : Only N w w') (hN : N < base) : Own8 w' base v xs := by
  rcases h with h | ⟨h1, h2⟩
  · exact .inl h
  · refine .inr ⟨h1, h2.1, ?_⟩
    rcases h2.2 with h2 | ⟨g', cap, cur, a1, a2, a3, a4⟩
    · exact .inl h2
    · exact .inr ⟨g', cap, cur, a1, a2, (ho.block g' (Array.getElem?_eq_some_iff.1 a3).1 (by omega)).trans a3, a4⟩
theorem Own8.on {w w' : World} {base : Nat} {v : Value} {xs : List UInt8} (h : Own8 w base v xs) (hb : Below w.heap.size w w') : Own8 w' base v xs := by
  rcases h with h | ⟨h1, h2⟩
  · exact .inl h
  · exact .inr ⟨h1, owns_on h2 hb (Nat.le_refl _)⟩
theorem Own8.rd {w : World} {base : Nat} {v : Value} {xs : List UInt8} (h : Own8 w base v xs) : ∃ p d, v = .slice p xs.length d ∧ xs.length ≤ d ∧ Rd0 w p xs := h.acc.rd
/-- what is kept of a Hash that lies at N -/
structure Hq (X w : World) (N : Nat) (l : List UInt8) : Prop where
  hs : Hs X N l
  bel : Below w.heap.size w X
  far : w.heap.size ≤ N
theorem Hq.on {X X' w : World} {N : Nat} {l : List UInt8} (h : Hq X w N l) (hb : Below X.heap.size X X') : Hq X' w N l := ⟨h.hs.on hb, h.bel.trans (hb.mono h.bel.size), h.far⟩
theorem Hq.al {X w : World} {N : Nat} {l : List UInt8} (h : Hq X w N l) (o : Obj) : Hq (X.alloc o) w N l := h.on (below1 _ _)
theorem Hq.wr {X X' w : World} {N : Nat} {l l' : List UInt8} (h : Hq X w N l) (hh : Hs X' N l') (ho : Only N X X') : Hq X' w N l' := ⟨hh, h.bel.trans ((ho.below (Nat.le_of_lt h.hs.lt)).mono h.far), h.far⟩
theorem Hq.env {X w : World} {N : Nat} {l : List UInt8} (h : Hq X w N l) (he : Env w) : Env X := he.on h.bel he.size
theorem Hq.above {X X' w : World} {N : Nat} {l : List UInt8} (h : Hq X w N l) (hb : Below (N + 1) X X') : Hq X' w N l := by
  obtain ⟨s, r, h1, h2⟩ := h.hs
  exact ⟨⟨s, r, h1, h2.below hb (Nat.lt_succ_self _)⟩, h.bel.trans (hb.mono (by have := h.far; omega)), h.far⟩
theorem Hq.two {X w : World} {N : Nat} {l : List UInt8} (h : Hq X w N l) (he : Env w) : 2 ≤ N := Nat.le_trans he.size h.far

theorem parts_one (q : Option Addr) (c : Nat) (m S : List UInt8) (X : World) (hR : Rd0 X q m) (hc : m.length ≤ c) (hE : Env X) (hz : m.length < 1000000000000000) (hS : Hid (S = sumS m)) :
    Calls Tryd.prog 16 #[.slice (some ⟨X.heap.size, 0, none⟩) 1 1] (X.alloc (.cells #[.slice q m.length c] 22)) fun e w' => e = .returned (.agg (cells8 S).toArray) ∧ Below (X.alloc (.cells #[.slice q m.length c] 22)).heap.size (X.alloc (.cells #[.slice q m.length c] 22)) w' := by
  refine parts_any (some ⟨X.heap.size, 0, none⟩) [⟨q, c, m⟩] 1 _ ⟨.inr ⟨X.heap.size, 0, rfl, by simp, fun i hi => ?_⟩, fun x hx => ?_⟩ (hE.on (below1 _ _) hE.size) (by simp) (by rw [joinL_one]; exact hz) S (by rw [joinL_one]; exact hS)
  · have hi0 : i = 0 := by simpa using hi
    subst hi0
    exact (Bk.new X _ _).cell 0 _ rfl
  · obtain rfl : x = ⟨q, c, m⟩ := by simpa using hx
    exact ⟨hR.on (below1 _ _), hc⟩

set_option maxRecDepth 100000 in
set_option maxHeartbeats 2000000 in
theorem runs_walk (n c : UInt8) (w : World) (hE : Env w) :
    Calls Tryd.prog 6 #[B8 n, B8 c] w fun e w' => e = .returned (.bool true) ∧ Below w.heap.size w w' := by
  have HE := Lib.hid hE
  clear hE
  have hn := u8_lt n
  go_enter Tryd.func6, Tryd.ntmps6
  go_upto_region 6 with (first
    | (go_at_call 7; refine (fixed_any _ HE.out).mono ?_; rintro e w1 ⟨rfl, hb1⟩; have HB1 := Lib.hid hb1; clear hb1)
    | (go_at_call 12; refine (new_any _ (HE.out.on HB1.out HE.out.size)).mono ?_; rintro e w2 ⟨rfl, hh, hb2⟩; have HF := Lib.hid (show Hq w2 w w1.heap.size [] from ⟨hh, HB1.out.trans (hb2.mono HB1.out.size), HB1.out.size⟩); clear hh hb2 HB1))
  obtain ⟨k, ek⟩ : ∃ k, Hid (k = n.toNat % 200) := ⟨_, Lib.hid rfl⟩
  rw [show (n.toNat : Int) % 200 = (k : Int) by rw [ek.out]; simp]
  have hk200 : k < 200 := by rw [ek.out]; omega
  clear hn ek
  generalize w1.heap.size = N at *
  go_wp2_with fail
  go_loopw [6, 8] (fun v i wr => ∃ j : Nat, j ≤ k ∧ i = .int .i64 j ∧ Hid (Own8 wr (N + 1) v (List.replicate j c)) ∧ Hq wr w N (List.replicate j c)) (fun _ i _ => k - (intOf i).toNat)
  case atStart => exact ⟨0, by omega, rfl, Lib.hid (.inl ⟨rfl, rfl⟩), HF.out⟩
  case round =>
    clear HF
    obtain ⟨j, hj, rfl, HO, hF⟩ := hrel
    have HF := Lib.hid hF
    clear hF
    have w3 : (0 : Int) ≤ (j : Int) := by omega
    by_cases hlt : j < k
    · have w4 : (j : Int) < (k : Int) := by omega
      have HLT := Lib.hid (HF.out.hs.lt)
      go_wp2_with (first
        | (refine wpList_app8 rfl _ _ rfl rfl (N + 1) _ _ rfl (HO.out.acc.on (by have := HLT.out; omega) (below1 _ _)) _ [c] 1 1 rfl rfl (rd0_lit wr 5 [c]) (by simp; omega) (by have := HLT.out; simp; omega) ?_; intro v5 w5 hA hb; have HO5 := Lib.hid (Own8.of hA (by simp)); have HF5 := Lib.hid ((HF.out.al (.cells #[B8 c] 5)).above hb); clear hA hb)
        | (go_at_call 13; refine (write_any N (List.replicate j c) [c] _ 1 _ (HF5.out.al _).hs ((HF5.out.al _).env HE.out) (HF5.out.two HE.out) (.inr ⟨w5.heap.size, 0, rfl, by have := HF5.out.hs.lt; omega, by simp, fun i v hv => by rw [Nat.zero_add]; exact (Bk.new w5 5 (cells8 [c]).toArray).cell i v (by rw [List.toList_toArray]; exact hv)⟩) (by simp) (by simp; omega)).mono ?_; rintro e w6 ⟨rfl, hh, hO⟩; have HF6 := Lib.hid (show Hq w6 w N (List.replicate (j + 1) c) from by rw [List.replicate_succ']; exact (HF5.out.al (.cells #[B8 c] 5)).wr hh hO); have HO6 := Lib.hid (show Own8 w6 (N + 1) v5 (List.replicate (j + 1) c) from by rw [List.replicate_succ']; exact (HO5.out.on (below1 _ _)).only hO (Nat.lt_succ_self _)); clear hh hO))
      go_roundw
      case rel => exact ⟨j + 1, by omega, by go_num, HO6, HF6.out⟩
      case measure => simp [intOf]; omega
    · obtain rfl : j = k := by omega
      obtain ⟨wo, rfl⟩ : ∃ wo : World, wo = wr := ⟨_, rfl⟩
      obtain ⟨L, hL⟩ : ∃ L, Hid (L = List.replicate j c) := ⟨_, Lib.hid rfl⟩
      have hO := HO.out
      have hF := HF.out
      rw [← hL.out] at hO hF
      have hl : L.length < 1000 := by rw [hL.out]; simp; omega
      obtain ⟨p, d, rfl, hd, hR⟩ := hO.rd
      obtain ⟨S, hS⟩ : ∃ S, Hid (S = sumS L) := ⟨_, Lib.hid rfl⟩
      have HL := Lib.hid (show S.length = 32 by rw [hS.out]; exact sumS_len _)
      have heq := fun wx => run_eqIn8 S HL.out wx
      have HF := Lib.hid hF
      have HR := Lib.hid hR
      have HD := Lib.hid hd
      have HLL := Lib.hid hl
      clear hO hF HO hR hlt hj hd hl
      go_wp2_with (first
        | (go_at_call 14; refine (hsum_eq N L S hS _ HF.out.hs (HF.out.env HE.out) (by have := HLL.out; omega)).mono ?_; rintro e w4 ⟨rfl, hb9⟩; have HF4 := Lib.hid (HF.out.on hb9); have HR4 := Lib.hid (HR.out.on hb9); clear hb9 HF HR)
        | (go_at_call 9; refine (sum_any p d L _ HR4.out HD.out (HF4.out.env HE.out) (by have := HLL.out; omega) S hS).mono ?_; rintro e w5 ⟨rfl, hb9⟩; have HF5 := Lib.hid (HF4.out.on hb9); have HR5 := Lib.hid (HR4.out.on hb9); clear hb9 HF4 HR4)
        | (go_at_call 16; refine (parts_one p d L S w5 HR5.out HD.out (HF5.out.env HE.out) (by have := HLL.out; omega) hS).mono ?_; rintro e w6 ⟨rfl, hb9⟩; have HF := Lib.hid ((HF5.out.al _).on hb9); have HR := Lib.hid ((HR5.out.on (below1 _ _)).on hb9); clear hb9 HF5 HR5))
      go_ret
      exact ⟨by rfl, HF4.out.bel⟩
end Go.Proofs.YtjifjpfdfhaflaaDoor
