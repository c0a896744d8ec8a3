/-
  The walk of ShaCuts.
-/
import Derived.Test.YtjifjpfdfhaflaaDoorSms
set_option linter.unusedVariables false
set_option linter.unusedSimpArgs false
namespace Go.Proofs.YtjifjpfdfhaflaaDoor
open Go.RowKit

theorem cells8_take (m : List UInt8) (k : Nat) : cells8 (m.take k) = (cells8 m).take k := by simp [cells8, List.map_take]
theorem cells8_drop (m : List UInt8) (k : Nat) : cells8 (m.drop k) = (cells8 m).drop k := by simp [cells8, List.map_drop]
theorem Rd0.take {w : World} {q : Option Addr} {m : List UInt8} (h : Rd0 w q m) (k : Nat) : Rd0 w q (m.take k) := by
  rcases h with h | ⟨b, off, h1, h2, h3⟩
  · subst h; exact .inl (by simp)
  · refine .inr ⟨b, off, h1, h2, fun i v hv => h3 i v ?_⟩
    rw [cells8_take, List.getElem?_take] at hv
    split at hv
    · exact hv
    · cases hv
def fromQ (p : Option Addr) (c n : Nat) : Option Addr := if c = n then p else p.map (·.add (n * 1))
theorem Rd0.drop {w : World} {q : Option Addr} {m : List UInt8} (h : Rd0 w q m) (k c : Nat) (hc : m.length ≤ c) : Rd0 w (fromQ q c k) (m.drop k) := by
  unfold fromQ
  rcases h with h | ⟨b, off, h1, h2, h3⟩
  · subst h; exact .inl (by simp)
  · by_cases e : c = k
    · exact .inl (List.drop_eq_nil_of_le (by omega))
    · rw [if_neg e, h1]
      refine .inr ⟨b, off + k, by simp [Addr.add_mid], h2, fun i v hv => ?_⟩
      rw [cells8_drop, List.getElem?_drop] at hv
      rw [Nat.add_assoc]
      exact h3 (k + i) v hv
theorem run_slice_fromQ {P : Program} (t e : TypeId) (hu : P.underlying t = some (.slice e)) (hs : (P.info? e).map (·.size) = some 1) (p : Option Addr) (len cap : Nat) (k : IntKind) (i : Int) (n : Nat) (hi : i = (n : Int)) (hn : n ≤ len) (w : World) :
    (Instr.sliceAt t (.slice p len cap) (some (.int k i)) none none).run P w = .ok (.slice (fromQ p cap n) (len - n) (cap - n)) w := by
  subst hi
  have he : P.elem t = e := by simp [Program.elem, hu]
  rw [run_sliceAt_slice w t _ _ _ _ (by rw [he]; exact hu), run_slice_l w t p len cap (by rw [he]; exact hu) k n (by omega) (by omega), he]
  cases hq : P.info? e with
  | none => simp [hq] at hs
  | some i =>
    have hz : i.size = 1 := by simpa [hq] using hs
    simp [sizeOf, typeInfo, hq, hz, sliced, Result.andThen, fromQ]
theorem write_at (hb : Nat) (l m : List UInt8) (q : Option Addr) (n c : Nat) (hn : n = m.length) (w : World) (hH : Hs w hb l) (hE : Env w) (h2 : 2 ≤ hb) (hR : Rdn w hb q m) (hc : m.length ≤ c) (hz : l.length + m.length < 1152921504606846976) :
    Calls Tryd.prog 13 #[.pointer (some ⟨hb, 0, none⟩), .slice q n c] w fun e w' => e = .returned (.tuple #[]) ∧ Hs w' hb (l ++ m) ∧ Only hb w w' := by
  subst hn
  exact write_any hb l m q c w hH hE h2 hR hc hz
theorem sum_at (q : Option Addr) (n c : Nat) (m : List UInt8) (hn : n = m.length) (w : World) (hR : Rd0 w q m) (hc : m.length ≤ c) (hE : Env w) (hz : m.length < 1000000000000000) (S : List UInt8) (hS : Hid (S = sumS m)) :
    Calls Tryd.prog 9 #[.slice q n c] w fun e w' => e = .returned (.agg (cells8 S).toArray) ∧ Below w.heap.size w w' := by
  subst hn
  exact sum_any q c m w hR hc hE hz S hS

/-- what is kept of the Hash at N and of a sum at M -/
structure Cq (X w : World) (N : Nat) (l : List UInt8) (M : Nat) (S : List UInt8) : Prop where
  hq : Hq X w N l
  row : Bk X M 24 (cells8 S).toArray
  ne : M ≠ N
theorem Cq.on {X X' w : World} {N M : Nat} {l S : List UInt8} (h : Cq X w N l M S) (hb : Below X.heap.size X X') : Cq X' w N l M S := ⟨h.hq.on hb, h.row.on hb, h.ne⟩
theorem Cq.wr {X X' w : World} {N M : Nat} {l l' S : List UInt8} (h : Cq X w N l M S) (hh : Hs X' N l') (ho : Only N X X') : Cq X' w N l' M S := ⟨h.hq.wr hh ho, h.row.only ho h.ne, h.ne⟩
theorem Cq.start {X w : World} {N : Nat} {l S : List UInt8} (h : Hq X w N l) (c : Array Value) : Cq ((X.alloc (.cells c 24)).setRow X.heap.size (cells8 S).toArray) w N l X.heap.size S := by
  rw [World.setRow_alloc_new]
  exact ⟨h.al _, Bk.new _ _ _, by have := h.hs.lt; omega⟩
theorem parts_two (q q2 : Option Addr) (n1 n2 c c2 : Nat) (A B S m : List UInt8) (h1 : n1 = A.length) (h2 : n2 = B.length) (hm : A ++ B = m) (X : World) (hA : Rd0 X q A) (hB : Rd0 X q2 B) (hcA : A.length ≤ c) (hcB : B.length ≤ c2) (hE : Env X) (hz : m.length < 1000000000000000) (hS : Hid (S = sumS m)) :
    Calls Tryd.prog 16 #[.slice (some ⟨X.heap.size, 0, none⟩) 2 2] (X.alloc (.cells #[.slice q n1 c, .slice q2 n2 c2] 22)) fun e w' => e = .returned (.agg (cells8 S).toArray) ∧ Below X.heap.size X w' := by
  subst h1 h2
  have hj : joinL [⟨q, c, A⟩, ⟨q2, c2, B⟩] = m := by rw [← hm]; simp [joinL]
  refine (parts_any (some ⟨X.heap.size, 0, none⟩) [⟨q, c, A⟩, ⟨q2, c2, B⟩] 2 _ ⟨.inr ⟨X.heap.size, 0, rfl, by simp, fun i hi => ?_⟩, fun x hx => ?_⟩ (hE.on (below1 _ _) hE.size) (by simp) (by rw [hj]; exact hz) S (by rw [hj]; exact hS)).mono fun e w' h => ⟨h.1, (below1 X _).trans (h.2.mono (below1 X _).size)⟩
  · have hi2 : i < 2 := hi
    rw [Nat.zero_add]
    rcases Nat.lt_or_ge i 1 with h | h
    · obtain rfl : i = 0 := by omega
      exact (Bk.new X _ _).cell 0 _ rfl
    · obtain rfl : i = 1 := by omega
      exact (Bk.new X _ _).cell 1 _ rfl
  · rcases List.mem_cons.1 hx with rfl | hx
    · exact ⟨hA.on (below1 _ _), hcA⟩
    · obtain rfl : x = ⟨q2, c2, B⟩ := by simpa using hx
      exact ⟨hB.on (below1 _ _), hcB⟩
theorem cut_at (n : Int) (l : Nat) (hl : l ≤ 20000) : ∃ k : Nat, k ≤ l ∧ wrap64 ((IntKind.u64.wrap n).tmod ((l : Int) + 1)) = (k : Int) := by
  have h0 : 0 ≤ IntKind.u64.wrap n := by
    rw [IntKind.wrap_u64]
    omega
  have h1 : (IntKind.u64.wrap n).tmod ((l : Int) + 1) = (IntKind.u64.wrap n) % ((l : Int) + 1) := Int.tmod_eq_emod_of_nonneg h0
  have h2 := Int.emod_nonneg (IntKind.u64.wrap n) (show ((l : Int) + 1) ≠ 0 by omega)
  have h3 := Int.emod_lt_of_pos (IntKind.u64.wrap n) (show (0 : Int) < (l : Int) + 1 by omega)
  rw [h1]
  refine ⟨((IntKind.u64.wrap n) % ((l : Int) + 1)).toNat, by omega, ?_⟩
  rw [Int.toNat_of_nonneg h2]
  generalize (IntKind.u64.wrap n) % ((l : Int) + 1) = x at *
  unfold wrap64
  omega

set_option maxRecDepth 100000 in
set_option maxHeartbeats 12000000 in
theorem cuts_walk (q : Option Addr) (m : List UInt8) (c : Nat) (n : Int) (w : World) (hE : Env w) (hR : Rd0 w q m) (hc : m.length ≤ c) (hn : -9223372036854775808 ≤ n ∧ n ≤ 9223372036854775807) :
    Calls Tryd.prog 5 #[.slice q m.length c, .int .i64 n] w fun e w' => e = .returned (.bool true) ∧ Below w.heap.size w w' := by
  have HE := Lib.hid hE
  have HR := Lib.hid hR
  have HC := Lib.hid hc
  clear hE hR hc
  go_enter Tryd.func5, Tryd.ntmps5
  go_upto_region 3 with (go_at_call 7; refine (fixed_any _ HE.out).mono ?_; rintro e w1 ⟨rfl, hb1⟩; have HB1 := Lib.hid hb1; clear hb1)
  by_cases hbig : 20000 < m.length
  · have h1 : (20000 : Int) < (m.length : Int) := by omega
    go_wp2_with fail
    go_ret
    exact ⟨by rfl, HB1.out⟩
  have h1 : (m.length : Int) ≤ 20000 := by omega
  go_upto_region 6 with (fail)
  obtain ⟨k, hk, ek⟩ : ∃ k : Nat, k ≤ m.length ∧ wrap64 ((IntKind.u64.wrap n).tmod ((m.length : Int) + 1)) = (k : Int) := cut_at n m.length (by omega)
  rw [ek]
  clear ek hn
  go_upto_region 7 with (go_at_call 12; refine (new_any _ (HE.out.on HB1.out HE.out.size)).mono ?_; rintro e w2 ⟨rfl, hh, hb2⟩; have HF := Lib.hid (show Hq w2 w w1.heap.size [] from ⟨hh, HB1.out.trans (hb2.mono HB1.out.size), HB1.out.size⟩); clear hh hb2 HB1)
  generalize w1.heap.size = N at *
  have HK := Lib.hid hk
  have HLL := Lib.hid (show m.length ≤ 20000 by omega)
  have HT := Lib.hid (HR.out.take k)
  have HD := Lib.hid (HR.out.drop k c HC.out)
  have HTL := Lib.hid (show k = (m.take k).length by rw [List.length_take]; omega)
  have HDL := Lib.hid (show m.length - k = (m.drop k).length by rw [List.length_drop])
  have hsl := fun wx => run_slice_to (P := Tryd.prog) 22 5 Tryd.underlying22 (by kernel_rfl) q m.length c .i64 (k : Int) k rfl (by have := HC.out; omega) wx
  have hsf := fun wx => run_slice_fromQ (P := Tryd.prog) 22 5 Tryd.underlying22 (by kernel_rfl) q m.length c .i64 (k : Int) k rfl hk wx
  clear hk hbig h1
  obtain ⟨A, eA⟩ : ∃ A, Hid (A = m.take k) := ⟨_, Lib.hid rfl⟩
  obtain ⟨B, eB⟩ : ∃ B, Hid (B = m.drop k) := ⟨_, Lib.hid rfl⟩
  have HAB := Lib.hid (show A ++ B = m by rw [eA.out, eB.out, List.take_append_drop])
  have hT := HT.out
  have hD := HD.out
  have hTL := HTL.out
  have hDL := HDL.out
  rw [← eA.out] at hT hTL
  rw [← eB.out] at hD hDL
  have HT := Lib.hid hT
  have HD := Lib.hid hD
  have HTL := Lib.hid hTL
  have HDL := Lib.hid hDL
  clear hT hD hTL hDL eA eB
  generalize fromQ q c k = q2 at *
  go_upto_region 8 with (go_at_call 13; refine (write_at N [] A q k c HTL.out _ HF.out.hs (HF.out.env HE.out) (HF.out.two HE.out) (HT.out.far (Nat.le_refl _) HF.out.bel HF.out.far) (by have := HTL.out; have := HC.out; have := HK.out; omega) (by have := HTL.out; have := HLL.out; have := HK.out; simp; omega)).mono ?_; rintro e w3 ⟨rfl, hh, hO⟩; have HF3 := Lib.hid (HF.out.wr hh hO); clear hh hO HF)
  rw [List.nil_append] at HF3
  obtain ⟨S1, hS1⟩ : ∃ S, Hid (S = sumS A) := ⟨_, Lib.hid rfl⟩
  have HL1 := Lib.hid (show S1.length = 32 by rw [hS1.out]; exact sumS_len _)
  have HZ1 := Lib.hid (show (cells8 S1).toArray.size = 32 by rw [List.size_toArray, cells8_len, HL1.out])
  go_upto_region 9 with (first
    | (go_at_call 14; refine (hsum_eq N A S1 hS1 _ HF3.out.hs (HF3.out.env HE.out) (by have := HTL.out; have := HLL.out; have := HK.out; omega)).mono ?_; rintro e w4 ⟨rfl, hb9⟩; have HF4 := Lib.hid (HF3.out.on hb9); clear hb9 HF3)
    | (refine wpList_store_row rfl 24 _ _ rfl _ _ rfl rfl _ _ (Bk.new _ _ _) (by rw [HZ1.out]; kernel_rfl) (by rw [HZ1.out]; rfl) (cells8_one _) ?_))
  change Code.wp _ _ _ _ ((w4.alloc (.cells (cells8 (List.replicate 32 0)).toArray 24)).setRow w4.heap.size (cells8 S1).toArray)
  have HF := Lib.hid (Cq.start (S := S1) HF4.out (cells8 (List.replicate 32 0)).toArray)
  generalize (w4.alloc (.cells (cells8 (List.replicate 32 0)).toArray 24)).setRow w4.heap.size (cells8 S1).toArray = WA at *
  generalize w4.heap.size = M at *
  clear HF4
  (try simp only [Act.put])
  go_upto_region 12 with (first
    | (go_at_call 13; refine (write_at N A B q2 (m.length - k) (c - k) HDL.out _ HF.out.hq.hs (HF.out.hq.env HE.out) (HF.out.hq.two HE.out) (HD.out.far (Nat.le_refl _) HF.out.hq.bel HF.out.hq.far) (by have := HDL.out; have := HC.out; have := HK.out; omega) (by have := HTL.out; have := HDL.out; have := HLL.out; have := HK.out; omega)).mono ?_; rw [HAB.out]; rintro e w5 ⟨rfl, hh, hO⟩; have HF5 := Lib.hid (HF.out.wr hh hO); clear hh hO HF)
    | (go_at_call 13; refine (write_nil _ _).mono ?_; rintro e w6 ⟨rfl, rfl⟩))
  obtain ⟨S, hS⟩ : ∃ S, Hid (S = sumS m) := ⟨_, Lib.hid rfl⟩
  obtain ⟨S0, hS0⟩ : ∃ S, Hid (S = sumS []) := ⟨_, Lib.hid rfl⟩
  have HSL := Lib.hid (show S.length = 32 by rw [hS.out]; exact sumS_len _)
  have HS0L := Lib.hid (show S0.length = 32 by rw [hS0.out]; exact sumS_len _)
  have heq := fun wx => run_eqIn8 S HSL.out wx
  have heq1 := fun wx => run_eqIn8 S1 HL1.out wx
  have heq0 := fun wx => run_eqIn8 S0 HS0L.out wx
  have hN0 := Lib.hid (fun hb (wx : World) (h1 : Hs wx hb []) (h2 : Env wx) => hsum_eq hb [] S0 hS0 wx h1 h2 nil_lt)
  have hu32 := Tryd.underlying24
  have hi32 : (Tryd.prog.info? 24).map (·.size) = some (cells8 S1).length := by rw [cells8_len, HL1.out]; kernel_rfl
  have HRG := Lib.hid (show ∀ X, Cq X w N m M S1 → X.rangeAt M 0 (cells8 S1) from fun X h j v hv => by rw [Nat.zero_add]; exact h.row.cell j v (by rw [List.toList_toArray]; exact hv))
  have HF := Lib.hid (HF5.out.on (Below.refl _ _).drew)
  clear HF5 HZ1
  refine wp_region_held_drew (S := fun X => X.rangeAt M 0 (cells8 S1)) (by kernel_rfl) (HRG.out _ HF.out) (fun hHeld => ?_)
  refine wpAnyH_take (i := 0) (v := .agg (cells8 S1).toArray) rfl (by kernel_rfl) (by kernel_rfl) (by kernel_rfl) (fun _ _ _ h => h) (yieldsIf_load_mid (by rfl) 24 (.tmp 6) rfl M 0 (by rfl) _ _ (fun _ h => h) Tryd.underlying24 rfl (by rw [cells8_len, HL1.out]; kernel_rfl)) (by assumption) ?_
  (try simp only [Act.put, List.setIfInBounds_toArray, List.set_cons_zero, List.set_cons_succ])
  refine wpAnyH_take (i := 1) (v := ?_) rfl (by kernel_rfl) (by kernel_rfl) (by kernel_rfl) (fun _ _ _ h => h) (Or.inl ⟨by rfl, ?hy⟩) (by assumption) ?_
  case hy =>
    intro w hSw
    go_simp
    all_goals with_reducible rfl
  (try simp only [Act.put, List.setIfInBounds_toArray, List.set_cons_zero, List.set_cons_succ])
  refine wpAnyH_take (i := 2) (v := ?_) rfl (by kernel_rfl) (by kernel_rfl) (by kernel_rfl) (fun _ _ _ h => h) (Or.inl ⟨by rfl, ?hy⟩) (by assumption) ?_
  case hy =>
    intro w hSw
    go_simp
    all_goals with_reducible rfl
  (try simp only [Act.put, List.setIfInBounds_toArray, List.set_cons_zero, List.set_cons_succ])
  refine wpAnyH_take (i := 3) (v := ?_) rfl (by kernel_rfl) (by kernel_rfl) (by kernel_rfl) (fun _ _ _ h => h) (Or.inl ⟨by rfl, ?hy⟩) (by assumption) ?_
  case hy =>
    intro w hSw
    go_simp
    all_goals with_reducible rfl
  (try simp only [Act.put, List.setIfInBounds_toArray, List.set_cons_zero, List.set_cons_succ])
  refine wpAnyH_ready (rs := [4]) (by kernel_rfl) (by simp) ?_
  refine AllReadyH.cons rfl (fun K hK => ?_) AllReadyH.nil
  go_simp
  go_at_call 9
  refine (sum_at q k c A HTL.out _ (HT.out.on HF.out.hq.bel) (by have := HTL.out; have := HC.out; have := HK.out; omega) (HF.out.hq.env HE.out) (by have := HTL.out; have := HLL.out; have := HK.out; omega) S1 hS1).mono ?_
  rintro e wa ⟨rfl, hb9⟩
  have HF := Lib.hid (HF.out.on hb9)
  clear hb9
  refine hK.out _ _ (HRG.out _ HF.out) (fun hHeld => ?_)
  clear hK K
  (try simp only [Act.put, List.setIfInBounds_toArray, List.set_cons_zero, List.set_cons_succ])
  refine wpAnyH_take (i := 5) (v := ?_) rfl (by kernel_rfl) (by kernel_rfl) (by kernel_rfl) (fun _ _ _ h => h) (Or.inl ⟨by rfl, ?hy⟩) (by assumption) ?_
  case hy =>
    intro w hSw
    go_simp
    all_goals with_reducible rfl
  (try simp only [Act.put, List.setIfInBounds_toArray, List.set_cons_zero, List.set_cons_succ])
  refine wpAnyH_take (i := 6) (v := ?_) rfl (by kernel_rfl) (by kernel_rfl) (by kernel_rfl) (fun _ _ _ h => h) (Or.inl ⟨by rfl, ?hy⟩) (by assumption) ?_
  case hy =>
    intro w hSw
    go_simp
    all_goals with_reducible rfl
  (try simp only [Act.put, List.setIfInBounds_toArray, List.set_cons_zero, List.set_cons_succ])
  refine wpAnyH_take (i := 7) (v := ?_) rfl (by kernel_rfl) (by kernel_rfl) (by kernel_rfl) (fun _ _ _ h => h) (Or.inl ⟨by rfl, ?hy⟩) (by assumption) ?_
  case hy =>
    intro w hSw
    go_simp
    all_goals with_reducible rfl
  (try simp only [Act.put, List.setIfInBounds_toArray, List.set_cons_zero, List.set_cons_succ])
  refine wpAnyH_take (i := 9) (v := ?_) rfl (by kernel_rfl) (by kernel_rfl) (by kernel_rfl) (fun _ _ _ h => h) (Or.inl ⟨by rfl, ?hy⟩) (by assumption) ?_
  case hy =>
    intro w hSw
    go_simp
    all_goals with_reducible rfl
  (try simp only [Act.put, List.setIfInBounds_toArray, List.set_cons_zero, List.set_cons_succ])
  refine wpAnyH_ready (rs := [8]) (by kernel_rfl) (by simp) ?_
  refine AllReadyH.cons rfl (fun K hK => ?_) AllReadyH.nil
  go_simp
  go_at_call 14
  refine (hsum_eq N m S hS _ HF.out.hq.hs (HF.out.hq.env HE.out) (by have := HLL.out; omega)).mono ?_
  rintro e wb ⟨rfl, hb9⟩
  have HF := Lib.hid (HF.out.on hb9)
  clear hb9
  refine hK.out _ _ (HRG.out _ HF.out) (fun hHeld => ?_)
  clear hK K
  (try simp only [Act.put, List.setIfInBounds_toArray, List.set_cons_zero, List.set_cons_succ])
  refine wpAnyH_ready (rs := [10]) (by kernel_rfl) (by simp) ?_
  refine AllReadyH.cons rfl (fun K hK => ?_) AllReadyH.nil
  go_simp
  go_at_call 9
  refine (sum_any q c m _ (HR.out.on HF.out.hq.bel) HC.out (HF.out.hq.env HE.out) (by have := HLL.out; omega) S hS).mono ?_
  rintro e wc ⟨rfl, hb9⟩
  have HF := Lib.hid (HF.out.on hb9)
  clear hb9
  refine hK.out _ _ (HRG.out _ HF.out) (fun hHeld => ?_)
  clear hK K
  (try simp only [Act.put, List.setIfInBounds_toArray, List.set_cons_zero, List.set_cons_succ])
  refine wpAnyH_take (i := 11) (v := ?_) rfl (by kernel_rfl) (by kernel_rfl) (by kernel_rfl) (fun _ _ _ h => h) (Or.inl ⟨by rfl, ?hy⟩) (by assumption) ?_
  case hy =>
    intro w hSw
    go_simp
    all_goals with_reducible rfl
  (try simp only [Act.put, List.setIfInBounds_toArray, List.set_cons_zero, List.set_cons_succ])
  refine wpAnyH_ready (rs := [12]) (by kernel_rfl) (by simp) ?_
  refine AllReadyH.cons rfl (fun K hK => ?_) AllReadyH.nil
  go_simp
  skip
  refine hK.out _ _ (HRG.out _ HF.out) (fun hHeld => ?_)
  clear hK K
  (try simp only [Act.put, List.setIfInBounds_toArray, List.set_cons_zero, List.set_cons_succ])
  refine wpAnyH_ready (rs := [13]) (by kernel_rfl) (by simp) ?_
  refine AllReadyH.cons rfl (fun K hK => ?_) AllReadyH.nil
  go_simp
  skip
  refine hK.out _ _ (HRG.out _ HF.out) (fun hHeld => ?_)
  clear hK K
  (try simp only [Act.put, List.setIfInBounds_toArray, List.set_cons_zero, List.set_cons_succ])
  refine wpAnyH_take (i := 14) (v := ?_) rfl (by kernel_rfl) (by kernel_rfl) (by kernel_rfl) (fun _ _ _ h => h) (Or.inl ⟨by rfl, ?hy⟩) (by assumption) ?_
  case hy =>
    intro w hSw
    go_simp
    all_goals with_reducible rfl
  (try simp only [Act.put, List.setIfInBounds_toArray, List.set_cons_zero, List.set_cons_succ])
  refine wpAnyH_take (i := 15) (v := ?_) rfl (by kernel_rfl) (by kernel_rfl) (by kernel_rfl) (fun _ _ _ h => h) (Or.inl ⟨by rfl, ?hy⟩) (by assumption) ?_
  case hy =>
    intro w hSw
    go_simp
    all_goals with_reducible rfl
  (try simp only [Act.put, List.setIfInBounds_toArray, List.set_cons_zero, List.set_cons_succ])
  refine wpAnyH_take (i := 17) (v := ?_) rfl (by kernel_rfl) (by kernel_rfl) (by kernel_rfl) (fun _ _ _ h => h) (Or.inl ⟨by rfl, ?hy⟩) (by assumption) ?_
  case hy =>
    intro w hSw
    go_simp
    all_goals with_reducible rfl
  (try simp only [Act.put, List.setIfInBounds_toArray, List.set_cons_zero, List.set_cons_succ])
  refine wpAnyH_take (i := 18) (v := ?_) rfl (by kernel_rfl) (by kernel_rfl) (by kernel_rfl) (fun _ _ _ h => h) (Or.inl ⟨by rfl, ?hy⟩) (by assumption) ?_
  case hy =>
    intro w hSw
    go_simp
    all_goals with_reducible rfl
  (try simp only [Act.put, List.setIfInBounds_toArray, List.set_cons_zero, List.set_cons_succ])
  refine wpAnyH_take (i := 16) (v := ?_) rfl (by kernel_rfl) (by kernel_rfl) (by kernel_rfl) (fun _ _ _ h => h) (Or.inl ⟨by rfl, ?hy⟩) (by assumption) ?_
  case hy =>
    intro w hSw
    go_simp
    all_goals with_reducible rfl
  (try simp only [Act.put, List.setIfInBounds_toArray, List.set_cons_zero, List.set_cons_succ])
  refine wpAnyH_take (i := 19) (v := ?_) rfl (by kernel_rfl) (by kernel_rfl) (by kernel_rfl) (fun _ _ _ h => h) (Or.inl ⟨by rfl, ?hy⟩) (by assumption) ?_
  case hy =>
    intro w hSw
    go_simp
    all_goals with_reducible rfl
  (try simp only [Act.put, List.setIfInBounds_toArray, List.set_cons_zero, List.set_cons_succ])
  refine wpAnyH_take (i := 22) (v := ?_) rfl (by kernel_rfl) (by kernel_rfl) (by kernel_rfl) (fun _ _ _ h => h) (Or.inl ⟨by rfl, ?hy⟩) (by assumption) ?_
  case hy =>
    intro w hSw
    go_simp
    all_goals with_reducible rfl
  (try simp only [Act.put, List.setIfInBounds_toArray, List.set_cons_zero, List.set_cons_succ])
  refine wpAnyH_ready (rs := [20]) (by kernel_rfl) (by simp) ?_
  refine AllReadyH.cons rfl (fun K hK => ?_) AllReadyH.nil
  go_simp
  skip
  refine hK.out _ _ (HRG.out _ (HF.out.on (below1 _ _))) (fun hHeld => ?_)
  clear hK K
  (try simp only [Act.put, List.setIfInBounds_toArray, List.set_cons_zero, List.set_cons_succ])
  refine wpAnyH_ready (rs := [21]) (by kernel_rfl) (by simp) ?_
  refine AllReadyH.cons rfl (fun K hK => ?_) AllReadyH.nil
  go_simp
  go_at_call 16
  refine (parts_two q q2 k (m.length - k) c (c - k) A B S m HTL.out HDL.out HAB.out _ (HT.out.on HF.out.hq.bel) (HD.out.on HF.out.hq.bel) (by have := HTL.out; have := HC.out; have := HK.out; omega) (by have := HDL.out; have := HC.out; have := HK.out; omega) (HF.out.hq.env HE.out) (by have := HLL.out; omega) hS).mono ?_
  rintro e wd ⟨rfl, hb9⟩
  have HF := Lib.hid (HF.out.on hb9)
  clear hb9
  refine hK.out _ _ (HRG.out _ HF.out) (fun hHeld => ?_)
  clear hK K
  (try simp only [Act.put, List.setIfInBounds_toArray, List.set_cons_zero, List.set_cons_succ])
  refine wpAnyH_ready (rs := [23]) (by kernel_rfl) (by simp) ?_
  refine AllReadyH.cons rfl (fun K hK => ?_) AllReadyH.nil
  go_simp
  go_at_call 9
  refine (sum_any q c m _ (HR.out.on HF.out.hq.bel) HC.out (HF.out.hq.env HE.out) (by have := HLL.out; omega) S hS).mono ?_
  rintro e we ⟨rfl, hb9⟩
  have HF := Lib.hid (HF.out.on hb9)
  clear hb9
  refine hK.out _ _ (HRG.out _ HF.out) (fun hHeld => ?_)
  clear hK K
  (try simp only [Act.put, List.setIfInBounds_toArray, List.set_cons_zero, List.set_cons_succ])
  refine wpAnyH_take (i := 24) (v := ?_) rfl (by kernel_rfl) (by kernel_rfl) (by kernel_rfl) (fun _ _ _ h => h) (Or.inl ⟨by rfl, ?hy⟩) (by assumption) ?_
  case hy =>
    intro w hSw
    go_simp
    all_goals with_reducible rfl
  (try simp only [Act.put, List.setIfInBounds_toArray, List.set_cons_zero, List.set_cons_succ])
  refine wpAnyH_ready (rs := [25]) (by kernel_rfl) (by simp) ?_
  refine AllReadyH.cons rfl (fun K hK => ?_) AllReadyH.nil
  go_simp
  skip
  refine hK.out _ _ (HRG.out _ HF.out) (fun hHeld => ?_)
  clear hK K
  (try simp only [Act.put, List.setIfInBounds_toArray, List.set_cons_zero, List.set_cons_succ])
  refine wpAnyH_ready (rs := [26]) (by kernel_rfl) (by simp) ?_
  refine AllReadyH.cons rfl (fun K hK => ?_) AllReadyH.nil
  go_simp
  skip
  refine hK.out _ _ (HRG.out _ HF.out) (fun hHeld => ?_)
  clear hK K
  (try simp only [Act.put, List.setIfInBounds_toArray, List.set_cons_zero, List.set_cons_succ])
  refine wpAnyH_take (i := 27) (v := ?_) rfl (by kernel_rfl) (by kernel_rfl) (by kernel_rfl) (fun _ _ _ h => h) (Or.inl ⟨by rfl, ?hy⟩) (by assumption) ?_
  case hy =>
    intro w hSw
    go_simp
    all_goals with_reducible rfl
  (try simp only [Act.put, List.setIfInBounds_toArray, List.set_cons_zero, List.set_cons_succ])
  refine wpAnyH_ready (rs := [28]) (by kernel_rfl) (by simp) ?_
  refine AllReadyH.cons rfl (fun K hK => ?_) AllReadyH.nil
  go_simp
  go_at_call 14
  refine (hsum_nil _ (HF.out.hq.env HE.out) S0 HS0L.out hN0).mono ?_
  rintro e wf ⟨rfl, hb9⟩
  have HF := Lib.hid (HF.out.on hb9)
  clear hb9
  refine hK.out _ _ (HRG.out _ HF.out) (fun hHeld => ?_)
  clear hK K
  (try simp only [Act.put, List.setIfInBounds_toArray, List.set_cons_zero, List.set_cons_succ])
  refine wpAnyH_ready (rs := [29]) (by kernel_rfl) (by simp) ?_
  refine AllReadyH.cons rfl (fun K hK => ?_) AllReadyH.nil
  go_simp
  go_at_call 9
  refine (sum_any none 0 [] _ (.inl rfl) (Nat.le_refl _) (HF.out.hq.env HE.out) nil_lt S0 hS0).mono ?_
  rintro e wg ⟨rfl, hb9⟩
  have HF := Lib.hid (HF.out.on hb9)
  clear hb9
  refine hK.out _ _ (HRG.out _ HF.out) (fun hHeld => ?_)
  clear hK K
  (try simp only [Act.put, List.setIfInBounds_toArray, List.set_cons_zero, List.set_cons_succ])
  refine wpAnyH_take (i := 30) (v := ?_) rfl (by kernel_rfl) (by kernel_rfl) (by kernel_rfl) (fun _ _ _ h => h) (Or.inl ⟨by rfl, ?hy⟩) (by assumption) ?_
  case hy =>
    intro w hSw
    go_simp
    all_goals with_reducible rfl
  (try simp only [Act.put, List.setIfInBounds_toArray, List.set_cons_zero, List.set_cons_succ])
  refine wpAnyH_ready (rs := [31]) (by kernel_rfl) (by simp) ?_
  refine AllReadyH.cons rfl (fun K hK => ?_) AllReadyH.nil
  go_simp
  skip
  refine hK.out _ _ (HRG.out _ HF.out) (fun hHeld => ?_)
  clear hK K
  (try simp only [Act.put, List.setIfInBounds_toArray, List.set_cons_zero, List.set_cons_succ])
  refine wpAnyH_ready (rs := [32]) (by kernel_rfl) (by simp) ?_
  refine AllReadyH.cons rfl (fun K hK => ?_) AllReadyH.nil
  go_simp
  skip
  refine hK.out _ _ (HRG.out _ HF.out) (fun hHeld => ?_)
  clear hK K
  (try simp only [Act.put, List.setIfInBounds_toArray, List.set_cons_zero, List.set_cons_succ])
  refine wpAnyH_done (by kernel_rfl) ?_ _
  go_wp2_with fail
  go_ret
  exact ⟨by rfl, HF.out.hq.bel⟩
end Go.Proofs.YtjifjpfdfhaflaaDoor
