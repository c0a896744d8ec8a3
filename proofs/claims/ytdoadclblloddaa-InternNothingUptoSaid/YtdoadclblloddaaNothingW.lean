/-
  The walk of mandatelaw02.InternNothing.
-/
import Derived.Test.YtdoadclblloddaaFixed
namespace Go.Proofs.Ytdoadclblloddaa
open Go.RowKit Go.Maps Go.WideMaps
namespace NothingLaw

theorem goodAll_snoc (vs : List Vl) (k : Nat) (h : k < vs.length) : goodAll (vs.take (k + 1)) = (goodAll (vs.take k) && goodB vs[k].1 vs[k].2) := by
  rw [take_snocV vs k h]; unfold goodAll; rw [List.all_append]; simp

theorem row_nil (w : World) (q : Option Addr) (vs : List Vl) (c : Nat) (hv : Vals w w.heap.size q vs) (ho : OkAll vs) (hm : vs.length ≤ maxLen) :
    (vs.length = 0 ∧ Calls Try.prog 13 #[.pointer none, .slice q vs.length c] w fun e w' => ∃ p, e = .returned (.tuple #[.slice p 0 0, .int .i64 0]) ∧ Below w.heap.size w w') ∨
    (0 < vs.length ∧ goodAll vs = true ∧ Calls Try.prog 13 #[.pointer none, .slice q vs.length c] w fun e w' => ∃ p, e = .returned (.tuple #[.slice p 0 0, .int .i64 3]) ∧ Below w.heap.size w w') ∨
    (0 < vs.length ∧ goodAll vs = false ∧ Calls Try.prog 13 #[.pointer none, .slice q vs.length c] w fun e w' => ∃ p, e = .returned (.tuple #[.slice p 0 0, .int .i64 1]) ∧ Below w.heap.size w w') := by
  rcases Nat.eq_zero_or_pos vs.length with h | h
  · refine .inl ⟨h, ?_⟩
    rw [h]
    exact (row_nil_empty w q c).mono fun e w' ⟨R, h1, h2⟩ => ⟨_, h1, h2⟩
  · by_cases hg : goodAll vs = true
    · exact .inr (.inl ⟨h, hg, (row_nil_full w q vs c hv ho hm hg h).mono fun e w' ⟨h1, h2⟩ => ⟨_, h1, h2⟩⟩)
    · have hg : goodAll vs = false := by simpa using hg
      exact .inr (.inr ⟨h, hg, (row_bad w none q vs c hv ho hm hg).mono fun e w' ⟨h1, h2⟩ => ⟨_, h1, h2⟩⟩)
theorem values_nil (w : World) (q : Option Addr) (ns : List Int) (c : Nat) (hv : Ints w w.heap.size q ns) (hm : ns.length ≤ 1048576) :
    (ns.length = 0 ∧ Calls Try.prog 15 #[.pointer none, .slice q ns.length c] w fun e w' => ∃ p, e = .returned (.tuple #[.slice p 0 0, .bool true]) ∧ Below w.heap.size w w') ∨
    (0 < ns.length ∧ Calls Try.prog 15 #[.pointer none, .slice q ns.length c] w fun e w' => ∃ p, e = .returned (.tuple #[.slice p 0 0, .bool false]) ∧ Below w.heap.size w w') := by
  rcases Nat.eq_zero_or_pos ns.length with h | h
  · refine .inl ⟨h, ?_⟩
    rw [h]
    exact (values_ok w none [] (fun wx _ k hk => by simp at hk) q [] c (.inl rfl) (fun k hk => by simp at hk) (by unfold maxLen; simp) (by simp)).mono fun e w' ⟨R, h1, _, _, h2⟩ => ⟨_, h1, h2⟩
  · refine .inr ⟨h, ?_⟩
    have hm' : ns.length ≤ maxLen := by unfold maxLen; omega
    refine (values_no w none [] (fun wx _ k hk => by simp at hk) (fun wx _ k _ => get_nil k wx) q ns c hv ⟨ns[0], List.getElem_mem h, ?_⟩ hm' (by omega)).mono fun e w' ⟨h1, h2⟩ => ⟨_, h1, h2⟩
    simp; omega

theorem five {w w' : World} {s : ByteArray} {n N : Int} {q r : Option Addr} {a b c d : Nat} {m : Nat} (hb : Below (m + 1) (w.alloc (.cells #[.string s, .int .i64 n, .int .i64 N, .slice q a c, .slice r b d] 51)) w') (hm : w.heap.size = m) :
    w'.cell? ⟨m, 0, none⟩ = some (.string s) ∧ w'.cell? ⟨m, 1, none⟩ = some (.int .i64 n) ∧ w'.cell? ⟨m, 2, none⟩ = some (.int .i64 N) ∧ w'.cell? ⟨m, 3, none⟩ = some (.slice q a c) ∧ w'.cell? ⟨m, 4, none⟩ = some (.slice r b d) := by
  subst hm
  refine ⟨?_, ?_, ?_, ?_, ?_⟩
  · rw [hb.cell (p := ⟨w.heap.size, 0, none⟩) (by simp)]; simp [go_sem]
  · rw [hb.cell (p := ⟨w.heap.size, 1, none⟩) (by simp)]; simp [go_sem]
  · rw [hb.cell (p := ⟨w.heap.size, 2, none⟩) (by simp)]; simp [go_sem]
  · rw [hb.cell (p := ⟨w.heap.size, 3, none⟩) (by simp)]; simp [go_sem]
  · rw [hb.cell (p := ⟨w.heap.size, 4, none⟩) (by simp)]; simp [go_sem]

def rowE (vs : List Vl) : Int := if vs.length = 0 then 0 else if goodAll vs = true then 3 else 1
theorem rowC {vs : List Vl} (w : World) (q : Option Addr) (c : Nat) (hv : Vals w w.heap.size q vs) (ho : OkAll vs) (hm : vs.length ≤ maxLen) :
    Calls Try.prog 13 #[.pointer none, .slice q vs.length c] w fun e w' => ∃ p, e = .returned (.tuple #[.slice p 0 0, .int .i64 (rowE vs)]) ∧ Below w.heap.size w w' := by
  rcases row_nil w q vs c hv ho hm with ⟨h1, h2⟩ | ⟨h1, h2, h3⟩ | ⟨h1, h2, h3⟩
  · rw [show rowE vs = 0 by unfold rowE; rw [if_pos h1]]; exact h2
  · rw [show rowE vs = 3 by unfold rowE; rw [if_neg (by omega), if_pos h2]]; exact h3
  · rw [show rowE vs = 1 by unfold rowE; rw [if_neg (by omega), h2]; rfl]; exact h3
def valB (ns : List Int) : Bool := decide (ns.length = 0)
theorem valC {ns : List Int} (w : World) (q : Option Addr) (c : Nat) (hv : Ints w w.heap.size q ns) (hm : ns.length ≤ 1048576) :
    Calls Try.prog 15 #[.pointer none, .slice q ns.length c] w fun e w' => ∃ p, e = .returned (.tuple #[.slice p 0 0, .bool (valB ns)]) ∧ Below w.heap.size w w' := by
  rcases values_nil w q ns c hv hm with ⟨h1, h2⟩ | ⟨h1, h2⟩
  · rw [show valB ns = true by unfold valB; simp [h1]]; exact h2
  · rw [show valB ns = false by unfold valB; rw [decide_eq_false_iff_not]; omega]; exact h2
def putE (s : ByteArray) (n : Int) : Int := if goodB s n = true then 3 else 1
theorem putC (s : ByteArray) (n : Int) (w : World) (hs : s.size ≤ maxLen) :
    Calls Try.prog 8 #[.pointer none, .agg #[.string s, .int .i64 n]] w fun e w' => e = .returned (.tuple #[.int .i64 0, .int .i64 (putE s n)]) ∧ Below w.heap.size w w' := put_nil s n w hs

set_option maxHeartbeats 16000000 in
set_option maxRecDepth 100000 in
theorem walk (s : ByteArray) (n N : Int) (q : Option Addr) (vs : List Vl) (c : Nat) (r : Option Addr) (ns : List Int) (d : Nat) (w : World) (ho1 : Ok (s, n)) (hv : Vals w w.heap.size q vs) (ho : OkAll vs) (hm : vs.length ≤ 1048576) (hi : Ints w w.heap.size r ns) (hn : ns.length ≤ 1048576) :
    Calls Try.prog 4 #[.agg #[.string s, .int .i64 n, .int .i64 N, .slice q vs.length c, .slice r ns.length d]] w fun e w' => e = .returned (.bool true) ∧ Below w.heap.size w w' := by
  have HV := Lib.hid hv
  have HO := Lib.hid ho
  have HO1 := Lib.hid ho1
  have HI := Lib.hid hi
  have HX := Lib.hid (show ∀ w', Below (w.heap.size + 1) (w.alloc (.cells #[.string s, .int .i64 n, .int .i64 N, .slice q vs.length c, .slice r ns.length d] 51)) w' → _ from fun w' h => five h rfl)
  have HB0 := Lib.hid (alloc_below w (.cells #[.string s, .int .i64 n, .int .i64 N, .slice q vs.length c, .slice r ns.length d] 51))
  have hz0 : (w.alloc (.cells #[.string s, .int .i64 n, .int .i64 N, .slice q vs.length c, .slice r ns.length d] 51)).heap.size = w.heap.size + 1 := by simp
  clear hv ho ho1 hi
  go_enter Try.func4, Try.ntmps4
  go_wp2_with fail
  refine (fixed_any _).mono ?_
  rintro e w1 ⟨rfl, hb1⟩
  rw [hz0] at hb1
  have HB1 := Lib.hid hb1
  clear hb1
  generalize hwa : w.alloc (.cells #[.string s, .int .i64 n, .int .i64 N, .slice q vs.length c, .slice r ns.length d] 51) = wa at *
  clear hwa
  generalize hmm : w.heap.size = m at *
  go_wp2_with fail
  go_loopw [4, 5] (fun g i wr => ∃ k : Nat, k ≤ vs.length ∧ i = .int .i64 k ∧ g = .bool (goodAll (vs.take k)) ∧ Below (m + 1) wa wr) (fun _ i _ => vs.length - (intOf i).toNat)
  case atStart => exact ⟨0, Nat.zero_le _, rfl, rfl, HB1.out⟩
  case round =>
    obtain ⟨k, hk, rfl, rfl, hb⟩ := hrel
    have HB := Lib.hid hb
    have hszr := hb.size
    clear hb
    obtain ⟨z0, z1, z2, z3, z4⟩ := HX.out _ HB.out
    have hmr : m < wr.heap.size := by omega
    have HBm := Lib.hid (HB0.out.trans (HB.out.mono (Nat.le_succ m)))
    by_cases hlt : k < vs.length
    · obtain ⟨b, off, rfl, hbl, x0, x1⟩ := (HV.out.below HBm.out (Nat.le_refl _)).at k hlt
      have HOK := Lib.hid (HO.out.at k hlt)
      have hbr : b < wr.heap.size := by omega
      have HS := Lib.hid (goodAll_snoc vs k hlt)
      by_cases hga : goodAll (vs.take k) = true
      · go_wp2_with (go_at_call 19; refine (refgood_any _ _ _ HOK.out.1).mono ?_; rintro e w2 ⟨rfl, hb2⟩)
        go_roundw
        case rel => exact ⟨k + 1, by omega, by go_num, by rw [HS.out]; simp [hga], HB.out.trans (hb2.mono (by omega))⟩
        case measure => simp [intOf]; omega
      · have hga : goodAll (vs.take k) = false := by simpa using hga
        go_wp2_with fail
        go_roundw
        case rel => exact ⟨k + 1, by omega, by go_num, by rw [HS.out, hga]; rfl, HB.out⟩
        case measure => simp [intOf]; omega
    · obtain rfl : k = vs.length := by omega
      have HML := Lib.hid (show vs.length ≤ maxLen by unfold maxLen; omega)
      have HNL := Lib.hid hn
      have cases1 : (goodB s n = true) ∨ (goodB s n = false) := by cases goodB s n <;> simp
      have cases2 : (vs.length = 0 ∧ goodAll vs = true) ∨ (0 < vs.length ∧ goodAll vs = true) ∨ (0 < vs.length ∧ goodAll vs = false) := by
        rcases Nat.eq_zero_or_pos vs.length with h | h
        · refine .inl ⟨h, ?_⟩; rw [List.length_eq_zero_iff.1 h]; rfl
        · cases hg : goodAll vs
          · exact .inr (.inr ⟨h, rfl⟩)
          · exact .inr (.inl ⟨h, rfl⟩)
      have cases3 : (ns.length = 0) ∨ (0 < ns.length) := Nat.eq_zero_or_pos _
      rw [List.take_length]
      clear hm hn hlt hk z0 z1 z2 z3 z4 HBm
      obtain ⟨z0, z1, z2, z3, z4⟩ := HX.out _ HB.out
      rcases cases1 with hg | hg <;> rcases cases2 with ⟨hv0, hga⟩ | ⟨hv0, hga⟩ | ⟨hv0, hga⟩ <;> rcases cases3 with hn0 | hn0
      all_goals
        have hE : (rowE vs = 0 ∨ rowE vs = 3 ∨ rowE vs = 1) := by unfold rowE; (repeat' split) <;> simp
        first
          | (have e1 : rowE vs = 0 := by unfold rowE; rw [if_pos hv0]); (have q1 : ((vs.length : Int) == 0) = true := by rw [hv0]; rfl)
          | (have e1 : rowE vs = 3 := by unfold rowE; rw [if_neg (by omega), if_pos hga]); (have q1 : ((vs.length : Int) == 0) = false := by rw [beq_eq_false_iff_ne]; omega)
          | (have e1 : rowE vs = 1 := by unfold rowE; rw [if_neg (by omega), hga]; rfl); (have q1 : ((vs.length : Int) == 0) = false := by rw [beq_eq_false_iff_ne]; omega)
        clear hE hv0
        first
          | (have e2 : valB ns = true := by unfold valB; simp [hn0]); (have q2 : ((ns.length : Int) == 0) = true := by rw [hn0]; rfl)
          | (have e2 : valB ns = false := by unfold valB; rw [decide_eq_false_iff_not]; omega); (have q2 : ((ns.length : Int) == 0) = false := by rw [beq_eq_false_iff_ne]; omega)
        clear hn0
        first
          | (have e3 : putE s n = 3 := by unfold putE; rw [if_pos hg])
          | (have e3 : putE s n = 1 := by unfold putE; rw [hg]; rfl)
        have HE1 := Lib.hid e1
        have HE2 := Lib.hid e2
        have HE3 := Lib.hid e3
        have HQ1 := Lib.hid q1
        have HQ2 := Lib.hid q2
        have HGA := Lib.hid hga
        have HGB := Lib.hid hg
        clear e1 e2 e3 q1 q2 hga hg
        go_wp2_with fail
        refine (putC s n _ HO1.out.1).mono ?_
        rintro e w2 ⟨rfl, hb2⟩
        rw [HE3.out]
        have HB2 := Lib.hid (HB.out.trans (hb2.mono (by omega)))
        have hs2 := HB2.out.size
        clear hb2 z0 z1 z2 z3 z4
        obtain ⟨z0, z1, z2, z3, z4⟩ := HX.out _ HB2.out
        have HW2 := Lib.hid (HB0.out.trans (HB2.out.mono (Nat.le_succ m)))
        go_wp2_with fail
        refine (rowC _ q c (((HV.out.below HW2.out (Nat.le_refl _))).up (by omega)) HO.out HML.out).mono ?_
        rintro e w3 ⟨p3, rfl, hb3⟩
        rw [HE1.out]
        have HB3 := Lib.hid (HB2.out.trans (hb3.mono (by omega)))
        have hs3 := HB3.out.size
        clear hb3 z0 z1 z2 z3 z4 HW2
        obtain ⟨z0, z1, z2, z3, z4⟩ := HX.out _ HB3.out
        go_wp2_with fail
        refine (find_nil s n _).mono ?_
        rintro e w4 ⟨rfl, hb4⟩
        have HB4 := Lib.hid (HB3.out.trans (hb4.mono (by omega)))
        have hs4 := HB4.out.size
        clear hb4 z0 z1 z2 z3 z4 HB3
        obtain ⟨z0, z1, z2, z3, z4⟩ := HX.out _ HB4.out
        go_wp2_with fail
        refine (get_nil N _).mono ?_
        rintro e w5 ⟨rfl, hb5⟩
        have HB5 := Lib.hid (HB4.out.trans (hb5.mono (by omega)))
        have hs5 := HB5.out.size
        clear hb5 z0 z1 z2 z3 z4 HB4
        have HB6 := Lib.hid (HB5.out.alloc (by omega) (.cells #[.string ⟨#[]⟩, .int .i64 0] 31))
        have hs6 := HB6.out.size
        obtain ⟨z0, z1, z2, z3, z4⟩ := HX.out _ HB5.out
        have HW6 := Lib.hid (HB0.out.trans (HB6.out.mono (Nat.le_succ m)))
        have hm5 : m < w5.heap.size := by omega
        go_wp2_with fail
        refine (valC _ r d (((HI.out.below HW6.out (Nat.le_refl _))).up (by omega)) HNL.out).mono ?_
        rintro e w7 ⟨p7, rfl, hb7⟩
        rw [HE2.out]
        have HB7 := Lib.hid (HB6.out.trans (hb7.mono (by omega)))
        have hs7 := HB7.out.size
        clear hb7 z0 z1 z2 z3 z4 HB6 HB5 HW6
        obtain ⟨z0, z1, z2, z3, z4⟩ := HX.out _ HB7.out
        have hm7 : m < w7.heap.size := by omega
        rw [HGA.out]
        have q1 := HQ1.out
        have q2 := HQ2.out
        have hg := HGB.out
        go_wp2_with (first
          | (go_at_call 17; refine (clear_nil _).mono ?_; rintro e w' ⟨rfl, rfl⟩)
          | (go_at_call 18; refine (len_nil _).mono ?_; rintro e w' ⟨rfl, rfl⟩)
          | (go_at_call 19; refine (refgood_any _ _ _ HO1.out.1).mono ?_; rintro e w8 ⟨rfl, hb8⟩; have HB8 := Lib.hid (HB7.out.trans (hb8.mono (by omega))); have hs8 := HB8.out.size; have hm8 : m < w8.heap.size := (by omega); clear hb8 z0 z1 z2 z3 z4; obtain ⟨z0, z1, z2, z3, z4⟩ := HX.out _ HB8.out))
        go_ret
        exact ⟨rfl, by rw [hmm]; exact HB0.out.trans (HB8.out.mono (Nat.le_succ m))⟩
end NothingLaw
end Go.Proofs.Ytdoadclblloddaa
