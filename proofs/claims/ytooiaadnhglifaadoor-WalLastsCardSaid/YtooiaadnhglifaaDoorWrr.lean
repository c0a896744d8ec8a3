/-
  Contract: the reference's Record.
-/
import Derived.Test.YtooiaadnhglifaaDoorWap
import Derived.Test.YtooiaadnhglifaaDoorRsm
set_option linter.unusedVariables false
set_option linter.unusedSimpArgs false
namespace Go.Proofs.YtooiaadnhglifaaDoor
open Go.RowKit

set_option maxRecDepth 100000 in
set_option maxHeartbeats 4000000 in
theorem refrecord_good (n : Nat) (h1 : 1 ≤ n) (hn : n < 9223372036854775808) (q : Option Addr) (k c : Nat) (m : List UInt8) (hk : k = m.length) (w : World) (hR : Rd0 w q m) (hc : m.length ≤ c) (hz : k ≤ 8192) :
    Calls Tryd.prog 11 #[.int .i64 n, .slice q k c] w fun e w' => ∃ v' base, e = .returned (.tuple #[v', .int .i64 0]) ∧ Acc w' base v' (recS n m) ∧ Below w.heap.size w w' := by
  have hq := hR.low
  have w1 : ¬ (n : Int) < 1 := by omega
  have w2 : (1 : Int) ≤ (n : Int) := by omega
  have w4 : ¬ (8192 : Int) < (k : Int) := by omega
  have w3 : (k : Int) ≤ 8192 := by omega
  have s3 : IntKind.u64.wrap (n : Int) = (n : Int) := IntWalk.u64_in _ (by omega)
  obtain ⟨L, hL⟩ : ∃ L, L = (numS n 8 ++ m).length := ⟨_, rfl⟩
  have HL := Lib.hid (show L = 8 + k by rw [hL, List.length_append, numS_len, hk])
  have HLL := Lib.hid hL
  have s4 : IntKind.u64.wrap (L : Int) = (L : Int) := IntWalk.u64_in _ (by have := HL.out; omega)
  obtain ⟨S, hS⟩ : ∃ S, Hid (S = sumS (numS n 8 ++ m)) := ⟨_, Lib.hid rfl⟩
  have HN := Lib.hid (show (cells8 S).toArray.size = 32 by rw [hS.out, List.size_toArray, cells8_len, sumS_len])
  have HREC := Lib.hid (show recS n m = (numS L 4 ++ (numS n 8 ++ m)) ++ (S.take 4 ++ [0xC5]) by rw [recS, HL.out, hk, wendS, hS.out])
  have HNUM := Lib.hid (fun X => refnumber_any 8 n X (by omega))
  have HNUL := Lib.hid (fun X => refnumber_any 4 L X (by omega))
  have HR := Lib.hid hR
  have HQ := Lib.hid hq
  have HK := Lib.hid hk
  have HZ := Lib.hid hz
  clear hR hq hk hz hc h1 hn hL
  go_enter Tryd.func11, Tryd.ntmps11
  go_upto_region 6 with (first
    | (go_at_call 25; refine (HNUM.out _).mono ?_; rintro r w1 ⟨v1, rfl, hA1, hb1⟩; have HA1 := Lib.hid hA1; have HB1 := Lib.hid hb1; clear hA1 hb1)
    | (refine wpList_app8 rfl _ _ rfl rfl w.heap.size _ _ rfl HA1.out q m k c rfl HK.out (HR.out.under HQ.out HB1.out HB1.out.size) (by rw [numS_len]; have := HZ.out; have := HK.out; omega) HB1.out.size ?_; intro v2 w2 hA2 hb2; have HA2 := Lib.hid hA2; have HB2 := Lib.hid (HB1.out.trans hb2); clear hA2 hb2))
  obtain ⟨p2, d2, rfl, hd2, hr2⟩ := HA2.out.rd
  have hA2 := HA2.out
  simp only [← HLL.out] at hA2 hd2 ⊢
  have HA2' := Lib.hid hA2
  have HR2 := Lib.hid hr2
  have HSM := Lib.hid (fun X (h : Rd0 X p2 (numS n 8 ++ m)) => rsum_any p2 d2 (numS n 8 ++ m) X h (by rw [← HLL.out, HL.out]; have := HZ.out; omega) S hS)
  rw [← HLL.out] at HSM
  clear hA2 hr2 HA2 HNUM HA1 HB1
  go_upto_region 7 with (first
    | (go_at_call 26; refine (HSM.out _ HR2.out).mono ?_; rintro r w5 ⟨rfl, hb5⟩; have HB5 := Lib.hid (HB2.out.trans (hb5.mono HB2.out.size)); have HA5 := Lib.hid (HA2'.out.on HB2.out.size hb5); clear hb5)
    | (refine wpList_store_row rfl 57 _ _ rfl _ _ rfl rfl _ _ (Bk.new _ _ _) (by rw [HN.out]; kernel_rfl) (by rw [HN.out]; rfl) (cells8_one _) ?_))
  rw [World.setRow_alloc_new]
  have HBK := Lib.hid (Bk.new w5 57 (cells8 S).toArray)
  have HB6 := Lib.hid (HB5.out.trans ((below1 w5 (.cells (cells8 S).toArray 57)).mono HB5.out.size))
  have HA6 := Lib.hid (HA5.out.on HB5.out.size (below1 w5 (.cells (cells8 S).toArray 57)))
  generalize w5.alloc (.cells (cells8 S).toArray 57) = W6 at *
  generalize w5.heap.size = N at *
  (try simp only [Act.put])
  obtain ⟨p6, d6, he6, hd6, hr6⟩ := HA6.out.rd
  rw [← HLL.out] at he6
  cases he6
  have HR6 := Lib.hid hr6
  clear HA2' HR2 HSM HB2 HB5 HA5 hr6
  go_upto_region 8 with (first
    | (go_at_call 25; refine (HNUL.out _).mono ?_; rintro r w7 ⟨v7, rfl, hA7, hb7⟩; have HA7 := Lib.hid hA7; have HB7 := Lib.hid hb7; clear hA7 hb7)
    | (refine wpList_app8 rfl _ _ rfl rfl W6.heap.size _ _ rfl HA7.out p2 (numS n 8 ++ m) L d2 rfl HLL.out (HR6.out.on HB7.out) (by rw [numS_len, ← HLL.out, HL.out]; have := HZ.out; omega) HB7.out.size ?_; intro v8 w8 hA8 hb8; have HA8 := Lib.hid hA8; have HB8 := Lib.hid (HB7.out.trans hb8); clear hA8 hb8))
  have HBK8 := Lib.hid (HBK.out.on HB8.out)
  have hlen : S.length = 32 := by rw [hS.out, sumS_len]
  obtain ⟨a, b, cc, dd, rest, rfl⟩ : ∃ a b cc dd rest, S = a :: b :: cc :: dd :: rest := by
    match S, hlen with
    | a :: b :: cc :: dd :: rest, _ => exact ⟨a, b, cc, dd, rest, rfl⟩
  clear hlen
  have c0 : w8.cell? ⟨N, 0, none⟩ = some (B8 a) := HBK8.out.cell 0 _ rfl
  have c1 : w8.cell? ⟨N, 1, none⟩ = some (B8 b) := HBK8.out.cell 1 _ rfl
  have c2 : w8.cell? ⟨N, 2, none⟩ = some (B8 cc) := HBK8.out.cell 2 _ rfl
  have c3 : w8.cell? ⟨N, 3, none⟩ = some (B8 dd) := HBK8.out.cell 3 _ rfl
  have HS8 := Lib.hid HB8.out.size
  go_wp2_with (refine wpList_app8 rfl _ _ rfl rfl W6.heap.size _ _ rfl (HA8.out.on HS8.out (below1 _ _)) _ [a, b, cc, dd, 0xC5] 5 5 rfl rfl (rd0_lit w8 5 [a, b, cc, dd, 0xC5]) (by simp only [List.length_append, numS_len, List.length_cons, List.length_nil]; have := HZ.out; have := HK.out; omega) (by have := HS8.out; simp; omega) ?_; intro v9 w9 hA9 hb9; have HA9 := Lib.hid hA9; have HB9 := Lib.hid (HB6.out.trans ((HB8.out.mono HB6.out.size).trans (((below1 w8 _).mono (Nat.le_trans HB6.out.size HS8.out)).trans (hb9.mono HB6.out.size)))); clear hA9 hb9)
  exact bodyPost_ret (results_tmp2 rfl _ _ _) rfl ⟨_, _, rfl, by rw [HREC.out]; exact HA9.out, HB9.out⟩

set_option maxRecDepth 100000 in
set_option maxHeartbeats 2000000 in
theorem refrecord_low (n : Int) (h1 : n < 1) (p : Value) (w : World) :
    Calls Tryd.prog 11 #[.int .i64 n, p] w fun e w' => e = .returned (.tuple #[.slice none 0 0, .int .i64 1]) ∧ Below w.heap.size w w' := by
  go_enter Tryd.func11, Tryd.ntmps11
  go_wp2_with fail
  exact bodyPost_ret (results_tmp2 rfl _ _ _) rfl ⟨rfl, Below.refl _ _⟩
set_option maxRecDepth 100000 in
set_option maxHeartbeats 2000000 in
theorem refrecord_long (n : Int) (h1 : 1 ≤ n) (q : Option Addr) (k c : Nat) (hz : 8192 < k) (w : World) :
    Calls Tryd.prog 11 #[.int .i64 n, .slice q k c] w fun e w' => e = .returned (.tuple #[.slice none 0 0, .int .i64 2]) ∧ Below w.heap.size w w' := by
  have w1 : ¬ n < 1 := by omega
  have w4 : (8192 : Int) < (k : Int) := by omega
  clear hz
  go_enter Tryd.func11, Tryd.ntmps11
  go_wp2_with fail
  exact bodyPost_ret (results_tmp2 rfl _ _ _) rfl ⟨rfl, Below.refl _ _⟩
end Go.Proofs.YtooiaadnhglifaaDoor
