/-
  Contract: wal.appended, wal.Record.
-/
import Derived.Test.YtooiaadnhglifaaDoorWen
set_option linter.unusedVariables false
set_option linter.unusedSimpArgs false
namespace Go.Proofs.YtooiaadnhglifaaDoor
open Go.RowKit

theorem Rd0.under {w w' : World} {base : Nat} {q : Option Addr} {m : List UInt8} (h : Rd0 w q m) (hq : m = [] ∨ ∀ b, q = some b → b.block < base) (hb : Below base w w') (hs : w.heap.size ≤ w'.heap.size) : Rd0 w' q m := by
  rcases h with h | ⟨b, off, h1, h2, h3⟩
  · exact .inl h
  · rcases hq with hq | hq
    · exact .inl hq
    have hlt := hq _ h1
    exact .inr ⟨b, off, h1, by omega, fun i v hv => by rw [hb.cell (p := ⟨b, off + i, none⟩) hlt]; exact h3 i v hv⟩

theorem Rd0.low {w : World} {q : Option Addr} {m : List UInt8} (h : Rd0 w q m) : m = [] ∨ ∀ b, q = some b → b.block < w.heap.size := by
  rcases h with h | ⟨b, off, h1, h2, h3⟩
  · exact .inl h
  · exact .inr fun b' hb => by rw [h1] at hb; cases hb; exact h2

/-- a record's bytes -/
def recS (n : Nat) (m : List UInt8) : List UInt8 := numS (8 + m.length) 4 ++ (numS n 8 ++ m) ++ wendS (numS n 8 ++ m)

set_option maxRecDepth 100000 in
set_option maxHeartbeats 2000000 in
theorem appended_any (base : Nat) (v : Value) (n : Nat) (hn : n < 9223372036854775808) (q : Option Addr) (k c : Nat) (m : List UInt8) (hk : k = m.length) (w : World) (hA : Acc w base v []) (hR : Rd0 w q m) (hq : m = [] ∨ ∀ b, q = some b → b.block < base) (hc : m.length ≤ c) (hE : Env w) (hb0 : 0 + 1 + 1 ≤ base) (hbase : base ≤ w.heap.size) (hz : m.length ≤ 1000000000) :
    Calls Tryd.prog 24 #[v, .int .i64 n, .slice q k c] w fun e w' => ∃ v', e = .returned v' ∧ Acc w' base v' (recS n m) ∧ Below base w w' := by
  obtain ⟨N1, hN1⟩ : ∃ N1, N1 = 8 + k := ⟨_, rfl⟩
  have s1 : IntKind.i64.wrap (8 + (k : Int)) = (N1 : Int) := by rw [IntWalk.i64_in _ (by omega)]; omega
  have s2 : IntKind.u64.wrap (N1 : Int) = (N1 : Int) := IntWalk.u64_in _ (by omega)
  have s3 : IntKind.u64.wrap (n : Int) = (n : Int) := IntWalk.u64_in _ (by omega)
  have HA := Lib.hid hA
  have HR := Lib.hid hR
  have HQ := Lib.hid hq
  have HC := Lib.hid hc
  have HE := Lib.hid hE
  have HB := Lib.hid hb0
  have HBA := Lib.hid hbase
  have HZ := Lib.hid hz
  have HK := Lib.hid hk
  have HN1 := Lib.hid hN1
  have HN := Lib.hid hn
  clear hA hR hq hc hE hb0 hbase hz hk hN1 hn
  go_enter Tryd.func24, Tryd.ntmps24
  go_upto_region 2 with (first
    | (go_at_call 47; refine (number_any base _ [] 4 N1 _ HA.out HBA.out (by omega) (by simp)).mono ?_; rintro r w1 ⟨v1, rfl, hA1, hb1⟩; rw [List.nil_append] at hA1; have HA1 := Lib.hid hA1; have HB1 := Lib.hid hb1; clear hA1 hb1))
  obtain ⟨p1, d1, rfl, hd1⟩ := HA1.out.form 4 (by rw [numS_len])
  have HS1 := Lib.hid (Nat.le_trans HBA.out HB1.out.size)
  go_upto_region 4 with (first
    | (go_at_call 47; refine (number_any base _ (numS N1 4) 8 n _ HA1.out HS1.out (by omega) (by rw [numS_len]; omega)).mono ?_; rintro r w2 ⟨v2, rfl, hA2, hb2⟩; have HA2 := Lib.hid hA2; have HB2 := Lib.hid (HB1.out.trans hb2); clear hA2 hb2))
  have HS2 := Lib.hid (Nat.le_trans HBA.out HB2.out.size)
  have HR2 := Lib.hid (HR.out.under HQ.out HB2.out HB2.out.size)
  clear HA HA1 HB1 HS1
  go_upto_region 5 with (refine wpList_app8 rfl _ _ rfl rfl base _ _ rfl HA2.out q m k c rfl HK.out HR2.out (by rw [List.length_append, numS_len, numS_len]; have := HZ.out; omega) HS2.out ?_; intro v3 w3 hA3 hb3; have HA3 := Lib.hid hA3; have HB3 := Lib.hid (HB2.out.trans hb3); clear hA3 hb3)
  obtain ⟨M3, hM3⟩ : ∃ M3, M3 = (numS N1 4 ++ numS n 8 ++ m).length := ⟨_, rfl⟩
  have HM := Lib.hid (show M3 = 12 + k by rw [hM3, List.length_append, List.length_append, numS_len, numS_len, HK.out])
  obtain ⟨p3, d3, rfl, hd3, hr3⟩ := HA3.out.rd
  rw [← hM3] at hd3
  have hA3 := HA3.out
  rw [← hM3] at hA3
  have HAA := Lib.hid hA3
  clear hA3
  simp only [← hM3]
  have HD3 := Lib.hid hd3
  have HS3 := Lib.hid (Nat.le_trans HBA.out HB3.out.size)
  have hsl := fun wx => run_slice_fromQ (P := Tryd.prog) 22 5 Tryd.underlying22 (by kernel_rfl) p3 M3 d3 .i64 4 4 rfl (by have := HM.out; omega) wx
  have HDR := Lib.hid (show (numS N1 4 ++ numS n 8 ++ m).drop 4 = numS n 8 ++ m by rw [List.append_assoc, List.drop_left' (numS_len _ _)])
  have hrd := hr3.drop 4 d3 (by rw [← hM3]; exact hd3)
  rw [HDR.out] at hrd
  have HRD := Lib.hid hrd
  have HEN := Lib.hid (wending_any (fromQ p3 d3 4) (M3 - 4) (d3 - 4) (numS n 8 ++ m) (by rw [List.length_append, numS_len]; have := HM.out; have := HK.out; omega) w3 HRD.out (by rw [List.length_append, numS_len]; have := HM.out; have := HK.out; have := HD3.out; omega) (HE.out.on HB3.out HB.out) (by rw [List.length_append, numS_len]; have := HZ.out; omega))
  have HREC := Lib.hid (show recS n m = (numS N1 4 ++ numS n 8 ++ m) ++ wendS (numS n 8 ++ m) by rw [recS, ← HK.out, ← HN1.out]; simp only [List.append_assoc])
  clear hr3 hrd HA2 HB2 HR2 HS2 hM3 hd3
  go_wp2_with (first
    | (go_at_call 48; refine HEN.out.mono ?_; rintro r w4 ⟨p4, d4, rfl, hd4, hr4, hb4⟩; have HR4 := Lib.hid hr4; have HB4 := Lib.hid hb4; clear hr4 hb4)
    | (refine wpList_app8 rfl _ _ rfl rfl base _ _ rfl (HAA.out.on HS3.out HB4.out) p4 (wendS (numS n 8 ++ m)) 5 d4 rfl (by rw [wendS_len]) HR4.out (by simp only [List.length_append, numS_len, wendS_len]; have := HZ.out; omega) (Nat.le_trans HS3.out HB4.out.size) ?_; intro v5 w5 hA5 hb5; have HA5 := Lib.hid hA5; have HB5 := Lib.hid (HB3.out.trans ((HB4.out.mono HS3.out).trans hb5)); clear hA5 hb5))
  go_ret
  exact ⟨_, rfl, by rw [HREC.out]; exact HA5.out, HB5.out⟩
end Go.Proofs.YtooiaadnhglifaaDoor
