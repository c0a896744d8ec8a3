/-
  Contract: the reference's one.
-/
import Derived.Test.YtnhnmlkfpnbfjaaDoorWsc
import Derived.Test.YtnhnmlkfpnbfjaaDoorRsm
set_option linter.unusedVariables false
set_option linter.unusedSimpArgs false
namespace Go.Proofs.YtnhnmlkfpnbfjaaDoor
open Go.RowKit

theorem wholeS_short {b : List UInt8} (h : b.length < 17) : wholeS b = none := by
  cases hw : wholeS b with
  | none => rfl
  | some m => have := wholeS_len hw; omega
theorem wp_app8 {w : World} {o : Oper} {a : Act} {K : Act → World → Prop} {Q : Exit → Act → World → Prop} (s x : Operand)
    (ho : o.op = .call { callee := .builtin .append, args := #[s, x], argTypes := #[22, 22] }) (hty : o.type = 22)
    (base : Nat) (v : Value) (xs : List UInt8) (hs : a.eval s = v) (hA : Acc w base v xs) (q : Option Addr) (m : List UInt8) (n c : Nat) (hx : a.eval x = .slice q n c) (hn : n = m.length) (hR : Rd0 w q m) (hz : xs.length + m.length ≤ 100000000000000) (hbase : base ≤ w.heap.size)
    (h : ∀ v' w', Acc w' base v' (xs ++ m) → Below base w w' → K (a.put o.dst v') w') : Oper.wp Tryd.prog o a w K Q := by
  subst hn
  obtain ⟨v', w', hr, h1, h2⟩ := run_app8 w base v xs hA q m c hR hz hbase
  unfold Oper.wp execOp
  simp only [ho, hty, resolve, invoke, builtin, Sem.run_bind, Sem.run_pure, Result.andThen_ok, List.map_toArray, List.map_cons, List.map_nil, hs, hx, hr]
  exact h v' w' h1 h2
/-- what is kept: the block of the sum -/
structure Kq (X w : World) (M : Nat) (S : List UInt8) : Prop where
  bel : Below w.heap.size w X
  bk : Bk X M 57 (cells8 S).toArray
theorem Kq.on {X X' w : World} {M : Nat} {S : List UInt8} (h : Kq X w M S) (hb : Below X.heap.size X X') : Kq X' w M S := ⟨h.bel.trans (hb.mono h.bel.size), h.bk.on hb⟩
theorem take_ext {l r : List UInt8} {k : Nat} (hl : k ≤ l.length) (hr : k ≤ r.length) (h : ∀ j, j < k → l.getD j 0 = r.getD j 0) : l.take k = r.take k := by
  apply List.ext_getElem
  · rw [List.length_take, List.length_take]; omega
  · intro i h1 h2
    rw [List.length_take] at h1
    have := h i (by omega)
    rw [List.getElem_take, List.getElem_take]
    rwa [List.getD_eq_getElem?_getD, List.getD_eq_getElem?_getD, List.getElem?_eq_getElem (by omega), List.getElem?_eq_getElem (by omega)] at this

def OneR (o : Option (List UInt8)) (e : Ending) (w w' : World) : Prop :=
  match o with
  | none => e = .returned (.tuple #[.int .u64 0, .slice none 0 0, .int .i64 0])
  | some m => ∃ v base, w.heap.size ≤ base ∧ e = .returned (.tuple #[.int .u64 (beS (m.take 8)), v, .int .i64 ((m.length + 9 : Nat) : Int)]) ∧ Acc w' base v (m.drop 8)
theorem OneR.no {o : Option (List UInt8)} {e : Ending} {w w' : World} (h : o = none) (he : e = .returned (.tuple #[.int .u64 0, .slice none 0 0, .int .i64 0])) : OneR o e w w' := by subst h; exact he
theorem OneR.yes {o : Option (List UInt8)} {e : Ending} {w w' : World} {m : List UInt8} (h : o = some m) {v : Value} {base : Nat} (hb : w.heap.size ≤ base) (he : e = .returned (.tuple #[.int .u64 (beS (m.take 8)), v, .int .i64 ((m.length + 9 : Nat) : Int)])) (hA : Acc w' base v (m.drop 8)) : OneR o e w w' := by subst h; exact ⟨v, base, hb, he, hA⟩
theorem OneR.no_inv {e : Ending} {w w' : World} (h : OneR none e w w') : e = .returned (.tuple #[.int .u64 0, .slice none 0 0, .int .i64 0]) := h
theorem OneR.yes_inv {e : Ending} {w w' : World} {m : List UInt8} (h : OneR (some m) e w w') : ∃ v base, w.heap.size ≤ base ∧ e = .returned (.tuple #[.int .u64 (beS (m.take 8)), v, .int .i64 ((m.length + 9 : Nat) : Int)]) ∧ Acc w' base v (m.drop 8) := h
theorem cut_at (b S : List UInt8) (P : Nat) (hS : 4 ≤ S.length) (h : (b.drop P).take 5 = S.take 4 ++ [0xC5]) : (∀ j, j < 4 → b.getD (P + j) 0 = S.getD j 0) ∧ b.getD (P + 4) 0 = 0xC5 := by
  have key : ∀ j, j < 5 → b.getD (P + j) 0 = (S.take 4 ++ [0xC5]).getD j 0 := fun j hj => by
    rw [← h, List.getD_eq_getElem?_getD, List.getD_eq_getElem?_getD, List.getElem?_take, if_pos hj, List.getElem?_drop]
  refine ⟨fun j hj => ?_, ?_⟩
  · rw [key j (by omega), List.getD_eq_getElem?_getD, List.getD_eq_getElem?_getD, List.getElem?_append_left (by rw [List.length_take]; omega), List.getElem?_take, if_pos hj]
  · rw [key 4 (by omega), List.getD_eq_getElem?_getD, List.getElem?_append_right (by rw [List.length_take]; omega), List.length_take, Nat.min_eq_left hS]; rfl
theorem full_at (b S : List UInt8) (P : Nat) (hS : S.length = 32) (hb : P + 5 ≤ b.length) (h1 : ∀ j, j < 4 → b.getD (P + j) 0 = S.getD j 0) (h2 : b.getD (P + 4) 0 = 0xC5) : (b.drop P).take 5 = S.take 4 ++ [0xC5] := by
  rw [take_ext (r := S.take 4 ++ [0xC5]) (by rw [List.length_drop]; omega) (by rw [List.length_append, List.length_take]; simp; omega) fun j hj => ?_]
  · exact List.take_of_length_le (by rw [List.length_append, List.length_take]; simp; omega)
  · rw [List.getD_eq_getElem?_getD, List.getElem?_drop, ← List.getD_eq_getElem?_getD]
    by_cases h4 : j < 4
    · rw [h1 j h4, List.getD_eq_getElem?_getD, List.getD_eq_getElem?_getD, List.getElem?_append_left (by rw [List.length_take]; omega), List.getElem?_take, if_pos h4]
    · obtain rfl : j = 4 := by omega
      rw [h2, List.getD_eq_getElem?_getD, List.getElem?_append_right (by rw [List.length_take]; omega), List.length_take, hS]; rfl
set_option maxRecDepth 100000 in
set_option maxHeartbeats 4000000 in
theorem one_any (q : Option Addr) (n c : Nat) (b : List UInt8) (hn : n = b.length) (w : World) (hR : Rd0 w q b) (hc : b.length ≤ c) (hz : b.length ≤ 1000000) :
    Calls Tryd.prog 31 #[.slice q n c] w fun e w' => OneR (wholeS b) e w w' ∧ Below w.heap.size w w' := by
  by_cases h17 : n < 17
  · have w1 : (n : Int) < 17 := by omega
    rw [wholeS_short (by omega)]
    clear hn hR hc hz h17
    go_enter Tryd.func31, Tryd.ntmps31
    go_wp2_with fail
    exact bodyPost_ret (results_tmp3 rfl _ _ _) rfl ⟨OneR.no rfl rfl, Below.refl _ _⟩
  have w1 : (17 : Int) ≤ (n : Int) := by omega
  obtain ⟨bq, oq, rfl, hbl, hcl⟩ : ∃ bq oq, q = some ⟨bq, oq, none⟩ ∧ bq < w.heap.size ∧ ∀ j (hj : j < b.length), w.cell? ⟨bq, oq + j, none⟩ = some (B8 b[j]) := by
    rcases hR with h | ⟨bq, oq, h1, h2, h3⟩
    · subst h; simp at hn; omega
    · exact ⟨bq, oq, h1, h2, fun j hj => h3 j _ (by simp [cells8, List.getElem?_eq_getElem hj])⟩
  have HR := Lib.hid hR
  have HN := Lib.hid hn
  have HC := Lib.hid hc
  have HZ := Lib.hid hz
  have HCL := Lib.hid hcl
  have HBL := Lib.hid hbl
  have hT4 : (b.take 4).length = 4 := by rw [List.length_take]; omega
  have HNU := Lib.hid (refnum_any (some ⟨bq, oq, none⟩) n c 4 b hn w hR (by omega) (by omega))
  have hN := beS_lt (b.take 4)
  rw [hT4] at hN
  have hW : wholeS b = if 4 ≤ b.length ∧ 8 ≤ beS (b.take 4) ∧ beS (b.take 4) ≤ 8200 ∧ 4 + beS (b.take 4) ≤ b.length then
    if 5 ≤ (b.drop (4 + beS (b.take 4))).length ∧ (b.drop (4 + beS (b.take 4))).take 5 = wendS ((b.drop 4).take (beS (b.take 4))) then some ((b.drop 4).take (beS (b.take 4))) else none
    else none := rfl
  have HW := Lib.hid hW
  clear hW
  generalize beS (b.take 4) = N at *
  have s1 : IntKind.i64.wrap (N : Int) = (N : Int) := IntWalk.i64_in _ (by omega)
  have s2 : IntKind.i64.wrap ((N : Int) + 9) = (N : Int) + 9 := IntWalk.i64_in _ (by omega)
  by_cases hbad : N < 8 ∨ 8200 < N ∨ n < N + 9
  · have HW2 : wholeS b = none := by
      rw [HW.out]
      split
      · rename_i h
        rw [if_neg (by rw [List.length_drop]; omega)]
      · rfl
    rw [HW2]
    clear HW HW2
    by_cases n1 : N < 8
    · have w2 : (N : Int) < 8 := by omega
      clear hn hR hc hz hcl hbl hT4 hN hbad h17
      go_enter Tryd.func31, Tryd.ntmps31
      go_wp2_with (go_at_call 51; refine HNU.out.mono ?_; rintro r w1 ⟨rfl, rfl⟩)
      exact bodyPost_ret (results_tmp3 rfl _ _ _) rfl ⟨OneR.no rfl rfl, Below.refl _ _⟩
    have w2 : (8 : Int) ≤ (N : Int) := by omega
    by_cases n2 : 8200 < N
    · have w3 : (8200 : Int) < (N : Int) := by omega
      clear hn hR hc hz hcl hbl hT4 hN hbad h17
      go_enter Tryd.func31, Tryd.ntmps31
      go_wp2_with (go_at_call 51; refine HNU.out.mono ?_; rintro r w1 ⟨rfl, rfl⟩)
      exact bodyPost_ret (results_tmp3 rfl _ _ _) rfl ⟨OneR.no rfl rfl, Below.refl _ _⟩
    · have w3 : (N : Int) ≤ 8200 := by omega
      have w4 : (n : Int) < (N : Int) + 9 := by omega
      clear hn hR hc hz hcl hbl hT4 hN hbad h17
      go_enter Tryd.func31, Tryd.ntmps31
      go_wp2_with (go_at_call 51; refine HNU.out.mono ?_; rintro r w1 ⟨rfl, rfl⟩)
      exact bodyPost_ret (results_tmp3 rfl _ _ _) rfl ⟨OneR.no rfl rfl, Below.refl _ _⟩
  have w2 : (8 : Int) ≤ (N : Int) := by omega
  have w3 : (N : Int) ≤ 8200 := by omega
  have w4 : (N : Int) + 9 ≤ (n : Int) := by omega
  have HNL := Lib.hid (show 8 ≤ N ∧ N ≤ 8200 ∧ N + 9 ≤ b.length by omega)
  have HW2 := Lib.hid (show wholeS b = if (b.drop (4 + N)).take 5 = wendS ((b.drop 4).take N) then some ((b.drop 4).take N) else none by
    rw [HW.out, if_pos (by omega)]
    have h5 : 5 ≤ (b.drop (4 + N)).length := by rw [List.length_drop]; omega
    by_cases h : (b.drop (4 + N)).take 5 = wendS ((b.drop 4).take N)
    · rw [if_pos h, if_pos ⟨h5, h⟩]
    · rw [if_neg h, if_neg (fun x => h x.2)])
  have HBL4 := Lib.hid (show ((b.drop 4).take N).length = N by rw [List.length_take, List.length_drop]; omega)
  have HRB := Lib.hid (show Rd0 w (some ⟨bq, oq + 4, none⟩) ((b.drop 4).take N) from .inr ⟨bq, oq + 4, rfl, hbl, fun i v hv => by
    have hi := (List.getElem?_eq_some_iff.1 hv).1
    simp [cells8] at hi
    have := hcl (4 + i) (by omega)
    rw [Nat.add_assoc, this]
    simp [cells8, List.getElem?_take] at hv
    obtain ⟨h1, h2⟩ := hv
    rw [List.getElem?_eq_getElem (by omega)] at h2
    simpa using h2⟩)
  clear HW hbad h17 hR hc hz hcl hbl hn hT4 hN
  generalize (b.drop 4).take N = body at *
  obtain ⟨S, hS⟩ : ∃ S, Hid (S = sumS body) := ⟨_, Lib.hid rfl⟩
  have HS32 := Lib.hid (show S.length = 32 by rw [hS.out, sumS_len])
  have HSZ := Lib.hid (show (cells8 S).toArray.size = 32 by rw [List.size_toArray, cells8_len, HS32.out])
  have HSM := Lib.hid (rsum_any (some ⟨bq, oq + 4, none⟩) (c - 4) body w HRB.out (by rw [HBL4.out]; have := HNL.out; omega) S hS)
  rw [HBL4.out] at HSM
  obtain ⟨P4, hP4⟩ : ∃ P4, P4 = 4 + N := ⟨_, rfl⟩
  have HP4 := Lib.hid hP4
  have s3 : IntKind.i64.wrap (4 + (N : Int)) = (P4 : Int) := by rw [IntWalk.i64_in _ (by omega)]; omega
  have hsl := fun wx => run_slice_mid (P := Tryd.prog) 22 5 Tryd.underlying22 (by kernel_rfl) bq oq n c .i64 .i64 4 (P4 : Int) 4 P4 rfl rfl (by have := HNL.out; omega) (by have := HC.out; have := HNL.out; omega) wx
  rw [show P4 - 4 = N by omega] at hsl
  clear hP4
  go_enter Tryd.func31, Tryd.ntmps31
  go_upto_region 8 with (first
    | (go_at_call 51; refine HNU.out.mono ?_; rintro r w1 ⟨rfl, rfl⟩)
    | (go_at_call 26; refine HSM.out.mono ?_; rintro r w5 ⟨rfl, hb5⟩; have HB5 := Lib.hid hb5; clear hb5)
    | (refine wpList_store_row rfl 57 _ _ rfl _ _ rfl rfl _ _ (Bk.new _ _ _) (by rw [HSZ.out]; kernel_rfl) (by rw [HSZ.out]; rfl) (cells8_one _) ?_))
  all_goals (first | (exfalso; omega) | skip)
  rw [World.setRow_alloc_new]
  have HK := Lib.hid (show Kq (w5.alloc (.cells (cells8 S).toArray 57)) w w5.heap.size S from ⟨HB5.out.trans ((below1 w5 _).mono HB5.out.size), Bk.new _ _ _⟩)
  generalize w5.alloc (.cells (cells8 S).toArray 57) = W6 at *
  generalize w5.heap.size = M at *
  (try simp only [Act.put])
  clear HSM HNU HB5
  have HEND := Lib.hid (fun (h : (b.drop (4 + N)).take 5 = wendS body) => cut_at b S (4 + N) (by rw [HS32.out]; omega) (by rw [h, wendS, hS.out]))
  have HFUL := Lib.hid (fun (h1 : ∀ j, j < 4 → b.getD (P4 + j) 0 = S.getD j 0) (h2 : b.getD (P4 + 4) 0 = 0xC5) => (show (b.drop (4 + N)).take 5 = wendS body by
    rw [wendS, ← hS.out, ← HP4.out]
    exact full_at b S P4 HS32.out (by have := HNL.out; have := HP4.out; omega) h1 h2))
  go_wp2_with fail
  go_loopw [8] (fun i wr => ∃ k : Nat, k ≤ 4 ∧ i = .int .i64 k ∧ Kq wr w M S ∧ ∀ j, j < k → b.getD (P4 + j) 0 = S.getD j 0) (fun i _ => 4 - (intOf i).toNat)
  case atStart => exact ⟨0, by omega, rfl, HK.out, fun j hj => by omega⟩
  case round =>
    clear HK
    obtain ⟨k, hk, rfl, hK, hall⟩ := hrel
    have HK := Lib.hid hK
    have HALL := Lib.hid hall
    clear hK hall
    have v3 : (0 : Int) ≤ (k : Int) := by omega
    by_cases hlt : k < 4
    · have v4 : (k : Int) < 4 := by omega
      obtain ⟨PK, hPK⟩ : ∃ PK, PK = P4 + k := ⟨_, rfl⟩
      have s5 : IntKind.i64.wrap ((P4 : Int) + (k : Int)) = (PK : Int) := by rw [IntWalk.i64_in _ (by have := HNL.out; have := HP4.out; omega)]; omega
      have hin : PK < b.length := by have := HNL.out; have := HP4.out; omega
      have v5 : (PK : Int) < (n : Int) := by have := HN.out; omega
      have v6 : (0 : Int) ≤ (PK : Int) := by omega
      have c0 : wr.cell? ⟨bq, oq + PK, none⟩ = some (B8 b[PK]) := by rw [HK.out.bel.cell (p := ⟨bq, oq + PK, none⟩) HBL.out]; exact HCL.out PK hin
      have hks : k < S.length := by rw [HS32.out]; omega
      have c1 : wr.cell? ⟨M, k, none⟩ = some (B8 S[k]) := HK.out.bk.cell k _ (by simp [cells8, List.getElem?_eq_getElem hks])
      have HX := Lib.hid (show b.getD (P4 + k) 0 = b[PK] by rw [← hPK, List.getD_eq_getElem?_getD, List.getElem?_eq_getElem hin]; rfl)
      have HY := Lib.hid (show S.getD k 0 = S[k] by rw [List.getD_eq_getElem?_getD, List.getElem?_eq_getElem hks]; rfl)
      have HEQ := Lib.hid (show (((b[PK].toNat : Int) == (S[k].toNat : Int)) = (b[PK] == S[k])) by
        rw [Bool.eq_iff_iff, beq_iff_eq, beq_iff_eq]; exact ⟨fun h => UInt8.toNat_inj.1 (by omega), fun h => by rw [h]⟩)
      have hx := u8_lt b[PK]
      have hy := u8_lt S[k]
      generalize b[PK] = x at *
      generalize S[k] = y at *
      have HPK := Lib.hid hPK
      clear hPK
      have v7 : (k : Int) < 32 := by omega
      have d0 : wr.drew.cell? ⟨bq, oq + PK, none⟩ = some (B8 x) := c0
      have d1 : wr.drew.cell? ⟨M, k, none⟩ = some (B8 y) := c1
      have HKD := Lib.hid (HK.out.on (Below.refl _ _).drew)
      clear hin hks
      have HNX := Lib.hid (show x ≠ y → wholeS b = none from fun h => by
        rw [HW2.out, if_neg fun h2 => h ?_]
        have := (HEND.out h2).1 k hlt
        rw [← HP4.out, HX.out, HY.out] at this; exact this)
      have HAL2 := Lib.hid (show x = y → ∀ j, j < k + 1 → b.getD (P4 + j) 0 = S.getD j 0 from fun h j hj => by
        by_cases hj2 : j < k
        · exact HALL.out j hj2
        · obtain rfl : j = k := by omega
          rw [HX.out, HY.out]; exact h)
      clear HX HY HALL HEND HFUL HW2 HCL
      by_cases hxy : x = y
      · subst hxy
        go_upto_region 11 with fail
        go_region_held3 (fun X => X.cell? ⟨bq, oq + PK, none⟩ = some (B8 x) ∧ X.cell? ⟨M, k, none⟩ = some (B8 x)) (first | exact ⟨d0, d1⟩ | go_keep) (fail)
        go_wp2_with fail
        go_roundw
        case rel => exact ⟨k + 1, by omega, by go_num, HKD.out, HAL2.out rfl⟩
        case measure => simp [intOf]; omega
      · have e1 : ¬ (x.toNat : Int) = (y.toNat : Int) := fun h => hxy (UInt8.toNat_inj.1 (by omega))
        have e2 : ((x.toNat : Int) == (y.toNat : Int)) = false := by rw [beq_eq_false_iff_ne]; exact e1
        have e3 : ((x.toNat : Int) != (y.toNat : Int)) = true := by rw [bne_iff_ne]; exact e1
        have HNO := Lib.hid (HNX.out hxy)
        clear HNX HAL2 hxy HEQ
        go_upto_region 11 with fail
        go_region_held3 (fun X => X.cell? ⟨bq, oq + PK, none⟩ = some (B8 x) ∧ X.cell? ⟨M, k, none⟩ = some (B8 y)) (first | exact ⟨d0, d1⟩ | go_keep) (fail)
        go_wp2_with fail
        (try simp only [Exit.inBlock, Exit.then])
        exact bodyPost_ret (results_tmp3 rfl _ _ _) rfl ⟨OneR.no HNO.out rfl, HKD.out.bel⟩
    · obtain rfl : k = 4 := by omega
      obtain ⟨P8, hP8⟩ : ∃ P8, P8 = P4 + 4 := ⟨_, rfl⟩
      have s6 : IntKind.i64.wrap (8 + (N : Int)) = (P8 : Int) := by rw [IntWalk.i64_in _ (by have := HNL.out; omega)]; have := HP4.out; omega
      have hin : P8 < b.length := by have := HNL.out; have := HP4.out; omega
      have v5 : (P8 : Int) < (n : Int) := by have := HN.out; omega
      have v6 : (0 : Int) ≤ (P8 : Int) := by omega
      have c0 : wr.cell? ⟨bq, oq + P8, none⟩ = some (B8 b[P8]) := by rw [HK.out.bel.cell (p := ⟨bq, oq + P8, none⟩) HBL.out]; exact HCL.out P8 hin
      have HX := Lib.hid (show b.getD (P4 + 4) 0 = b[P8] by rw [← hP8, List.getD_eq_getElem?_getD, List.getElem?_eq_getElem hin]; rfl)
      have hx := u8_lt b[P8]
      generalize b[P8] = x at *
      clear hP8 hin
      by_cases hxy : x = 0xC5
      · subst hxy
        have HNO := Lib.hid (show wholeS b = some body by rw [HW2.out, if_pos (HFUL.out HALL.out HX.out)])
        have c0 : wr.cell? ⟨bq, oq + P8, none⟩ = some (.int .u8 197) := c0
        have HRW := Lib.hid (HRB.out.on HK.out.bel)
        clear HEND HFUL HW2 HCL HX HALL HRB HR
        have HB8 := Lib.hid (refnum_any (some ⟨bq, oq + 4, none⟩) N (c - 4) 8 body HBL4.out.symm)
        have HB9 := Lib.hid (show 8 ≤ body.length by rw [HBL4.out]; exact HNL.out.1)
        have hs8 := fun wx => run_slice_fromQ (P := Tryd.prog) 22 5 Tryd.underlying22 (by kernel_rfl) (some ⟨bq, oq + 4, none⟩) N (c - 4) .i64 8 8 rfl (by have := HNL.out; omega) wx
        have HM8 := Lib.hid (show N - 8 = (body.drop 8).length by rw [List.length_drop, HBL4.out])
        have HRX := Lib.hid (show Rd0 wr.drew (some ⟨bq, oq + 4, none⟩) body from HRW.out.on (Below.refl _ _).drew)
        have HKD := Lib.hid (HK.out.on (Below.refl _ _).drew)
        obtain ⟨oz, hoz⟩ := fromQ_some bq (oq + 4) (c - 4) 8
        have hR8 := HRX.out.drop 8 (c - 4) (by rw [HBL4.out]; have := HNL.out; have := HC.out; omega)
        rw [hoz] at hs8 hR8
        have HR8 := Lib.hid hR8
        obtain ⟨q8, hq8⟩ : ∃ q8, q8 = (some ⟨bq, oz, none⟩ : Option Addr) := ⟨_, rfl⟩
        rw [← hq8] at hs8 HR8
        have HRES := Lib.hid (show ((N : Int) + 9) = ((body.length + 9 : Nat) : Int) by rw [HBL4.out]; omega)
        clear hR8 hoz hq8
        go_upto_region 15 with fail
        refine wp_region_held_drew (S := fun X => Rd0 X (some ⟨bq, oq + 4, none⟩) body) (by kernel_rfl) (HRX.out) (fun hHeld => ?_)
        refine wpAnyH_take (i := 0) (v := ?_) rfl (by kernel_rfl) (by kernel_rfl) (by kernel_rfl) (fun _ _ _ h => h) (Or.inl ⟨by rfl, ?hy⟩) (by assumption) ?_
        case hy =>
          intro w hSw
          go_simp
          all_goals with_reducible rfl
        (try simp only [Act.put, List.setIfInBounds_toArray, List.set_cons_zero, List.set_cons_succ])
        refine wpAnyH_take (i := 3) (v := ?_) rfl (by kernel_rfl) (by kernel_rfl) (by kernel_rfl) (fun _ _ _ h => h) (Or.inl ⟨by rfl, ?hy⟩) (by assumption) ?_
        case hy =>
          intro w hSw
          go_simp
          all_goals with_reducible rfl
        (try simp only [Act.put, List.setIfInBounds_toArray, List.set_cons_zero, List.set_cons_succ])
        refine wpAnyH_take (i := 4) (v := ?_) rfl (by kernel_rfl) (by kernel_rfl) (by kernel_rfl) (fun _ _ _ h => h) (Or.inl ⟨by rfl, ?hy⟩) (by assumption) ?_
        case hy =>
          intro w hSw
          go_simp
          all_goals with_reducible rfl
        (try simp only [Act.put, List.setIfInBounds_toArray, List.set_cons_zero, List.set_cons_succ])
        refine wpAnyH_take (i := 6) (v := ?_) rfl (by kernel_rfl) (by kernel_rfl) (by kernel_rfl) (fun _ _ _ h => h) (Or.inl ⟨by rfl, ?hy⟩) (by assumption) ?_
        case hy =>
          intro w hSw
          go_simp
          all_goals with_reducible rfl
        (try simp only [Act.put, List.setIfInBounds_toArray, List.set_cons_zero, List.set_cons_succ])
        refine wpAnyH_take (i := 7) (v := ?_) rfl (by kernel_rfl) (by kernel_rfl) (by kernel_rfl) (fun _ _ _ h => h) (Or.inl ⟨by rfl, ?hy⟩) (by assumption) ?_
        case hy =>
          intro w hSw
          go_simp
          all_goals with_reducible rfl
        (try simp only [Act.put, List.setIfInBounds_toArray, List.set_cons_zero, List.set_cons_succ])
        refine wpAnyH_ready (rs := [1, 2]) (by kernel_rfl) (by simp) ?_
        refine AllReadyH.cons rfl (fun K hK => ?_) (AllReadyH.cons rfl (fun K hK => ?_) AllReadyH.nil)
        · go_simp
          go_at_call 51
          refine (HB8.out _ HRX.out (by omega) HB9.out).mono ?_
          rintro r wq ⟨rfl, rfl⟩
          refine hK.out _ _ (HRX.out) (fun hHeld => ?_)
          clear hK K
          (try simp only [Act.put, List.setIfInBounds_toArray, List.set_cons_zero, List.set_cons_succ])
          refine wpAnyH_ready (rs := [2]) (by kernel_rfl) (by simp) ?_
          refine AllReadyH.cons rfl (fun K hK => ?_) AllReadyH.nil
          go_simp
          refine hK.out _ _ (HRX.out.on (below1 _ _)) (fun hHeld => ?_)
          clear hK K
          (try simp only [Act.put, List.setIfInBounds_toArray, List.set_cons_zero, List.set_cons_succ])
          refine wpAnyH_ready (rs := [5]) (by kernel_rfl) (by simp) ?_
          refine AllReadyH.cons rfl (fun K hK => ?_) AllReadyH.nil
          rw [if_pos (by rfl)]
          refine wp_app8 _ _ rfl rfl wr.drew.heap.size _ [] rfl (acc_made (Nat.le_refl _)) q8 (body.drop 8) (N - 8) _ rfl HM8.out (HR8.out.on (below1 _ _)) (by rw [← HM8.out]; have := HNL.out; simp; omega) (by simp) ?_
          intro v4 w4 hA hb
          rw [List.nil_append] at hA
          have HA4 := Lib.hid hA
          have HB4 := Lib.hid ((below1 wr.drew (.cells #[] 5)).trans (hb.mono (Nat.le_refl _)))
          have HS4 := Lib.hid (HRX.out.on HB4.out)
          clear hA hb
          refine hK.out _ _ (HS4.out) (fun hHeld => ?_)
          clear hK K
          (try simp only [Act.put, List.setIfInBounds_toArray, List.set_cons_zero, List.set_cons_succ])
          refine wpAnyH_ready (rs := [8]) (by kernel_rfl) (by simp) ?_
          refine AllReadyH.cons rfl (fun K hK => ?_) AllReadyH.nil
          go_simp
          refine hK.out _ _ (HS4.out) (fun hHeld => ?_)
          clear hK K
          (try simp only [Act.put, List.setIfInBounds_toArray, List.set_cons_zero, List.set_cons_succ])
          refine wpAnyH_ready (rs := [9]) (by kernel_rfl) (by simp) ?_
          refine AllReadyH.cons rfl (fun K hK => ?_) AllReadyH.nil
          go_simp
          refine hK.out _ _ (HS4.out) (fun hHeld => ?_)
          clear hK K
          (try simp only [Act.put, List.setIfInBounds_toArray, List.set_cons_zero, List.set_cons_succ])
          refine wpAnyH_ready (rs := [10]) (by kernel_rfl) (by simp) ?_
          refine AllReadyH.cons rfl (fun K hK => ?_) AllReadyH.nil
          go_simp
          refine hK.out _ _ (HS4.out) (fun hHeld => ?_)
          clear hK K
          (try simp only [Act.put, List.setIfInBounds_toArray, List.set_cons_zero, List.set_cons_succ])
          refine wpAnyH_done (by kernel_rfl) ?_ _
          go_wp2_with fail
          exact bodyPost_ret (results_tmp3 rfl _ _ _) rfl ⟨OneR.yes HNO.out (HKD.out.bel.size) (by rw [← HRES.out]; rfl) HA4.out, HKD.out.bel.trans (HB4.out.mono HKD.out.bel.size)⟩
        · go_simp
          refine hK.out _ _ (HRX.out.on (below1 _ _)) (fun hHeld => ?_)
          clear hK K
          (try simp only [Act.put, List.setIfInBounds_toArray, List.set_cons_zero, List.set_cons_succ])
          refine wpAnyH_ready (rs := [1]) (by kernel_rfl) (by simp) ?_
          refine AllReadyH.cons rfl (fun K hK => ?_) AllReadyH.nil
          go_simp
          go_at_call 51
          refine (HB8.out _ (HRX.out.on (below1 _ _)) (by omega) HB9.out).mono ?_
          rintro r wq ⟨rfl, rfl⟩
          refine hK.out _ _ (HRX.out.on (below1 _ _)) (fun hHeld => ?_)
          clear hK K
          (try simp only [Act.put, List.setIfInBounds_toArray, List.set_cons_zero, List.set_cons_succ])
          refine wpAnyH_ready (rs := [5]) (by kernel_rfl) (by simp) ?_
          refine AllReadyH.cons rfl (fun K hK => ?_) AllReadyH.nil
          rw [if_pos (by rfl)]
          refine wp_app8 _ _ rfl rfl wr.drew.heap.size _ [] rfl (acc_made (Nat.le_refl _)) q8 (body.drop 8) (N - 8) _ rfl HM8.out (HR8.out.on (below1 _ _)) (by rw [← HM8.out]; have := HNL.out; simp; omega) (by simp) ?_
          intro v4 w4 hA hb
          rw [List.nil_append] at hA
          have HA4 := Lib.hid hA
          have HB4 := Lib.hid ((below1 wr.drew (.cells #[] 5)).trans (hb.mono (Nat.le_refl _)))
          have HS4 := Lib.hid (HRX.out.on HB4.out)
          clear hA hb
          refine hK.out _ _ (HS4.out) (fun hHeld => ?_)
          clear hK K
          (try simp only [Act.put, List.setIfInBounds_toArray, List.set_cons_zero, List.set_cons_succ])
          refine wpAnyH_ready (rs := [8]) (by kernel_rfl) (by simp) ?_
          refine AllReadyH.cons rfl (fun K hK => ?_) AllReadyH.nil
          go_simp
          refine hK.out _ _ (HS4.out) (fun hHeld => ?_)
          clear hK K
          (try simp only [Act.put, List.setIfInBounds_toArray, List.set_cons_zero, List.set_cons_succ])
          refine wpAnyH_ready (rs := [9]) (by kernel_rfl) (by simp) ?_
          refine AllReadyH.cons rfl (fun K hK => ?_) AllReadyH.nil
          go_simp
          refine hK.out _ _ (HS4.out) (fun hHeld => ?_)
          clear hK K
          (try simp only [Act.put, List.setIfInBounds_toArray, List.set_cons_zero, List.set_cons_succ])
          refine wpAnyH_ready (rs := [10]) (by kernel_rfl) (by simp) ?_
          refine AllReadyH.cons rfl (fun K hK => ?_) AllReadyH.nil
          go_simp
          refine hK.out _ _ (HS4.out) (fun hHeld => ?_)
          clear hK K
          (try simp only [Act.put, List.setIfInBounds_toArray, List.set_cons_zero, List.set_cons_succ])
          refine wpAnyH_done (by kernel_rfl) ?_ _
          go_wp2_with fail
          exact bodyPost_ret (results_tmp3 rfl _ _ _) rfl ⟨OneR.yes HNO.out (HKD.out.bel.size) (by rw [← HRES.out]; rfl) HA4.out, HKD.out.bel.trans (HB4.out.mono HKD.out.bel.size)⟩
      · have e1 : ¬ (x.toNat : Int) = 197 := fun h => hxy (UInt8.toNat_inj.1 (by show x.toNat = 197; omega))
        have e2 : ((x.toNat : Int) == 197) = false := by rw [beq_eq_false_iff_ne]; exact e1
        have e3 : ((x.toNat : Int) != 197) = true := by rw [bne_iff_ne]; exact e1
        have HNO := Lib.hid (show wholeS b = none by rw [HW2.out, if_neg fun h2 => hxy ?_]; have := (HEND.out h2).2; rw [← HP4.out, HX.out] at this; exact this)
        clear HEND HFUL HW2 HCL HX HALL HRB HR
        go_wp2_with fail
        exact bodyPost_ret (results_tmp3 rfl _ _ _) rfl ⟨OneR.no HNO.out rfl, HK.out.bel⟩
end Go.Proofs.YtnhnmlkfpnbfjaaDoor
