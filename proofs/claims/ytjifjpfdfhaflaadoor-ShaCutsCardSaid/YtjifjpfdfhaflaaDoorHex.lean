/-
  Contract: sha.Hex.
-/
import Derived.Test.YtjifjpfdfhaflaaDoorPrt
import Derived.Laws.IdiomStrings
set_option linter.unusedVariables false
set_option linter.unusedSimpArgs false
namespace Go.Proofs.YtjifjpfdfhaflaaDoor
open Go.RowKit

def digT : ByteArray := ⟨#[48, 49, 50, 51, 52, 53, 54, 55, 56, 57, 97, 98, 99, 100, 101, 102]⟩
theorem dig_at (n : Nat) (h : n < 16) : digT[n]? = some (digS n) := by
  have : ∀ k : Fin 16, digT[k.val]? = some (digS k.val) := by decide
  exact this ⟨n, h⟩
theorem run_digit (n : Nat) (k : IntKind) (i : Int) (hi : i = (n : Int)) (h : n < 16) (w : World) : (Instr.index 9 (.string digT) (.int k i)).run Tryd.prog w = .ok (B8 (digS n)) w := by
  subst hi
  have hd := dig_at n h
  simp [Instr.index, asIntOf, run_underlying Tryd.underlying9, hd, Result.andThen]
theorem hexS_len (l : List UInt8) : (hexS l).length = 2 * l.length := by
  induction l with
  | nil => rfl
  | cons x r ih => simp only [hexS, List.flatMap_cons] at ih ⊢; rw [List.length_append, ih]; simp; omega
theorem hexS_take (l : List UInt8) (k : Nat) (h : k < l.length) : hexS (l.take (k + 1)) = hexS (l.take k) ++ [digS (l[k].toNat / 16), digS (l[k].toNat % 16)] := by
  rw [List.take_succ_eq_append_getElem h, hexS, hexS, List.flatMap_append]; rfl

theorem and15 (n : Nat) (h : n < 256) : bits .and .u8 (n : Int) 15 = (n : Int) % 16 := by
  exact u8_and15 (x := (n : Int)) (by omega) (by omega)

theorem hex_step {w wd w7 : World} {k : Nat} {v : Value} {d : List UInt8} {xs : List UInt8} {y : UInt8} {o : Obj} {g cap : Nat} {hsz : Nat} (hT : hexS (d.take (k + 1)) = xs ++ [digS (y.toNat / 16), digS (y.toNat % 16)])
    (hown : (wd.alloc o).ownsRow (w.heap.size + 1) 5 1 v (2 * k) (cells8 xs)) (hb : Below w.heap.size w wd) (hs : w.heap.size < hsz) (hsw : hsz ≤ wd.heap.size)
    (ho : w7.ownsRow (w.heap.size + 1) 5 1 (.slice (some ⟨g, 0, none⟩) (2 * k + 2) cap) (2 * k + 2) (cells8 xs ++ [B8 (digS (y.toNat / 16)), B8 (digS (y.toNat % 16))])) (hgr : (wd.alloc o).grownBy w7 v.ownBlock) :
    w7.ownsRow (w.heap.size + 1) 5 1 (.slice (some ⟨g, 0, none⟩) (2 * k + 2) cap) (2 * (k + 1)) (cells8 (hexS (d.take (k + 1)))) ∧ Below w.heap.size w w7 ∧ w.heap.size < w7.heap.size := by
  have hB : Below w.heap.size w w7 := (hb.alloc (by omega) o).grown hgr (by simp; omega) (fun kk hkk => by have := (hown.lt kk hkk).1; omega)
  refine ⟨?_, hB, ?_⟩
  · rw [hT, show 2 * (k + 1) = 2 * k + 2 by omega]
    have e : cells8 (xs ++ [digS (y.toNat / 16), digS (y.toNat % 16)]) = cells8 xs ++ [B8 (digS (y.toNat / 16)), B8 (digS (y.toNat % 16))] := by simp [cells8]
    rw [e]; exact ho
  · have := hgr.size
    simp at this
    omega

set_option maxRecDepth 100000 in
set_option maxHeartbeats 1000000 in
theorem hex_any (d : List UInt8) (w : World) (hd : d.length = 32) :
    Calls Tryd.prog 10 #[.agg (cells8 d).toArray] w fun e w' => e = .returned (.string ⟨(hexS d).toArray⟩) ∧ Below w.heap.size w w' := by
  have HD := Lib.hid hd
  have HN := Lib.hid (show (cells8 d).toArray.size = 32 by rw [List.size_toArray, cells8_len, hd])
  clear hd
  go_enter Tryd.func10, Tryd.ntmps10
  go_wp2_with (refine wpList_load_row rfl 24 _ rfl _ rfl _ _ _ _ (Bk.new w _ _) Tryd.underlying24 rfl (by rw [HN.out]; kernel_rfl) ?_)
  go_loopw [3, 7] (fun v i wr => ∃ k : Nat, k ≤ 32 ∧ i = .int .i64 k ∧ wr.ownsRow (w.heap.size + 1) 5 1 v (2 * k) (cells8 (hexS (d.take k))) ∧ Below w.heap.size w wr ∧ w.heap.size < wr.heap.size) (fun _ i _ => 32 - (intOf i).toNat)
  case atStart => exact ⟨0, by omega, rfl, World.ownsRow_nil _ _ _ _, below1 _ _, by simp⟩
  case round =>
    obtain ⟨k, hk, rfl, hown, hb, hs⟩ := hrel
    have w3 : (0 : Int) ≤ (k : Int) := by omega
    by_cases hlt : k < 32
    · have hkd : k < d.length := by rw [HD.out]; exact hlt
      obtain ⟨y, ey⟩ : ∃ y, Hid (y = d[k]) := ⟨_, Lib.hid rfl⟩
      have hix : ∀ wx, (Instr.index 24 (.agg (cells8 d).toArray) (.int .i64 k)).run Tryd.prog wx = .ok (B8 y) wx := fun wx =>
        run_index_arr 24 5 32 Tryd.underlying24 _ Tryd.underlying5 rfl (by kernel_rfl) _ _ _ k rfl hlt _ (by simp [cells8, List.getElem?_eq_getElem hkd, ey.out]) wx
      have w4 : (k : Int) < 32 := by omega
      have hy := u8_lt y
      have hd1 := fun wx => run_digit (y.toNat / 16) .u8 ((y.toNat : Int) / 16) (by simp) (by omega) wx
      have hd2 := fun wx => run_digit (y.toNat % 16) .u8 ((y.toNat : Int) % 16) (by simp) (by omega) wx
      unfold digT at hd1 hd2
      have hba : bits .and .u8 (y.toNat : Int) 15 = (y.toNat : Int) % 16 := and15 y.toNat hy
      have HOW := Lib.hid hown
      have HB := Lib.hid hb
      have HT := Lib.hid (hexS_take d k hkd)
      rw [← ey.out] at HT
      clear hown hb
      go_upto_region 5 with (fail)
      obtain ⟨i0, hi, hz0, hz1, hz2⟩ := info_parts info8
      have HNW := Lib.hid (fun (wx : World) (j : Nat) (u : Value) (hu : ([B8 (digS (y.toNat / 16)), B8 (digS (y.toNat % 16))] : List Value)[j]? = some u) => (show (wx.alloc (.cells #[B8 (digS (y.toNat / 16)), B8 (digS (y.toNat % 16))] 5)).cell? ((⟨wx.heap.size, 0, none⟩ : Addr).add j) = some u from World.news_of_block (heap_alloc_new wx _) j u (by simpa using hu)))
      have HO1 := Lib.hid (show ∀ u ∈ ([B8 (digS (y.toNat / 16)), B8 (digS (y.toNat % 16))] : List Value), u.oneCell' = true by intro u hu; simp at hu; rcases hu with rfl | rfl <;> rfl)
      have HOD := Lib.hid (HOW.out.drew.alloc (.cells #[B8 (digS (y.toNat / 16)), B8 (digS (y.toNat % 16))] 5))
      have HBD := Lib.hid HB.out.drew
      have HBS := Lib.hid (show w.heap.size + 1 ≤ (wr.drew.alloc (.cells #[B8 (digS (y.toNat / 16)), B8 (digS (y.toNat % 16))] 5)).heap.size by simp; omega)
      have HK2 := Lib.hid (show 2 * k + 2 ≤ maxLen by unfold maxLen; omega)
      have HK3 := Lib.hid (show (2 * k + 2) * 1 ≤ 140737488355328 by omega)
      have HHI := Lib.hid hi
      have HZ0 := Lib.hid hz0
      have HZ1 := Lib.hid hz1
      have HZ2 := Lib.hid hz2
      clear hi hz0 hz1 hz2
      go_region_law ((refine step_append_lies _ rfl (.tmp 10) (.tmp 17) 22 rfl (w.heap.size + 1) 5 i0 _ 1 1 Tryd.underlying22 HHI.out HZ0.out HZ1.out HZ2.out rfl (by decide) _ (2 * k) _ (by rfl) HOD.out ⟨wr.heap.size, 0, none⟩ 2 2 [B8 (digS (y.toNat / 16)), B8 (digS (y.toNat % 16))] (by rfl) (by rfl) (HNW.out wr.drew) HO1.out (by decide) HK2.out HK3.out HBS.out _ rfl ?_; intro g cap w7 ho hgr hat hlt7))
      all_goals
        have HRES := Lib.hid (hex_step HT.out HOD.out HBD.out hs (Nat.le_refl _) ho hgr)
        clear ho hgr hat hlt7
        go_wp2_with fail
        go_roundw
      all_goals first
        | (show _ < _; simp [intOf]; omega)
        | exact ⟨k + 1, by omega, by go_num, HRES.out⟩
    · obtain rfl : k = 32 := by omega
      obtain ⟨wo, rfl⟩ : ∃ wo : World, wo = wr := ⟨_, rfl⟩
      rw [List.take_of_length_le (by rw [HD.out]; exact Nat.le_refl _)] at hown
      obtain ⟨g, cap, rfl, hge, hgl⟩ := hown.form (by omega)
      have hL : (hexS d).length = 2 * 32 := by rw [hexS_len, HD.out]
      have hcv := run_convert_bytes_back (P := Tryd.prog) wo 22 9 5 ⟨g, 0, none⟩ cap (hexS d) Tryd.underlying22 Tryd.underlying5 Tryd.underlying9 (fun j hj => hown.cells (g := g) rfl j _ (by simp [cells8, List.getElem?_eq_getElem hj]))
      rw [hL] at hcv
      have HB := Lib.hid hb
      clear hown hL hb hlt hk hge hgl hs
      go_wp2_with fail
      go_ret
      exact ⟨rfl, HB.out⟩
end Go.Proofs.YtjifjpfdfhaflaaDoor
