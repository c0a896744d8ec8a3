/-
  Contracts: sha.Parts, sha.Sum; Sum of a Hash that isn't there.
-/
import Derived.Test.YtooiaadnhglifaaDoorHsm
set_option linter.unusedVariables false
set_option linter.unusedSimpArgs false
namespace Go.Proofs.YtooiaadnhglifaaDoor
open Go.RowKit

theorem hsum_eq (hb : Nat) (l S : List UInt8) (hS : Hid (S = sumS l)) (w : World) (hH : Hs w hb l) (hE : Env w) (hz : l.length < 1000000000000000) :
    Calls Tryd.prog 75 #[.pointer (some ⟨hb, 0, none⟩)] w fun e w' => e = .returned (.agg (cells8 S).toArray) ∧ Below w.heap.size w w' := by
  rw [hS.out]; exact hsum_any hb l w hH hE hz
theorem nil_lt : ([] : List UInt8).length < 1000000000000000 := by decide

set_option maxRecDepth 100000 in
set_option maxHeartbeats 1000000 in
theorem hsum_nil (w : World) (hE : Env w) (S : List UInt8) (hl : S.length = 32) (HS : Hid (∀ hb (wx : World), Hs wx hb [] → Env wx → Calls Tryd.prog 75 #[.pointer (some ⟨hb, 0, none⟩)] wx fun e w' => e = .returned (.agg (cells8 S).toArray) ∧ Below wx.heap.size wx w')) :
    Calls Tryd.prog 75 #[.pointer none] w fun e w' => e = .returned (.agg (cells8 S).toArray) ∧ Below w.heap.size w w' := by
  have HE := Lib.hid hE
  clear hE
  have HN := Lib.hid (show (cells8 S).toArray.size = 32 by rw [List.size_toArray, cells8_len, hl])
  clear hl
  go_enter Tryd.func75, Tryd.ntmps75
  go_wp2_with (first
    | (go_at_call 73; refine (new_any _ (HE.out.on (below1 _ _) HE.out.size)).mono ?_; rintro e w1 ⟨rfl, hh, hb1⟩; rw [World.size_alloc] at hh; have HH := Lib.hid hh; have HB1 := Lib.hid hb1; clear hh hb1)
    | (go_at_call 75; refine (HS.out (w.heap.size + 1) _ HH.out (HE.out.on ((below1 w _).trans (HB1.out.mono (below1 w _).size)) HE.out.size)).mono ?_; rintro e w2 ⟨rfl, hb2⟩; have HB2 := Lib.hid hb2; clear hb2)
    | (refine wpList_store_row rfl 57 _ _ rfl w.heap.size _ rfl rfl 57 (cells8 (List.replicate 32 0)).toArray (((Bk.new w _ _).on HB1.out).on HB2.out) (by rw [HN.out]; kernel_rfl) (by rw [HN.out]; rfl) (cells8_one _) ?_))
  exact bodyPost_ret (v := .agg (cells8 S).toArray) (results_cell_row rfl _ _ _ _ _ _ _ rfl (setRow_heap _ _ _ _ _ _ (((Bk.new w _ _).on HB1.out).on HB2.out)) Tryd.underlying57 rfl (by rw [HN.out]; kernel_rfl)) rfl ⟨rfl, below_setRow (((below1 w _).trans (HB1.out.mono (below1 w _).size)).trans (HB2.out.mono (Nat.le_trans (below1 w _).size HB1.out.size))) (Nat.le_refl _) _⟩

/-! lists of bytes in memory -/
structure SlA where
  q : Option Addr
  c : Nat
  m : List UInt8
/-- the bytes of a slice lie in memory -/
def Rd0 (w : World) (q : Option Addr) (m : List UInt8) : Prop := m = [] ∨ ∃ b off, q = some ⟨b, off, none⟩ ∧ b < w.heap.size ∧ ∀ i v, (cells8 m)[i]? = some v → w.cell? ⟨b, off + i, none⟩ = some v
theorem Rd0.on {w w' : World} {q : Option Addr} {m : List UInt8} (h : Rd0 w q m) (hb : Below w.heap.size w w') : Rd0 w' q m := by
  rcases h with h | ⟨b, off, h1, h2, h3⟩
  · exact .inl h
  · exact .inr ⟨b, off, h1, Nat.lt_of_lt_of_le h2 hb.size, fun i v hv => by rw [hb.cell (p := ⟨b, off + i, none⟩) h2]; exact h3 i v hv⟩
/-- apart from a block that was made later -/
theorem Rd0.below {w wr : World} {q : Option Addr} {m : List UInt8} (h : Rd0 w q m) (hb : Below w.heap.size w wr) : Rd0 wr q m := h.on hb
theorem Rd0.far {w wr : World} {q : Option Addr} {m : List UInt8} (h : Rd0 w q m) {N hb : Nat} (hN : w.heap.size ≤ N) (hb' : Below N w wr) (hl : N ≤ hb) : Rdn wr hb q m := by
  rcases h with h | ⟨b, off, h1, h2, h3⟩
  · exact .inl h
  · exact .inr ⟨b, off, h1, by omega, Nat.lt_of_lt_of_le h2 hb'.size, fun i v hv => by rw [hb'.cell (p := ⟨b, off + i, none⟩) (by show b < N; omega)]; exact h3 i v hv⟩
/-- a list of slices -/
structure Lsa (w : World) (p : Option Addr) (ls : List SlA) : Prop where
  at_ : ls = [] ∨ ∃ b off, p = some ⟨b, off, none⟩ ∧ b < w.heap.size ∧ ∀ i (h : i < ls.length), w.cell? ⟨b, off + i, none⟩ = some (.slice ls[i].q ls[i].m.length ls[i].c)
  el : ∀ x ∈ ls, Rd0 w x.q x.m ∧ x.m.length ≤ x.c
def joinL (ls : List SlA) : List UInt8 := ls.flatMap (·.m)
theorem joinL_take (ls : List SlA) (k : Nat) (h : k < ls.length) : joinL (ls.take (k + 1)) = joinL (ls.take k) ++ ls[k].m := by
  rw [List.take_succ_eq_append_getElem h, joinL, joinL, List.flatMap_append]; simp
theorem joinL_len (ls : List SlA) (k : Nat) : (joinL (ls.take k)).length ≤ (joinL ls).length := by
  conv => rhs; rw [← List.take_append_drop k ls, joinL, List.flatMap_append, List.length_append]
  exact Nat.le_add_right _ _
theorem joinL_step (ls : List SlA) (k : Nat) (h : k < ls.length) : (joinL (ls.take k)).length + ls[k].m.length ≤ (joinL ls).length := by
  rw [← List.length_append, ← joinL_take ls k h]; exact joinL_len _ _

/-- what is kept while parts are written -/
structure Pw (X w : World) (hb : Nat) (l : List UInt8) : Prop where
  out : Bk X w.heap.size 57 (cells8 (List.replicate 32 0)).toArray
  hs : Hs X hb l
  bel : Below w.heap.size w X

set_option maxRecDepth 100000 in
set_option maxHeartbeats 1000000 in
theorem parts_any (p : Option Addr) (ls : List SlA) (c : Nat) (w : World) (hL : Lsa w p ls) (hE : Env w) (hn : ls.length ≤ 9223372036854775807) (hz : (joinL ls).length < 1000000000000000) (S : List UInt8) (hS : Hid (S = sumS (joinL ls))) :
    Calls Tryd.prog 72 #[.slice p ls.length c] w fun e w' => e = .returned (.agg (cells8 S).toArray) ∧ Below w.heap.size w w' := by
  have HE := Lib.hid hE
  have HL := Lib.hid hL
  have HN := Lib.hid (show (cells8 S).toArray.size = 32 by rw [hS.out, List.size_toArray, cells8_len, sumS_len])
  have HZ := Lib.hid hz
  clear hE hL hz
  go_enter Tryd.func72, Tryd.ntmps72
  go_wp2_with (go_at_call 73; refine (new_any _ (HE.out.on (below1 _ _) HE.out.size)).mono ?_; rintro e w1 ⟨rfl, hh, hb1⟩; rw [World.size_alloc] at hh; have HP := Lib.hid (show Pw w1 w (w.heap.size + 1) [] from ⟨(Bk.new w _ (cells8 (List.replicate 32 0)).toArray).on hb1, hh, (below1 w _).trans (hb1.mono (below1 w _).size)⟩); clear hh hb1)
  go_loopw [9] (fun i wr => ∃ k : Nat, k ≤ ls.length ∧ i = .int .i64 k ∧ Pw wr w (w.heap.size + 1) (joinL (ls.take k))) (fun i _ => ls.length - (intOf i).toNat)
  case atStart => exact ⟨0, by omega, rfl, HP.out⟩
  case round =>
    clear HP
    obtain ⟨k, hk, rfl, hP⟩ := hrel
    have w3 : (0 : Int) ≤ (k : Int) := by omega
    by_cases hlt : k < ls.length
    · have w4 : (k : Int) < (ls.length : Int) := by omega
      have HP := Lib.hid hP
      clear hP
      obtain ⟨b, off, rfl, hbl, hc⟩ : ∃ b off, p = some ⟨b, off, none⟩ ∧ b < w.heap.size ∧ ∀ i (h : i < ls.length), w.cell? ⟨b, off + i, none⟩ = some (.slice ls[i].q ls[i].m.length ls[i].c) := by
        rcases HL.out.at_ with h | h
        · subst h; simp at hlt
        · exact h
      have x0 : wr.cell? ⟨b, off + k, none⟩ = some (.slice ls[k].q ls[k].m.length ls[k].c) := by rw [HP.out.bel.cell (p := ⟨b, off + k, none⟩) hbl]; exact hc k hlt
      have HEL := Lib.hid (HL.out.el ls[k] (List.getElem_mem hlt))
      have HJ := Lib.hid (joinL_take ls k hlt)
      have HJ2 := Lib.hid (Nat.lt_of_le_of_lt (joinL_step ls k hlt) HZ.out)
      clear hc
      generalize ls[k] = x at *
      go_wp2_with (go_at_call 74; refine (write_any (w.heap.size + 1) _ x.m _ _ _ HP.out.hs (HE.out.on HP.out.bel HE.out.size) (by have := HE.out.size; omega) (HEL.out.1.far (Nat.le_refl _) HP.out.bel (by omega)) HEL.out.2 (by have := HJ2.out; omega)).mono ?_; rintro e w5 ⟨rfl, hH5, hO5⟩; have HP5 := Lib.hid (show Pw w5 w (w.heap.size + 1) (joinL (ls.take (k + 1))) from ⟨HP.out.out.only hO5 (by omega), by rw [HJ.out]; exact hH5, HP.out.bel.trans ((hO5.below (Nat.le_of_lt HP.out.hs.lt)).mono (by omega))⟩); clear hH5 hO5)
      go_roundw
      case rel => exact ⟨k + 1, by omega, by go_num, HP5.out⟩
      case measure => simp [intOf]; omega
    · obtain rfl : k = ls.length := by omega
      rw [List.take_of_length_le (Nat.le_refl _)] at hP
      obtain ⟨wo, rfl⟩ : ∃ wo : World, wo = wr := ⟨_, rfl⟩
      have HP := Lib.hid hP
      have HS := hS
      clear hP hlt hk hS
      go_wp2_with (first
        | (go_at_call 75; refine (hsum_eq (w.heap.size + 1) _ S HS _ HP.out.hs (HE.out.on HP.out.bel HE.out.size) HZ.out).mono ?_; rintro e w2 ⟨rfl, hb2⟩; have HB2 := Lib.hid hb2; clear hb2)
        | (refine wpList_store_row rfl 57 _ _ rfl w.heap.size _ rfl rfl 57 (cells8 (List.replicate 32 0)).toArray (HP.out.out.on HB2.out) (by rw [HN.out]; kernel_rfl) (by rw [HN.out]; rfl) (cells8_one _) ?_))
      exact bodyPost_ret (v := .agg (cells8 S).toArray) (results_cell_row rfl _ _ _ _ _ _ _ rfl (setRow_heap _ _ _ _ _ _ (HP.out.out.on HB2.out)) Tryd.underlying57 rfl (by rw [HN.out]; kernel_rfl)) rfl ⟨rfl, below_setRow (HP.out.bel.trans (HB2.out.mono HP.out.bel.size)) (Nat.le_refl _) _⟩
end Go.Proofs.YtooiaadnhglifaaDoor
