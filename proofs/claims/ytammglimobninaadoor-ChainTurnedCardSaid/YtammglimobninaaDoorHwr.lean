/-
  Contract: chain.written: the bytes of an entry that may be.
-/
import Derived.Test.YtammglimobninaaDoorHst
import Derived.Test.YtammglimobninaaDoorHgd
set_option linter.unusedVariables false
set_option linter.unusedSimpArgs false
namespace Go.Proofs.YtammglimobninaaDoor
open Go.RowKit

/-- the bytes of an entry at a place -/
def bytesS (i : Nat) (e : En) : List UInt8 := numS i 8 ++ numS e.user.size 1 ++ e.user.data.toList ++ numS e.tick.toNat 8 ++ numS e.text.size 4 ++ e.text.data.toList ++ e.dig
/-- an entry lies in a block of the call's own -/
structure Eb (X w : World) (e : En) : Prop where
  bk : Bk X w.heap.size 24 e.cells.toArray
  bel : Below w.heap.size w X
theorem Eb.on {X X' w : World} {e : En} (h : Eb X w e) (hb : Below (w.heap.size + 1) X X') : Eb X' w e := ⟨h.bk.below hb (Nat.lt_succ_self _), h.bel.trans (hb.mono (Nat.le_succ _))⟩
theorem Eb.size {X w : World} {e : En} (h : Eb X w e) : w.heap.size + 1 ≤ X.heap.size := h.bk.lt
theorem Eb.start (w : World) (e : En) : Eb (w.alloc (.cells e.cells.toArray 24)) w e := ⟨Bk.new w _ _, below1 _ _⟩
theorem Eb.c0 {X w : World} {e : En} (h : Eb X w e) : X.cell? ⟨w.heap.size, 0, none⟩ = some (.string e.user) := h.bk.cell 0 _ rfl
theorem Eb.c1 {X w : World} {e : En} (h : Eb X w e) : X.cell? ⟨w.heap.size, 1, none⟩ = some (.int .i64 e.tick) := h.bk.cell 1 _ rfl
theorem Eb.c2 {X w : World} {e : En} (h : Eb X w e) : X.cell? ⟨w.heap.size, 2, none⟩ = some (.string e.text) := h.bk.cell 2 _ rfl
theorem Eb.rd {X w : World} {e : En} (h : Eb X w e) : Rd0 X (some ⟨w.heap.size, 3, none⟩) e.dig := .inr ⟨w.heap.size, 3, rfl, h.bk.lt, fun i v hv => h.bk.cell (3 + i) v (by
  rw [List.toList_toArray, Nat.add_comm]
  exact hv)⟩

set_option maxRecDepth 100000 in
set_option maxHeartbeats 1000000 in
theorem written_any (i : Nat) (e : En) (hk : e.Ok) (w : World) (hi : i < 9223372036854775808) (ht : 0 ≤ e.tick) (ht2 : e.tick ≤ 1099511627776) (hus : e.user.size ≤ 100000) (hts : e.text.size ≤ 100000) :
    Calls Tryd.prog 32 #[.int .i64 i, .agg e.cells.toArray] w fun r w' => ∃ v', r = .returned v' ∧ Acc w' (w.heap.size + 1) v' (bytesS i e) ∧ Below w.heap.size w w' := by
  obtain ⟨tk, htk⟩ : ∃ n : Nat, e.tick = (n : Int) := ⟨e.tick.toNat, by omega⟩
  have HDL := Lib.hid hk.dig
  have s0 : IntKind.u64.wrap (i : Int) = (i : Int) := IntWalk.u64_in _ (by omega)
  have s1 : IntKind.u64.wrap (e.user.size : Int) = (e.user.size : Int) := IntWalk.u64_in _ (by omega)
  have s2 : IntKind.u64.wrap (tk : Int) = (tk : Int) := IntWalk.u64_in _ (by omega)
  have s3 : IntKind.u64.wrap (e.text.size : Int) = (e.text.size : Int) := IntWalk.u64_in _ (by omega)
  have HE := Lib.hid (Eb.start w e)
  have HTK := Lib.hid htk
  have HU := Lib.hid hus
  have HX := Lib.hid hts
  clear hk htk hus hts ht ht2
  go_enter Tryd.func32, Tryd.ntmps32
  go_upto_region 1 with (fail)
  generalize w.alloc (.cells e.cells.toArray 24) = WA at *
  go_upto_region 2 with (go_at_call 52; refine (number_any (w.heap.size + 1) (.slice none 0 0) [] 8 i _ acc_nil HE.out.size (by decide) (by simp)).mono ?_; rw [List.nil_append]; rintro r w1 ⟨v1, rfl, hA, hb⟩; have HA1 := Lib.hid hA; have HE1 := Lib.hid (HE.out.on hb); clear hA hb)
  have c0 := HE1.out.c0
  go_upto_region 3 with (go_at_call 52; refine (number_any (w.heap.size + 1) v1 _ 1 e.user.size _ HA1.out HE1.out.size (by decide) (by rw [numS_len]; decide)).mono ?_; rintro r w2 ⟨v2, rfl, hA, hb⟩; have HA2 := Lib.hid hA; have HE2 := Lib.hid (HE1.out.on hb); clear hA hb c0)
  have c0 := HE2.out.c0
  go_upto_region 4 with (refine wpList_appstr8 rfl _ _ rfl rfl (w.heap.size + 1) v2 _ rfl HA2.out (by simp [numS]) e.user rfl (by have := HU.out; simp [numS_len]; omega) HE2.out.size ?_; intro v3 w3 hA hb; have HA3 := Lib.hid hA; have HE3 := Lib.hid (HE2.out.on hb); clear hA hb c0)
  have c1 := HE3.out.c1
  rw [HTK.out] at c1
  go_upto_region 5 with (go_at_call 52; refine (number_any (w.heap.size + 1) v3 _ 8 tk _ HA3.out HE3.out.size (by decide) (by have := HU.out; simp [numS_len]; omega)).mono ?_; rintro r w4 ⟨v4, rfl, hA, hb⟩; have HA4 := Lib.hid hA; have HE4 := Lib.hid (HE3.out.on hb); clear hA hb c1)
  have c2 := HE4.out.c2
  go_upto_region 6 with (go_at_call 52; refine (number_any (w.heap.size + 1) v4 _ 4 e.text.size _ HA4.out HE4.out.size (by decide) (by have := HU.out; simp [numS_len]; omega)).mono ?_; rintro r w5 ⟨v5, rfl, hA, hb⟩; have HA5 := Lib.hid hA; have HE5 := Lib.hid (HE4.out.on hb); clear hA hb c2)
  have c2 := HE5.out.c2
  go_upto_region 7 with (refine wpList_appstr8 rfl _ _ rfl rfl (w.heap.size + 1) v5 _ rfl HA5.out (by simp [numS]) e.text rfl (by have := HU.out; have := HX.out; simp [numS_len]; omega) HE5.out.size ?_; intro v6 w6 hA hb; have HA6 := Lib.hid hA; have HE6 := Lib.hid (HE5.out.on hb); clear hA hb c2)
  go_wp2_with (refine wpList_app8 rfl _ _ rfl rfl (w.heap.size + 1) v6 _ rfl HA6.out (some ⟨w.heap.size, 3, none⟩) e.dig 32 32 rfl HDL.out.symm HE6.out.rd (by have := HU.out; have := HX.out; have := HDL.out; simp [numS_len]; omega) HE6.out.size ?_; intro v7 w7 hA hb; have HA7 := Lib.hid hA; have HE7 := Lib.hid (HE6.out.on hb); clear hA hb)
  go_ret
  refine ⟨_, rfl, ?_, HE7.out.bel⟩
  have := HA7.out
  unfold bytesS
  rw [HTK.out, Int.toNat_natCast]
  exact this
end Go.Proofs.YtammglimobninaaDoor
