/-
  Contract: sha.Sum.
-/
import Derived.Test.YtooiaadnhglifaaDoorPrt
set_option linter.unusedVariables false
set_option linter.unusedSimpArgs false
namespace Go.Proofs.YtooiaadnhglifaaDoor
open Go.RowKit

theorem below2' (w : World) (a b : Obj) : Below w.heap.size w ((w.alloc a).alloc b) := ((Below.refl _ _).alloc (Nat.le_refl _) _).alloc (by simp) _
theorem joinL_one (x : SlA) : joinL [x] = x.m := by simp [joinL]
set_option maxRecDepth 100000 in
set_option maxHeartbeats 1000000 in
theorem sum_any (q : Option Addr) (c : Nat) (m : List UInt8) (w : World) (hR : Rd0 w q m) (hc : m.length ≤ c) (hE : Env w) (hz : m.length < 1000000000000000) (S : List UInt8) (hS : Hid (S = sumS m)) :
    Calls Tryd.prog 65 #[.slice q m.length c] w fun e w' => e = .returned (.agg (cells8 S).toArray) ∧ Below w.heap.size w w' := by
  have HE := Lib.hid hE
  have HR := Lib.hid hR
  have HC := Lib.hid hc
  have HN := Lib.hid (show (cells8 S).toArray.size = 32 by rw [hS.out, List.size_toArray, cells8_len, sumS_len])
  have HZ := Lib.hid (show (joinL [⟨q, c, m⟩]).length < 1000000000000000 by rw [joinL_one]; exact hz)
  have HS := Lib.hid (show Hid (S = sumS (joinL [⟨q, c, m⟩])) by rw [joinL_one]; exact hS)
  have HLS := Lib.hid (fun (a : Array Value) => show Lsa ((w.alloc (.cells a 57)).alloc (.cells #[.slice q m.length c] 22)) (some ⟨w.heap.size + 1, 0, none⟩) [⟨q, c, m⟩] from
    ⟨.inr ⟨w.heap.size + 1, 0, rfl, by simp, fun i hi => by
      have hi0 : i = 0 := by simpa using hi
      subst hi0
      exact (Bk.new' (w.alloc _) (by simp) _ _).cell 0 _ rfl⟩, fun x hx => by
      obtain rfl : x = ⟨q, c, m⟩ := by simpa using hx
      exact ⟨(hR.on (below1 _ _)).on (below1 _ _), hc⟩⟩)
  have HEV := Lib.hid (fun (a b : Obj) => hE.on (below2' w a b) hE.size)
  have HPA := Lib.hid (fun (wx : World) (hL : Lsa wx (some ⟨w.heap.size + 1, 0, none⟩) [⟨q, c, m⟩]) (hE : Env wx) => parts_any (some ⟨w.heap.size + 1, 0, none⟩) [⟨q, c, m⟩] 1 wx hL hE (by simp) HZ.out S HS.out)
  clear hR hc hE hz hS
  go_enter Tryd.func65, Tryd.ntmps65
  go_wp2_with (first
    | (go_at_call 72; refine (HPA.out _ (HLS.out (cells8 (List.replicate 32 0)).toArray) (HEV.out _ _)).mono ?_; rintro e w2 ⟨rfl, hb2⟩; have HB2 := Lib.hid hb2; clear hb2)
    | (refine wpList_store_row rfl 57 _ _ rfl w.heap.size _ rfl rfl 57 (cells8 (List.replicate 32 0)).toArray (((Bk.new w _ _).on (below1 _ _)).on HB2.out) (by rw [HN.out]; kernel_rfl) (by rw [HN.out]; rfl) (cells8_one _) ?_))
  exact bodyPost_ret (v := .agg (cells8 S).toArray) (results_cell_row rfl _ _ _ _ _ _ _ rfl (setRow_heap _ _ _ _ _ _ (((Bk.new w _ (cells8 (List.replicate 32 0)).toArray).on (below1 _ _)).on HB2.out)) Tryd.underlying57 rfl (by rw [HN.out]; kernel_rfl)) rfl ⟨rfl, below_setRow ((below2' w _ _).trans (HB2.out.mono (below2' w _ _).size)) (Nat.le_refl _) _⟩
end Go.Proofs.YtooiaadnhglifaaDoor
