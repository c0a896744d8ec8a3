/-
  Contract: what the chapter's example says.
-/
import Derived.Test.YtjifjpfdfhaflaaDoorAbc
import Derived.Test.YtjifjpfdfhaflaaDoorSum
import Derived.Test.YtjifjpfdfhaflaaDoorHex
import Derived.ChangeKeysEq
import Derived.Lib.SlBytesConst
import Derived.Lib.SmallJoins
set_option linter.unusedVariables false
set_option linter.unusedSimpArgs false
namespace Go.Proofs.YtjifjpfdfhaflaaDoor
open Go.RowKit

theorem run_item8 (d : Nat) (S : List UInt8) (w : World) : ∀ is : List Nat, (∀ i ∈ is, i < S.length) → (Op.eqItems (d + 1) 5 1 (cells8 S).toArray (cells8 S).toArray is).run Tryd.prog w = .ok true w
  | [], _ => by simp [Op.eqItems]
  | i :: is, h => by
    have hi := h i (by simp)
    have hp : (part 5 (cells8 S).toArray (i * 1)).run Tryd.prog w = .ok (B8 S[i]) w := by
      have hagg : (isAgg 5).run Tryd.prog w = .ok false w := by
        unfold isAgg
        rw [Sem.run_bind, run_underlying Tryd.underlying5 w]
        rfl
      have hv : (cells8 S).toArray[i]? = some (B8 S[i]) := by simp [cells8, List.getElem?_eq_getElem hi]
      simp [part, hagg, hv, Result.andThen]
    have he : (Op.equalIn (d + 1) 5 (B8 S[i]) (B8 S[i])).run Tryd.prog w = .ok true w := by
      simp [Op.equalIn, run_underlying Tryd.underlying5]
    simp only [Op.eqItems, Sem.run_bind, hp, he, Result.andThen_ok]
    simpa using run_item8 d S w is (fun j hj => h j (by simp [hj]))
theorem run_eq8 (S : List UInt8) (hS : S.length = 32) (w : World) : (Op.equal 24 (.agg (cells8 S).toArray) (.agg (cells8 S).toArray)).run Tryd.prog w = .ok true w := by
  obtain ⟨i, hi, _, _, _⟩ := info_parts info8
  show (Op.equalIn (9999 + 1) _ _ _).run _ w = _
  rw [run_equalIn_array (P := Tryd.prog) (w := w) 9999 _ _ Tryd.underlying24 hi, show Tryd.prog.cellsOf 5 = 1 by kernel_rfl]
  exact run_item8 9998 S w _ (fun j hj => by rw [hS]; exact List.mem_range.1 hj)

theorem run_eqIn8 (S : List UInt8) (hS : S.length = 32) (w : World) : (Op.equalIn 10000 24 (.agg (cells8 S).toArray) (.agg (cells8 S).toArray)).run Tryd.prog w = .ok true w := run_eq8 S hS w
def wantB : ByteArray := ⟨#[98, 97, 55, 56, 49, 54, 98, 102, 56, 102, 48, 49, 99, 102, 101, 97, 52, 49, 52, 49, 52, 48, 100, 101, 53, 100, 97, 101, 50, 50, 50, 51, 98, 48, 48, 51, 54, 49, 97, 51, 57, 54, 49, 55, 55, 97, 57, 99, 98, 52, 49, 48, 102, 102, 54, 49, 102, 50, 48, 48, 49, 53, 97, 100]⟩
theorem wantB_eq : (⟨wantL.toArray⟩ : ByteArray) = ⟨#[98, 97, 55, 56, 49, 54, 98, 102, 56, 102, 48, 49, 99, 102, 101, 97, 52, 49, 52, 49, 52, 48, 100, 101, 53, 100, 97, 101, 50, 50, 50, 51, 98, 48, 48, 51, 54, 49, 97, 51, 57, 54, 49, 55, 55, 97, 57, 99, 98, 52, 49, 48, 102, 102, 54, 49, 102, 50, 48, 48, 49, 53, 97, 100]⟩ := rfl
/-- what is kept of the Hash -/
structure Fq (X w : World) (l : List UInt8) : Prop where
  hs : Hs X w.heap.size l
  bel : Below w.heap.size w X
theorem Fq.on {X X' w : World} {l : List UInt8} (h : Fq X w l) (hb : Below X.heap.size X X') : Fq X' w l := ⟨h.hs.on hb, h.bel.trans (hb.mono h.bel.size)⟩
theorem Fq.al {X w : World} {l : List UInt8} (h : Fq X w l) (o : Obj) : Fq (X.alloc o) w l := h.on (below1 _ _)
theorem Fq.wr {X X' w : World} {l l' : List UInt8} (h : Fq X w l) (hh : Hs X' w.heap.size l') (ho : Only w.heap.size X X') : Fq X' w l' := ⟨hh, h.bel.trans (ho.below (Nat.le_of_lt h.hs.lt))⟩
theorem Fq.env {X w : World} {l : List UInt8} (h : Fq X w l) (he : Env w) : Env X := he.on h.bel he.size
theorem rd0_const (w : World) (T : TypeId) (l : List UInt8) (fr : Nat × Nat) : Rd0 (w.alloc (.cells (cells8 l).toArray T fr)) (some ⟨w.heap.size, 0, none⟩) l :=
  .inr ⟨w.heap.size, 0, rfl, by simp, fun i v hv => by
    rw [Nat.zero_add]
    simp only [World.cell?, heap_alloc_new]
    simpa using hv⟩
theorem Rd0.n {X w : World} {l m : List UInt8} {q : Option Addr} (h : Rd0 X q m) (hq : ∀ b off, q = some ⟨b, off, none⟩ → b ≠ w.heap.size) : Rdn X w.heap.size q m := by
  rcases h with h | ⟨b, off, h1, h2, h3⟩
  · exact .inl h
  · exact .inr ⟨b, off, h1, hq b off h1, h2, h3⟩

theorem parts_fix (X : World) (S : List UInt8) (hS : Hid (S = sumS [97, 98, 99])) (hE : Env X) :
    Calls Tryd.prog 16 #[.slice (some ⟨X.heap.size + 1 + 1, 0, none⟩) 3 3] (((X.alloc (.cells #[B8 97] 5 (1, 2))).alloc (.cells #[B8 98, B8 99] 5 (2, 3))).alloc (.cells #[.slice (some ⟨X.heap.size, 0, none⟩) 1 1, .slice none 0 0, .slice (some ⟨X.heap.size + 1, 0, none⟩) 2 2] 22))
      fun e w' => e = .returned (.agg (cells8 S).toArray) ∧ Below (((X.alloc (.cells #[B8 97] 5 (1, 2))).alloc (.cells #[B8 98, B8 99] 5 (2, 3))).alloc (.cells #[.slice (some ⟨X.heap.size, 0, none⟩) 1 1, .slice none 0 0, .slice (some ⟨X.heap.size + 1, 0, none⟩) 2 2] 22)).heap.size (((X.alloc (.cells #[B8 97] 5 (1, 2))).alloc (.cells #[B8 98, B8 99] 5 (2, 3))).alloc (.cells #[.slice (some ⟨X.heap.size, 0, none⟩) 1 1, .slice none 0 0, .slice (some ⟨X.heap.size + 1, 0, none⟩) 2 2] 22)) w' := by
  have h1 : Rd0 (X.alloc (.cells #[B8 97] 5 (1, 2))) (some ⟨X.heap.size, 0, none⟩) [97] := rd0_const X 5 [97] (1, 2)
  have h2 : Rd0 ((X.alloc (.cells #[B8 97] 5 (1, 2))).alloc (.cells #[B8 98, B8 99] 5 (2, 3))) (some ⟨X.heap.size + 1, 0, none⟩) [98, 99] := by
    have := rd0_const (X.alloc (.cells #[B8 97] 5 (1, 2))) 5 [98, 99] (2, 3)
    rwa [World.size_alloc] at this
  have hB := Bk.new' (N := X.heap.size + 1 + 1) ((X.alloc (.cells #[B8 97] 5 (1, 2))).alloc (.cells #[B8 98, B8 99] 5 (2, 3))) (by simp) 22 #[.slice (some ⟨X.heap.size, 0, none⟩) 1 1, .slice none 0 0, .slice (some ⟨X.heap.size + 1, 0, none⟩) 2 2]
  refine parts_any (some ⟨X.heap.size + 1 + 1, 0, none⟩) [⟨some ⟨X.heap.size, 0, none⟩, 1, [97]⟩, ⟨none, 0, []⟩, ⟨some ⟨X.heap.size + 1, 0, none⟩, 2, [98, 99]⟩] 3 _ ⟨.inr ⟨X.heap.size + 1 + 1, 0, rfl, hB.lt, ?_⟩, ?_⟩ (((hE.on (below1 _ _) hE.size).on (below1 _ _) (Nat.le_trans hE.size (below1 _ _).size)).on (below1 _ _) (Nat.le_trans hE.size (Nat.le_trans (below1 _ _).size (below1 _ _).size))) (by simp) (by simp [joinL]) S hS
  · intro i hi
    have : i = 0 ∨ i = 1 ∨ i = 2 := by simp at hi; omega
    rcases this with rfl | rfl | rfl
    · exact hB.cell 0 _ rfl
    · exact hB.cell 1 _ rfl
    · exact hB.cell 2 _ rfl
  · intro x hx
    simp only [List.mem_cons, List.not_mem_nil, or_false] at hx
    rcases hx with rfl | rfl | rfl
    · exact ⟨(h1.on (below1 _ _)).on (below1 _ _), by simp⟩
    · exact ⟨.inl rfl, by simp⟩
    · exact ⟨h2.on (below1 _ _), by simp⟩

set_option maxRecDepth 100000 in
set_option maxHeartbeats 2000000 in
theorem fixed_any (w : World) (hE : Env w) :
    Calls Tryd.prog 7 #[] w fun e w' => e = .returned (.bool true) ∧ Below w.heap.size w w' := by
  have HE := Lib.hid hE
  clear hE
  obtain ⟨S, hS⟩ : ∃ S, Hid (S = sumS [97, 98, 99]) := ⟨_, Lib.hid rfl⟩
  have HL := Lib.hid (show S.length = 32 by rw [hS.out]; exact sumS_len _)
  have HX := Lib.hid (fun wx => show Calls Tryd.prog 10 #[.agg (cells8 S).toArray] wx fun e w' => e = .returned (.string ⟨#[98, 97, 55, 56, 49, 54, 98, 102, 56, 102, 48, 49, 99, 102, 101, 97, 52, 49, 52, 49, 52, 48, 100, 101, 53, 100, 97, 101, 50, 50, 50, 51, 98, 48, 48, 51, 54, 49, 97, 51, 57, 54, 49, 55, 55, 97, 57, 99, 98, 52, 49, 48, 102, 102, 54, 49, 102, 50, 48, 48, 49, 53, 97, 100]⟩) ∧ Below wx.heap.size wx w' by
    have h := hex_any S wx HL.out
    rw [show hexS S = wantL by rw [hS.out]; exact abc_hex, wantB_eq] at h
    exact h)
  have kc := fun (w : World) (C : Array Value) (n c : Nat) => Lib.run_convert_bytes_const (P := Tryd.prog) w 22 5 C n c Tryd.underlying22 Tryd.underlying5
  have kc2 := fun (w : World) (C : Array Value) (n c g : Nat) (hg : g = w.heap.size) => Joins.run_convert_bytes_const_at (P := Tryd.prog) w 22 5 C n c g hg Tryd.underlying22 Tryd.underlying5
  go_enter Tryd.func7, Tryd.ntmps7
  go_upto_region 5 with (first
    | (go_at_call 12; refine (new_any _ HE.out).mono ?_; rintro e w1 ⟨rfl, hh, hb1⟩; have HF := Lib.hid (show Fq w1 w [] from ⟨hh, hb1⟩); have tok := True.intro; clear hh hb1)
    | (clear tok; go_at_call 13; refine (write_any w.heap.size [] [97, 98] _ 2 _ (HF.out.al _).hs ((HF.out.al _).env HE.out) HE.out.size ((rd0_const w1 5 [97, 98] (2, 3)).n (l := []) (by intro b off h; cases h; have := HF.out.hs.lt; omega)) (by decide) (by decide)).mono ?_; rintro e w2 ⟨rfl, hh, hO⟩; have HF2 := Lib.hid ((HF.out.al _).wr hh hO); clear hh hO HF)
    | (go_at_call 13; refine (write_any w.heap.size ([] ++ [97, 98]) [99] _ 1 _ (HF2.out.al _).hs ((HF2.out.al _).env HE.out) HE.out.size ((rd0_const w2 5 [99] (1, 2)).n (l := []) (by intro b off h; cases h; have := HF2.out.hs.lt; omega)) (by decide) (by decide)).mono ?_; rintro e w3 ⟨rfl, hh, hO⟩; have HF := Lib.hid (show Fq w3 w [97, 98, 99] from (HF2.out.al _).wr hh hO); clear hh hO HF2))
  have heq := fun wx => run_eqIn8 S HL.out wx
  go_wp2_with (first
    | (go_at_call 9; refine (sum_any _ 3 [97, 98, 99] _ (rd0_const w3 5 [97, 98, 99] (3, 4)) (by decide) ((HF.out.al _).env HE.out) (by decide) S hS).mono ?_; rintro e w4 ⟨rfl, hb9⟩; have HF4 := Lib.hid ((HF.out.al _).on hb9); have tok := True.intro; clear hb9 HF)
    | (clear tok; go_at_call 10; refine (HX.out _).mono ?_; rintro e w5 ⟨rfl, hb9⟩; have HF := Lib.hid (HF4.out.on hb9); clear hb9 HF4)
    | (go_at_call 10; refine (HX.out _).mono ?_; rintro e w7 ⟨rfl, hb9⟩; have HF7 := Lib.hid (HF6.out.on hb9); clear hb9 HF6)
    | (go_at_call 14; refine (hsum_eq w.heap.size [97, 98, 99] S hS _ HF.out.hs (HF.out.env HE.out) (by decide)).mono ?_; rintro e w6 ⟨rfl, hb9⟩; have HF6 := Lib.hid (HF.out.on hb9); clear hb9 HF)
    | (go_at_call 16; refine (parts_fix w7 S hS (HF7.out.env HE.out)).mono ?_; rintro e w8 ⟨rfl, hb9⟩; have HF8 := Lib.hid ((((HF7.out.al _).al _).al _).on hb9); clear hb9 HF7)
    | (go_at_call 14; refine (hsum_eq w.heap.size [97, 98, 99] S hS _ HF8.out.hs (HF8.out.env HE.out) (by decide)).mono ?_; rintro e w10 ⟨rfl, hb9⟩; have HF10 := Lib.hid (HF8.out.on hb9); clear hb9 HF8))
  go_ret
  exact ⟨by rfl, HF10.out.bel⟩
end Go.Proofs.YtjifjpfdfhaflaaDoor
