/-
  Contracts: sha.word, sha.putWord.
-/
import Derived.Test.YtooiaadnhglifaaDoorRot
set_option linter.unusedVariables false
set_option linter.unusedSimpArgs false
namespace Go.Proofs.YtooiaadnhglifaaDoor
open Go.RowKit

theorem u8_lt (c : UInt8) : c.toNat < 256 := c.toNat_lt
def wdS (c0 c1 c2 c3 : UInt8) : UInt32 := UInt32.ofNat (c0.toNat * 16777216 + c1.toNat * 65536 + c2.toNat * 256 + c3.toNat)
theorem or4 (a b c d : Nat) (hb : b < 256) (hc : c < 256) (hd : d < 256) : a * 16777216 ||| b * 65536 ||| c * 256 ||| d = a * 16777216 + b * 65536 + c * 256 + d := by
  have e1 := Nat.two_pow_add_eq_or_of_lt (i := 24) (b := b * 65536) (by omega) a
  have e2 := Nat.two_pow_add_eq_or_of_lt (i := 16) (b := c * 256) (by omega) (a * 256 + b)
  have e3 := Nat.two_pow_add_eq_or_of_lt (i := 8) (b := d) (by omega) (a * 65536 + b * 256 + c)
  rw [show a * 16777216 = 2 ^ 24 * a by omega, ← e1, show 2 ^ 24 * a + b * 65536 = 2 ^ 16 * (a * 256 + b) by omega, ← e2, show 2 ^ 16 * (a * 256 + b) + c * 256 = 2 ^ 8 * (a * 65536 + b * 256 + c) by omega, ← e3]
  
theorem word_val (c0 c1 c2 c3 : UInt8) : bits .or .u32 (bits .or .u32 (bits .or .u32 ((c0.toNat : Int) * 16777216) ((c1.toNat : Int) * 65536)) ((c2.toNat : Int) * 256)) (c3.toNat : Int) = ((wdS c0 c1 c2 c3).toNat : Int) := by
  have h0 := u8_lt c0
  have h1 := u8_lt c1
  have h2 := u8_lt c2
  have h3 := u8_lt c3
  have e0 : (c0.toNat : Int) * 16777216 = ((c0.toNat * 16777216 : Nat) : Int) := by simp
  have e1 : (c1.toNat : Int) * 65536 = ((c1.toNat * 65536 : Nat) : Int) := by simp
  have e2 : (c2.toNat : Int) * 256 = ((c2.toNat * 256 : Nat) : Int) := by simp
  have l1 : c0.toNat * 16777216 ||| c1.toNat * 65536 < 4294967296 := Nat.or_lt_two_pow (n := 32) (by omega) (by omega)
  have l2 : c0.toNat * 16777216 ||| c1.toNat * 65536 ||| c2.toNat * 256 < 4294967296 := Nat.or_lt_two_pow (n := 32) l1 (by omega)
  rw [e0, e1, e2, u32_or_nat _ _ (by omega) (by omega), u32_or_nat _ _ l1 (by omega), u32_or_nat _ _ l2 (by omega), or4 _ _ _ _ h1 h2 h3, wdS, UInt32.toNat_ofNat_of_lt' (by show _ < 4294967296; omega)]

set_option maxHeartbeats 1000000 in
theorem word_any (b off len cap : Nat) (c0 c1 c2 c3 : UInt8) (w : World) (hl : 4 ≤ len) (hm : len ≤ 9223372036854775807)
    (h0 : w.cell? ⟨b, off, none⟩ = some (B8 c0)) (h1 : w.cell? ⟨b, off + 1, none⟩ = some (B8 c1)) (h2 : w.cell? ⟨b, off + 2, none⟩ = some (B8 c2)) (h3 : w.cell? ⟨b, off + 3, none⟩ = some (B8 c3)) :
    Calls Tryd.prog 81 #[.slice (some ⟨b, off, none⟩) len cap] w fun e w' => e = .returned (W32 (wdS c0 c1 c2 c3)) ∧ ∃ n, w' = w.drewN n := by
  have hv := Lib.hid (word_val c0 c1 c2 c3)
  have l0 := u8_lt c0
  have l1 := u8_lt c1
  have l2 := u8_lt c2
  have l3 := u8_lt c3
  unfold W32
  unfold B8 at h0 h1 h2 h3
  go_enter Tryd.func81, Tryd.ntmps81
  go_wp2
  go_quiet (fail)
  go_wp2
  go_ret
  exact ⟨ret_int hv.out, _, rfl⟩

theorem u8_wrap (x : UInt32) (k : Nat) : IntKind.u8.wrap (((x.toNat / k : Nat)) : Int) = ((UInt8.ofNat (x.toNat / k)).toNat : Int) := by
  rw [IntKind.wrap_u8', UInt8.toNat_ofNat']; simp
set_option maxHeartbeats 1000000 in
theorem putw_run (b off len cap : Nat) (x : UInt32) (w : World) (hl : 4 ≤ len) (hm : len ≤ 9223372036854775807)
    (h0 : (w.cell? ⟨b, off, none⟩).isSome = true) (h1 : (w.cell? ⟨b, off + 1, none⟩).isSome = true) (h2 : (w.cell? ⟨b, off + 2, none⟩).isSome = true) (h3 : (w.cell? ⟨b, off + 3, none⟩).isSome = true)
    (f0 : w.frozen? ⟨b, off, none⟩ = false) (f1 : w.frozen? ⟨b, off + 1, none⟩ = false) (f2 : w.frozen? ⟨b, off + 2, none⟩ = false) (f3 : w.frozen? ⟨b, off + 3, none⟩ = false) :
    Calls Tryd.prog 78 #[.slice (some ⟨b, off, none⟩) len cap, W32 x] w fun e w' => e = .returned (.tuple #[]) ∧ w' = w.setCells b off (cells8 (by4S x)) := by
  have hx := u32_lt x
  unfold W32
  obtain ⟨v0, g0⟩ := Option.isSome_iff_exists.1 h0
  obtain ⟨v1, g1⟩ := Option.isSome_iff_exists.1 h1
  obtain ⟨v2, g2⟩ := Option.isSome_iff_exists.1 h2
  obtain ⟨v3, g3⟩ := Option.isSome_iff_exists.1 h3
  clear h0 h1 h2 h3
  go_enter Tryd.func78, Tryd.ntmps78
  go_wp2
  go_end0
  have e0 := u8_wrap x 16777216
  have e1 := u8_wrap x 65536
  have e2 := u8_wrap x 256
  have e3 := u8_wrap x 1
  rw [IntKind.wrap_u8'] at e0 e1 e2 e3
  have e0' : (x.toNat : Int) / 16777216 = ((UInt8.ofNat (x.toNat / 16777216)).toNat : Int) := by rw [← e0]; omega
  have e1' : (x.toNat : Int) / 65536 % 256 = ((UInt8.ofNat (x.toNat / 65536)).toNat : Int) := by rw [← e1]; simp
  have e2' : (x.toNat : Int) / 256 % 256 = ((UInt8.ofNat (x.toNat / 256)).toNat : Int) := by rw [← e2]; simp
  have e3' : (x.toNat : Int) % 256 = ((UInt8.ofNat x.toNat).toNat : Int) := by rw [Nat.div_one] at e3; rw [← e3]
  rw [e0', e1', e2', e3']
  exact ⟨rfl, rfl⟩

theorem Bk.sets {b : Nat} {T : TypeId} : ∀ (vs : List Value) (o : Nat) (w : World) (l : List Value), Bk w b T l.toArray → o + vs.length ≤ l.length → Bk (w.setCells b o vs) b T (splice l o vs).toArray
  | [], o, w, l, h, _ => by simpa [World.setCells, splice] using h
  | v :: r, o, w, l, h, hf => by
    have hs := h.set o v
    rw [show l.toArray.setIfInBounds o v = (l.set o v).toArray by simp] at hs
    have := Bk.sets r (o + 1) _ _ hs (by simp at hf ⊢; omega)
    rw [World.setCells]
    have e : splice (l.set o v) (o + 1) r = splice l o (v :: r) := by
      simp only [List.length_cons] at hf
      unfold splice
      rw [List.drop_set_of_lt (by omega), List.take_set, List.length_cons, show o + 1 + r.length = o + (r.length + 1) by omega]
      rw [List.take_succ_eq_append_getElem (by omega), List.set_append_right _ _ (by simp; omega)]
      simp [show min o l.length = o by omega]
    rw [← e]; exact this
theorem Only.sets (b : Nat) : ∀ (vs : List Value) (o : Nat) (w : World), Only b w (w.setCells b o vs)
  | [], _, w => Only.refl b w
  | v :: r, o, w => (Only.set b w o v).trans (Only.sets b r (o + 1) _)
theorem cells8_len (l : List UInt8) : (cells8 l).length = l.length := by simp [cells8]
theorem cells32_len (l : List UInt32) : (cells32 l).length = l.length := by simp [cells32]
/-- sha.putWord into a block that is known whole -/
theorem putw_any (b off len cap : Nat) (x : UInt32) (w : World) (T : TypeId) (l : List Value) (hl : 4 ≤ len) (hm : len ≤ 9223372036854775807) (hB : Bk w b T l.toArray) (ho : off + 4 ≤ l.length) :
    Calls Tryd.prog 78 #[.slice (some ⟨b, off, none⟩) len cap, W32 x] w fun e w' => e = .returned (.tuple #[]) ∧ Bk w' b T (splice l off (cells8 (by4S x))).toArray ∧ Only b w w' := by
  have hc : ∀ i, i < l.length → (w.cell? ⟨b, i, none⟩).isSome = true := fun i hi => by rw [hB.cell i l[i] (by simp [hi])]; rfl
  refine (putw_run b off len cap x w hl hm (hc _ (by omega)) (hc _ (by omega)) (hc _ (by omega)) (hc _ (by omega)) (hB.soft _) (hB.soft _) (hB.soft _) (hB.soft _)).mono ?_
  rintro e w' ⟨he, rfl⟩
  exact ⟨he, Bk.sets _ _ _ _ hB (by simp [cells8_len, by4S]; omega), Only.sets _ _ _ _⟩
end Go.Proofs.YtooiaadnhglifaaDoor
