/-
  Links, and the contract of (*links).head.
-/
import Derived.Test.YtammglimobninaaDoorHcl
set_option linter.unusedVariables false
set_option linter.unusedSimpArgs false
namespace Go.Proofs.YtammglimobninaaDoor
open Go.RowKit Nm

/-- the beginning of an array -/
theorem run_slice_arr_to {P : Program} (t e : TypeId) (n : Nat) (hu : P.underlying t = some (.array n e)) (hs : (P.info? e).map (·.size) = some 1) (b o : Nat) (kl : IntKind) (i : Int) (l : Nat) (hi : i = (l : Int)) (h0 : 0 < n) (h : l ≤ n) (w : World) :
    (Instr.sliceAt t (.pointer (some ⟨b, o, none⟩)) none (some (.int kl i)) none).run P w = .ok (.slice (some ⟨b, o, none⟩) l n) w := by
  subst hi
  have ha : P.arrayLen t = n := by simp [Program.arrayLen, hu]
  have he : P.elem t = e := by simp [Program.elem, hu]
  rw [run_sliceAt_array_h w t ⟨b, o, none⟩ (by rw [ha, he]; exact hu) kl l (by omega) (by rw [ha]; omega), ha, he]
  cases hq : P.info? e with
  | none => simp [hq] at hs
  | some i =>
    have hz : i.size = 1 := by simpa [hq] using hs
    simp [sizeOf, typeInfo, hq, hz, slicedAt, Nat.ne_of_gt h0, Result.andThen, Addr.add]
/-- what binds entries lies in memory -/
structure Lk (X : World) (b o cut count : Nat) (sum : List UInt8) : Prop where
  cut : X.cell? ⟨b, o, none⟩ = some (.int .i64 cut)
  count : X.cell? ⟨b, o + 1, none⟩ = some (.int .i64 count)
  lies : X.rangeAt b (o + 2) (cells8 sum)
  len : sum.length = 32
theorem Lk.lt {X : World} {b o cut count : Nat} {sum : List UInt8} (h : Lk X b o cut count sum) : b < X.heap.size := lt_of_cell h.cut
theorem Lk.on {X X' : World} {b o cut count : Nat} {sum : List UInt8} (h : Lk X b o cut count sum) (hb : Below X.heap.size X X') : Lk X' b o cut count sum :=
  ⟨by rw [hb.cell (p := ⟨b, o, none⟩) h.lt]; exact h.cut, by rw [hb.cell (p := ⟨b, o + 1, none⟩) h.lt]; exact h.count, fun j v hv => by rw [hb.cell (p := ⟨b, o + 2 + j, none⟩) h.lt]; exact h.lies j v hv, h.len⟩
theorem Lk.rd {X : World} {b o cut count : Nat} {sum : List UInt8} (h : Lk X b o cut count sum) : Rd0 X (some ⟨b, o + 2, none⟩) sum := .inr ⟨b, o + 2, rfl, h.lt, h.lies⟩
theorem Rd0.take {w : World} {q : Option Addr} {m : List UInt8} (h : Rd0 w q m) (k : Nat) : Rd0 w q (m.take k) := by
  rcases h with h | ⟨b, off, h1, h2, h3⟩
  · subst h; exact .inl (by simp)
  · refine .inr ⟨b, off, h1, h2, fun i v hv => h3 i v ?_⟩
    rw [show cells8 (m.take k) = (cells8 m).take k by simp [cells8, List.map_take], List.getElem?_take] at hv
    split at hv
    · exact hv
    · cases hv
theorem clone_at (b o n c : Nat) (m : List UInt8) (hn : n = m.length) (w : World) (hR : Rd0 w (some ⟨b, o, none⟩) m) (hz : m.length ≤ 1000000000) :
    Calls Tryd.prog 56 #[.slice (some ⟨b, o, none⟩) n c] w fun e w' => ∃ v', e = .returned v' ∧ Acc w' w.heap.size v' m ∧ Below w.heap.size w w' := by
  subst hn; exact clone_any b o c m w hR hz

set_option maxRecDepth 100000 in
set_option maxHeartbeats 1000000 in
theorem lhead_any (b o cut count : Nat) (sum : List UInt8) (w : World) (h : Lk w b o cut count sum) (hc : cut ≤ 32) :
    Calls Tryd.prog 39 #[.pointer (some ⟨b, o, none⟩)] w fun e w' => ∃ v', e = .returned v' ∧ Acc w' w.heap.size v' (sum.take cut) ∧ Below w.heap.size w w' := by
  have HD := Lib.hid (h.on (Below.refl _ _).drew)
  have hsl := fun wx => run_slice_arr_to (P := Tryd.prog) 22 5 32 Tryd.underlying22 (by kernel_rfl) b (o + 2) .i64 (cut : Int) cut rfl (by decide) hc wx
  have HC := Lib.hid hc
  have HTL := Lib.hid (show cut = (sum.take cut).length by rw [List.length_take, h.len]; omega)
  clear h hc
  go_enter Tryd.func39, Tryd.ntmps39
  go_upto_region 1 with (fail)
  have HS := Lib.hid (show ∀ X, Lk X b o cut count sum → X.cell? ⟨b, o, none⟩ = some (.int .i64 cut) from fun X h => h.cut)
  go_region_held3 (fun X => X.cell? ⟨b, o, none⟩ = some (.int .i64 cut)) (first | exact HS.out _ HD.out | exact HS.out _ HD2.out)
    (first
      | (go_at_call 56; refine (clone_at b (o + 2) cut 32 (sum.take cut) HTL.out _ (HD.out.rd.take cut) (by have := HTL.out; have := HC.out; omega)).mono ?_; rintro e w2 ⟨v2, rfl, hA, hb⟩; have HA := Lib.hid hA; have HB := Lib.hid hb; have HD2 := Lib.hid (HD.out.on hb); clear hA hb))
  go_wp2_with fail
  go_ret
  exact ⟨_, rfl, HA.out, ((Below.refl w.heap.size w).drew).trans HB.out⟩
end Go.Proofs.YtammglimobninaaDoor
