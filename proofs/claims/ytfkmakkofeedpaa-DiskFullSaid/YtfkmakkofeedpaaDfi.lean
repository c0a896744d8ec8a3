/-
  Contract: Disk.Files where there is power.
-/
import Derived.Test.YtfkmakkofeedpaaDfx
import Derived.Test.YtfkmakkofeedpaaDsi
set_option linter.unusedVariables false
set_option linter.unusedSimpArgs false
namespace Go.Proofs.Ytfkmakkofeedpaa
open Go.Maps Go.RowKit Go.Sort Go.Shelf

abbrev fKeys : Nat := 50
/-- slices.Sort's two contracts, at the fence that asks nothing -/
theorem sortsK (m : Nat) : AnyZ.SortsIn Try.prog Try.sorted49_ren Fence.wide m :=
  ⟨fun blk off cap ss W hH hblk hsz => callsIn_wide.2 (AnyM.slices_Sort_string Try.sort55 blk off cap ss W hH hblk hsz),
   fun p cap W => callsIn_wide.2 (AnyM.slices_Sort_string_none Try.sort55 p cap W)⟩
theorem keys_call (mb : Option Nat) (W : World) : Calls Try.prog 50 #[.map mb] W fun e w' => e = .returned (.func (.func 56) #[] #[.pointer (some ⟨W.heap.size, 0, none⟩)]) ∧ w' = W.alloc (.cells #[.map mb] 61) :=
  (callsIn_wide (n := 5)).1 (AnyZ.keys_in Try.keys50 Fence.wide 5 trivial rfl mb W)
set_option maxHeartbeats 1000000 in
theorem sorted_call {H : Type} (b nn : Nat) (D0 : DataW H) (R : Value → Option (DataW H × List MemPlace)) (w : World) (hown : w.ownsMap Try.prog 9 R b nn D0) (hmax : Maps.size D0 ≤ maxLen) (hbytes : Maps.size D0 * 16 ≤ 140737488355328) :
    Calls Try.prog 49 #[.func (.func 56) #[] #[.pointer (some ⟨w.heap.size, 0, none⟩)]] (w.alloc (.cells #[.map (some b)] 61)) fun e w' => ∃ (v : Value) (ss : List (List UInt8)), e = .returned v ∧ ss.Perm (strKeys D0) ∧
      w'.ownsRow (w.alloc (.cells #[.map (some b)] 61)).heap.size 9 1 v ss.length ((ss.mergeSort (fun x y => decide (x ≤ y))).map encStr) ∧ (v = .slice none 0 0 ↔ ss = []) ∧ Below (w.alloc (.cells #[.map (some b)] 61)).heap.size (w.alloc (.cells #[.map (some b)] 61)) w' := by
  have hbl := hown.lt
  have hseq : SeqGives Fence.wide 2 Try.prog 56 #[.pointer (some ⟨w.heap.size, 0, none⟩)] encStr (fun ss => ss.Perm (strKeys D0)) (Maps.size D0) (w.alloc (.cells #[.map (some b)] 61)) :=
    AnyZ.keys_gives (ρ := Try.keys50_ren) { Try.keys50 with } Fence.wide _ trivial rfl (by omega) w.heap.size b nn D0 _ (by simp) (by simp) (by
      obtain ⟨es, clock, hb, Ft, hs, hD⟩ := hown
      exact ⟨es, clock, (Below.heap_alloc _ _ b hbl).trans hb, Ft, hs, hD⟩)
  exact (callsIn_wide (n := 5)).1 (AnyZ.sorted_in Try.sorted49 Fence.wide 5 trivial trivial trivial trivial rfl (by omega) (sortsK _) (enters_of Try.func55 (by kernel_rfl) rfl) 56 #[.pointer (some ⟨w.heap.size, 0, none⟩)] trivial (enters_of Try.func56 (by kernel_rfl) rfl) _ _ hmax hbytes _ hseq)

theorem strKeys_datF (l : List Fil) : strKeys (datF l) = l.map (·.nm) := by
  show (l.map entF).map (fun p => strOf p.1) = _
  rw [List.map_map]
  rfl
set_option maxRecDepth 100000 in
theorem sd_files {X w : World} {s : DS} (h : Sd X w s) (ho : s.on = true) :
    Calls Try.prog 31 #[.pointer (some ⟨w.heap.size + 1, 0, none⟩)] X fun r w' => ∃ (v : Value) (ss : List (List UInt8)), r = .returned v ∧ ss.Perm (s.fs.map (·.nm)) ∧
      w'.ownsRow X.heap.size 9 1 v ss.length ((ss.mergeSort (fun x y => decide (x ≤ y))).map encStr) ∧ Below X.heap.size X w' := by
  obtain ⟨O, mb, l, hD, hfs, rfl⟩ := h.dk
  clear h
  rw [ho] at hD
  have HD := Lib.hid hD
  obtain ⟨c0, c1, c2, s0, s1, s2⟩ := hD.cells
  have hsz : Maps.size (datF l) = l.length := datF_size l
  have HC := Lib.hid (fun wx (hwx : wx = X) => sorted_call mb l.length (datF l) ptrE X hD.map (by have := hD.le; unfold maxLen; omega) (by have := hD.le; omega))
  have hk : s.fs.map (·.nm) = l.map (·.nm) := by rw [hfs, List.map_map]; rfl
  rw [hk]
  have HP := Lib.hid (strKeys_datF l)
  clear hD hsz hk hfs ho
  go_enter Try.func31, Try.ntmps31
  go_wp2_with (first
    | (go_at_call 29; refine (on_any _ _ mb l _ _ _ HD.out).mono ?_; rintro r w1 ⟨rfl, rfl⟩)
    | (go_at_call 50; go_loud (refine (keys_call _ _).mono ?_; rintro r w2 ⟨rfl, rfl⟩))
    | (go_at_call 49; refine (HC.out X rfl).mono ?_; rintro r w3 ⟨v, ss, rfl, hp, hrow, _, hb⟩; rw [HP.out] at hp; have HR := Lib.hid (And.intro hp (And.intro hrow hb)); clear hp hrow hb))
  go_ret
  exact ⟨v, ss, rfl, HR.out.1, ownsRow_base_a HR.out.2.1 (by simp), ((Below.refl _ X).alloc (Nat.le_refl _) _).trans (HR.out.2.2.mono (by simp))⟩
end Go.Proofs.Ytfkmakkofeedpaa
