/-
  Contracts: Disk.Read, New; bytes.Clone.
-/
import Derived.Test.YtfkmakkofeedpaaDct
set_option linter.unusedVariables false
set_option linter.unusedSimpArgs false
namespace Go.Proofs.Ytfkmakkofeedpaa
open Go.Maps Go.RowKit

set_option maxRecDepth 100000 in
/-- a copy, or nil of nil -/
theorem cloneD (q : Option Addr) (n c : Nat) (m : List UInt8) (hn : n = m.length) (w : World) (hR : Rd0 w q m) (hz : m.length ≤ 1000000000) (hq : q = none ∨ ∃ b o, q = some ⟨b, o, none⟩) :
    Calls Try.prog 48 #[.slice q n c] w fun e w' => ∃ v', e = .returned v' ∧ Acc w' w.heap.size v' m ∧ Below w.heap.size w w' := by
  subst hn
  have HR := Lib.hid hR
  rcases hq with rfl | ⟨b, o, rfl⟩
  · have hm : m = [] := by
      rcases hR with h | ⟨_, _, h, _⟩
      · exact h
      · cases h
    subst hm
    clear hR HR
    have hcmp : ∀ wx : World, (binOp .eql 30 (.slice none ([] : List UInt8).length c) (.slice none 0 0)).run Try.prog wx = .ok (.bool true) wx := fun wx => by
      simp only [binOp]
      simp [run_equal_slice_nil wx 30 5 _ _ _ Try.underlying30]
    simp only [List.length_nil] at hcmp ⊢
    go_enter Try.func48, Try.ntmps48
    go_wp2_with fail
    go_ret
    exact ⟨_, rfl, acc_nil, Below.refl _ _⟩
  · clear hR
    have hcmp : ∀ wx : World, (binOp .eql 30 (.slice (some ⟨b, o, none⟩) m.length c) (.slice none 0 0)).run Try.prog wx = .ok (.bool false) wx := fun wx => by
      simp only [binOp]
      simp [run_equal_slice_nil wx 30 5 _ _ _ Try.underlying30]
    go_enter Try.func48, Try.ntmps48
    go_wp2_with (refine wpList_app8 rfl _ _ rfl rfl w.heap.size _ [] rfl (acc_made (w := w) (Nat.le_refl _)) _ m _ _ rfl rfl (HR.out.on (below1 _ _)) (by simp; omega) (by simp) ?_; intro v2 w2 hA hb; rw [List.nil_append] at hA; have HA := Lib.hid hA; have HB := Lib.hid ((below1 w (.cells #[] 5)).trans hb); clear hA hb)
    go_ret
    exact ⟨_, rfl, HA.out, HB.out⟩

set_option maxRecDepth 100000 in
theorem read_any (base d : Nat) (s : DS) (O : Nat → Prop) (nm : ByteArray) (hs : nm.size ≤ maxLen) (w : World) (h : Dk w base d s O) :
    Calls Try.prog 22 #[.pointer (some ⟨d, 0, none⟩), .string nm] w fun r w' => ∃ v, r = .returned (.tuple #[v, .int .i64 (readS s nm.data.toList).2]) ∧ Acc w' w.heap.size v (readS s nm.data.toList).1 ∧ Below w.heap.size w w' := by
  obtain ⟨mb, l, hD, hfs, rfl⟩ := h
  obtain ⟨fs, on, left⟩ := s
  simp only at hD hfs
  subst hfs
  have HF := Lib.hid (find_any base d mb l on left nm hs w hD)
  cases on with
  | false =>
    have HS := Lib.hid (show readS ⟨l.map absF, false, left⟩ nm.data.toList = ([], 20) by rfl)
    rw [show findP false (getF nm.data.toList l) = .pointer none from rfl, show findE false (getF nm.data.toList l) = 20 from rfl] at HF
    rw [HS.out]
    clear hD hs
    go_enter Try.func22, Try.ntmps22
    go_wp2_with (go_at_call 32; refine HF.out.mono ?_; rintro r w1 ⟨rfl, rfl⟩)
    exact bodyPost_ret (results_tmp2 rfl _ _ _) rfl ⟨_, rfl, acc_nil, Below.refl _ _⟩
  | true =>
    cases hg : getF nm.data.toList l with
    | none =>
      have HS := Lib.hid (show readS ⟨l.map absF, true, left⟩ nm.data.toList = ([], 4) by
        unfold readS; rw [if_neg (by simp), abs_get, hg]; rfl)
      rw [hg, show findP true none = .pointer none from rfl, show findE true none = 4 from rfl] at HF
      rw [HS.out]
      clear hD hs hg
      go_enter Try.func22, Try.ntmps22
      go_wp2_with (go_at_call 32; refine HF.out.mono ?_; rintro r w1 ⟨rfl, rfl⟩)
      exact bodyPost_ret (results_tmp2 rfl _ _ _) rfl ⟨_, rfl, acc_nil, Below.refl _ _⟩
    | some f =>
      obtain ⟨hf, hfn⟩ := getF_mem hg
      have HS := Lib.hid (show readS ⟨l.map absF, true, left⟩ nm.data.toList = (f.xs, 0) by
        unfold readS; rw [if_neg (by simp), abs_get, hg]; rfl)
      rw [hg, show findP true (some f) = .pointer (some ⟨f.blk, 0, none⟩) from rfl, show findE true (some f) = 0 from rfl] at HF
      rw [HS.out]
      obtain ⟨fc0, fc1, fs0, fs1, flt⟩ := hD.fcells hf
      have hA := (hD.row f hf).acc
      obtain ⟨p0, d0, hv0, hd0, hr0⟩ := hA.rd
      rw [hv0] at fc0
      have hform : p0 = none ∨ ∃ b o, p0 = some ⟨b, o, none⟩ := by
        rcases (hD.row f hf).2.2 with ⟨h2, _⟩ | ⟨g, cap, cur, h3, _⟩
        · rw [h2] at hv0; injection hv0 with e1; exact .inl e1.symm
        · rw [h3] at hv0; injection hv0 with e1; exact .inr ⟨g, 0, e1.symm⟩
      obtain ⟨L0, hL0⟩ : ∃ L0, f.xs.length = L0 := ⟨_, rfl⟩
      rw [hL0] at fc0
      have HC := Lib.hid (cloneD p0 L0 d0 f.xs hL0.symm w hr0 (by have := (hD.sz f hf).2.1; omega) hform)
      clear hD hs hg hf hfn hA hd0 hr0 hv0 hform hL0
      go_enter Try.func22, Try.ntmps22
      go_wp2_with (first
        | (go_at_call 32; refine HF.out.mono ?_; rintro r w1 ⟨rfl, rfl⟩)
        | (go_at_call 48; refine HC.out.mono ?_; rintro r w1 ⟨v1, rfl, hA1, hb1⟩; have HA1 := Lib.hid hA1; have HB1 := Lib.hid hb1; clear hA1 hb1))
      exact bodyPost_ret (results_tmp2 rfl _ _ _) rfl ⟨_, rfl, HA1.out, HB1.out⟩

set_option maxRecDepth 100000 in
theorem new_disk (w : World) :
    Calls Try.prog 9 #[] w fun r w' => r = .returned (.pointer (some ⟨w.heap.size + 1, 0, none⟩)) ∧ (∃ O, Dk w' w.heap.size (w.heap.size + 1) newS O) ∧ Below w.heap.size w w' := by
  have hmm := @run_makeMap Try.prog
  have hd : Dl ((w.alloc (.map #[] 0)).alloc (.cells #[.map (some w.heap.size), .bool true, .int .i64 (-1)] 63)) w.heap.size (w.heap.size + 1) w.heap.size [] true (-1) :=
    ⟨Bk.new' (N := w.heap.size + 1) (w.alloc (.map #[] 0)) (by simp) _ _, (mapF_made w Try.prog 9).kept (by rw [(below1 (w.alloc (.map #[] 0)) _).block w.heap.size (by simp)]),
      fun f hf => by (cases hf), fun f hf => by (cases hf), fun f hf => by (cases hf), List.Pairwise.nil, List.Pairwise.nil, ⟨by omega, Nat.le_refl _, fun f hf => by (cases hf)⟩, by omega, by simp⟩
  have HD := Lib.hid hd
  have HB := Lib.hid (below2 w (.map #[] 0) (.cells #[.map (some w.heap.size), .bool true, .int .i64 (-1)] 63))
  clear hd
  go_enter Try.func9, Try.ntmps9
  go_wp2_with fail
  go_ret
  exact ⟨rfl, ⟨_, w.heap.size, [], HD.out, rfl, rfl⟩, HB.out⟩
end Go.Proofs.Ytfkmakkofeedpaa
