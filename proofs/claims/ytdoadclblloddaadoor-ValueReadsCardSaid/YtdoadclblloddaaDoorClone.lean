/-
  Contract: slices.Clone at value.tuples.
-/
import Derived.Test.YtdoadclblloddaaDoorSlice
namespace Go.Proofs.YtdoadclblloddaaDoor
open Go.RowKit Go.Sort

theorem info28 : (Tryd.prog.info? 28).map (fun i => (i.zero, i.size, i.bytes)) = some (some (.agg #[.string ⟨#[]⟩, .slice none 0 0]), 2, 40) := by kernel_rfl

/-- the row's cells, as one list -/
def flatL (d : Array Tp) : List Value := d.toList.flatMap encT
theorem flatL_length (d : Array Tp) : (flatL d).length = d.size * 2 := by
  unfold flatL
  obtain ⟨l⟩ := d
  show (l.flatMap encT).length = l.length * 2
  induction l with
  | nil => rfl
  | cons x r ih => rw [List.flatMap_cons, List.length_append, ih]; simp [encT]; omega
theorem flatL_get (d : Array Tp) (i : Nat) (hi : i < d.size) : (flatL d)[i * 2]? = some (.string d[i]!.pred) ∧ (flatL d)[i * 2 + 1]? = some (.slice d[i]!.ptr d[i]!.args.length d[i]!.cap) := by
  unfold flatL
  obtain ⟨l⟩ := d
  have hi' : i < l.length := hi
  have e : (⟨l⟩ : Array Tp)[i]! = l[i]! := by simp
  rw [e]
  clear e hi
  show (l.flatMap encT)[i * 2]? = _ ∧ (l.flatMap encT)[i * 2 + 1]? = _
  induction l generalizing i with
  | nil => simp at hi'
  | cons x r ih =>
    cases i with
    | zero => simp [encT]
    | succ i =>
      have := ih i (by simpa using hi')
      rw [List.flatMap_cons, List.getElem?_append_right (by simp [encT]; omega), List.getElem?_append_right (by simp [encT]; omega)]
      simpa [encT, Nat.succ_mul, show i * 2 + 2 - 2 = i * 2 by omega, show i * 2 + 2 + 1 - 2 = i * 2 + 1 by omega] using this

theorem flatL_one (d : Array Tp) : ∀ u ∈ flatL d, u.oneCell' = true := by
  intro u hu
  obtain ⟨t, _, ht⟩ := List.mem_flatMap.1 hu
  simp [encT] at ht
  rcases ht with rfl | rfl <;> rfl
theorem flatL_cells {w : World} {b off : Nat} {d : Array Tp} (h : Rw w b off d) : ∀ j u, (flatL d)[j]? = some u → w.cell? ((⟨b, off, none⟩ : Addr).add j) = some u := by
  intro j u hu
  have hj : j < d.size * 2 := by rw [← flatL_length]; exact (List.getElem?_eq_some_iff.1 hu).1
  obtain ⟨p, q⟩ := flatL_get d (j / 2) (by omega)
  have a := h.at (i := j / 2) (by omega)
  rcases Nat.mod_two_eq_zero_or_one j with e | e
  · have e2 : j = j / 2 * 2 := by omega
    rw [show (flatL d)[j]? = (flatL d)[j / 2 * 2]? from congrArg _ e2, p] at hu
    rw [← Option.some.inj hu, ← a.c0]
    rw [Addr.add_lit, ← e2]
  · have e2 : j = j / 2 * 2 + 1 := by omega
    rw [show (flatL d)[j]? = (flatL d)[j / 2 * 2 + 1]? from congrArg _ e2, q] at hu
    rw [← Option.some.inj hu, ← a.c1]
    rw [Addr.add_lit, Nat.add_assoc, ← e2]

theorem rw_of_owns {w : World} {base g cap : Nat} {d : Array Tp} (h : w.ownsRow base 28 2 (.slice (some ⟨g, 0, none⟩) d.size cap) d.size (flatL d)) : Rw w g 0 d := by
  intro j hj
  rw [size_flatK] at hj
  rw [Nat.zero_add, get_flatK _ _ _ _ hj]
  refine ⟨?_, h.frozenAt j⟩
  rw [h.cellAt j hj]
  obtain ⟨a, b⟩ := flatL_get d (j / 2) (by omega)
  rcases Nat.mod_two_eq_zero_or_one j with e | e
  · rw [e, show j = j / 2 * 2 by omega, show j / 2 * 2 / 2 = j / 2 by omega, a]; rfl
  · rw [e]
    have e2 : j = j / 2 * 2 + 1 := by omega
    rw [show (flatL d)[j]? = (flatL d)[j / 2 * 2 + 1]? from congrArg _ e2, b]; rfl

theorem owned_form {w : World} {base n : Nat} {e : TypeId} {size : Nat} {v : Value} {xs : List Value} (h : w.ownsRow base e size v n xs) (hn : 1 ≤ n) : ∃ g cap, v = .slice (some ⟨g, 0, none⟩) n cap ∧ base ≤ g ∧ g < w.heap.size := by
  obtain ⟨_, h⟩ := h
  rcases h with ⟨_, h⟩ | ⟨g, cap, cur, hv, hb, hc, _⟩
  · omega
  · refine ⟨g, cap, hv, hb, ?_⟩
    rcases Nat.lt_or_ge g w.heap.size with h' | h'
    · exact h'
    · rw [Array.getElem?_eq_none h'] at hc; cases hc

set_option maxHeartbeats 2000000 in
set_option maxRecDepth 100000 in
theorem clone_any (b off c : Nat) (d : Array Tp) (w : World) (h : Rw w b off d) (hn : 1 ≤ d.size) (hbl : b < w.heap.size) (hby : d.size * 40 ≤ 140737488355328) :
    Calls Tryd.prog 42 #[.slice (some ⟨b, off, none⟩) d.size c] w fun e w' => ∃ g cap, e = .returned (.slice (some ⟨g, 0, none⟩) d.size cap) ∧ w.heap.size ≤ g ∧ g < w'.heap.size ∧ Rw w' g 0 d ∧ Below w.heap.size w w' := by
  obtain ⟨i0, hi, hz0, hz1, hz2⟩ := info_parts info28
  have H := Lib.hid h
  clear h
  have hne := fun wx => Lib.run_eql_slice_nil (P := Tryd.prog) wx 60 28 (some ⟨b, off, none⟩) d.size c 0 0 underly60
  have hown : (w.alloc (.cells #[] 28)).ownsRow w.heap.size 28 2 (.slice (some ⟨w.heap.size, 0, none⟩) 0 0) 0 [] := World.ownsRow_made w #[] 0 (Nat.le_refl _) (by decide) (by simp)
  have HO := Lib.hid hown
  have h63 : 0 + d.size ≤ maxLen := by unfold maxLen; omega
  have h64 : (0 + d.size) * 40 ≤ 140737488355328 := by omega
  have h65 : w.heap.size ≤ (w.alloc (.cells #[] 28)).heap.size := by simp
  have HC := Lib.hid (flatL_cells (H.out.below ((Below.refl _ _).alloc (Nat.le_refl _) (.cells #[] 28)) hbl))
  clear hown
  go_enter Tryd.func42, Tryd.ntmps42
  go_wp2_with (at_builtin; refine wpList_append_own _ rfl _ _ 60 rfl w.heap.size 28 i0 (.agg #[.string ⟨#[]⟩, .slice none 0 0]) 2 40 underly60 hi hz0 hz1 hz2 rfl (by decide) _ _ _ rfl HO.out ⟨b, off, none⟩ d.size c (flatL d) rfl (flatL_length d) HC.out (flatL_one d) h63 h64 h65 ?_; intro v' w1 hown' hgrow _)
  simp only [Nat.zero_add, List.nil_append] at hown'
  have hb : Below w.heap.size w w1 := ((Below.refl _ w).alloc (Nat.le_refl _) _).grown hgrow (by simp) (fun k hk => Nat.le_of_eq (Option.some.inj hk))
  obtain ⟨g, cap, rfl, hg, hg2⟩ := owned_form hown' (by omega)
  have hr := rw_of_owns hown'
  go_ret
  exact ⟨g, cap, rfl, hg, hg2, hr, hb⟩
end Go.Proofs.YtdoadclblloddaaDoor
