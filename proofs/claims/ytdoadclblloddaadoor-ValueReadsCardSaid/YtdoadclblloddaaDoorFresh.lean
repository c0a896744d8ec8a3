/-
  Contract: value.fresh at a tuple that has arguments.
-/
import Derived.Test.YtdoadclblloddaaDoorClone
import Derived.Deep.AppendLies
import Derived.StillTactics
import Derived.Deep.RegionLaw
import Derived.Laws.Pointers
namespace Go.Proofs.YtdoadclblloddaaDoor
open Go.RowKit Go.Sort

theorem info25 : (Tryd.prog.info? 25).map (fun i => (i.zero, i.size, i.bytes)) = some (some (.agg #[.string ⟨#[]⟩, .int .i64 0]), 2, 24) := by kernel_rfl
def encV (v : Vl) : List Value := [.string v.1, .int .i64 v.2]
def flatV (l : List Vl) : List Value := l.flatMap encV
theorem flatV_length (l : List Vl) : (flatV l).length = l.length * 2 := by
  unfold flatV
  induction l with
  | nil => rfl
  | cons x r ih => rw [List.flatMap_cons, List.length_append, ih]; simp [encV]; omega
theorem flatV_get (l : List Vl) (i : Nat) (hi : i < l.length) : (flatV l)[i * 2]? = some (.string l[i].1) ∧ (flatV l)[i * 2 + 1]? = some (.int .i64 l[i].2) := by
  unfold flatV
  induction l generalizing i with
  | nil => simp at hi
  | cons x r ih =>
    cases i with
    | zero => simp [encV]
    | succ i =>
      have := ih i (by simpa using hi)
      rw [List.flatMap_cons, List.getElem?_append_right (by simp [encV]; omega), List.getElem?_append_right (by simp [encV]; omega)]
      simpa [encV, Nat.succ_mul, show i * 2 + 2 - 2 = i * 2 by omega, show i * 2 + 2 + 1 - 2 = i * 2 + 1 by omega] using this
theorem flatV_one (l : List Vl) : ∀ u ∈ flatV l, u.oneCell' = true := by
  intro u hu
  obtain ⟨t, _, ht⟩ := List.mem_flatMap.1 hu
  simp [encV] at ht
  rcases ht with rfl | rfl <;> rfl
theorem flatV_cells {w : World} {B b off : Nat} {l : List Vl} (hl : 1 ≤ l.length) (h : Vals w B (some ⟨b, off, none⟩) l) : ∀ j u, (flatV l)[j]? = some u → w.cell? ((⟨b, off, none⟩ : Addr).add j) = some u := by
  intro j u hu
  have hj : j < l.length * 2 := by rw [← flatV_length]; exact (List.getElem?_eq_some_iff.1 hu).1
  obtain ⟨p, q⟩ := flatV_get l (j / 2) (by omega)
  rcases h with h | ⟨b', off', he, hb, hc⟩
  · subst h; simp at hl
  cases he
  have a := hc (j / 2) (by omega)
  rcases Nat.mod_two_eq_zero_or_one j with e | e
  · have e2 : j = j / 2 * 2 := by omega
    rw [show (flatV l)[j]? = (flatV l)[j / 2 * 2]? from congrArg _ e2, p] at hu
    rw [← Option.some.inj hu, ← a.1]
    rw [Addr.add_lit, ← e2]
  · have e2 : j = j / 2 * 2 + 1 := by omega
    rw [show (flatV l)[j]? = (flatV l)[j / 2 * 2 + 1]? from congrArg _ e2, q] at hu
    rw [← Option.some.inj hu, ← a.2]
    rw [Addr.add_lit, Nat.add_assoc, ← e2]
theorem vals_of_owns {w : World} {base g cap : Nat} {l : List Vl} (hg : g < w.heap.size) (h : w.ownsRow base 25 2 (.slice (some ⟨g, 0, none⟩) l.length cap) l.length (flatV l)) : Vals w w.heap.size (some ⟨g, 0, none⟩) l := by
  refine .inr ⟨g, 0, rfl, hg, fun i hi => ?_⟩
  obtain ⟨p, q⟩ := flatV_get l i hi
  rw [Nat.zero_add, h.cellAt (i * 2) (by omega), h.cellAt (i * 2 + 1) (by omega)]
  exact ⟨p, q⟩

theorem vals_setCell {w : World} {B b off : Nat} {q : Addr} {v : Value} {l : List Vl} (h : Vals w B (some ⟨b, off, none⟩) l) (hne : b ≠ q.block) : Vals (w.setCell q v) B (some ⟨b, off, none⟩) l := by
  rcases h with h | ⟨b', off', he, hb, hc⟩
  · exact .inl h
  · cases he
    refine .inr ⟨b, off, rfl, hb, fun i hi => ?_⟩
    have e : ∀ o, (w.setCell q v).cell? ⟨b, o, none⟩ = w.cell? ⟨b, o, none⟩ := fun o => World.cell?_of_block (w := w) (Below.heap_setCell w q v b hne)
    rw [e, e]; exact hc i hi

set_option maxHeartbeats 3200000 in
set_option maxRecDepth 100000 in
theorem fresh_any (b off c : Nat) (s : ByteArray) (l : List Vl) (w : World) (hl : 1 ≤ l.length) (h : Vals w w.heap.size (some ⟨b, off, none⟩) l) (hby : l.length * 24 ≤ 140737488355328) :
    Calls Tryd.prog 45 #[.agg #[.string s, .slice (some ⟨b, off, none⟩) l.length c]] w fun e w' => ∃ g cap, e = .returned (.agg #[.string s, .slice (some ⟨g, 0, none⟩) l.length cap]) ∧ w.heap.size ≤ g ∧ g < w'.heap.size ∧ Vals w' w'.heap.size (some ⟨g, 0, none⟩) l ∧ Below w.heap.size w w' := by
  obtain ⟨i0, hi, hz0, hz1, hz2⟩ := info_parts info25
  have hbl : b < w.heap.size := by
    rcases h with h | ⟨b', off', he, hb, _⟩
    · subst h; simp at hl
    · cases he; exact hb
  have HC := Lib.hid (show ∀ W', Below w.heap.size w W' → ∀ j u, (flatV l)[j]? = some u → W'.cell? ((⟨b, off, none⟩ : Addr).add j) = some u from fun W' hb => flatV_cells hl (h.below hb (Nat.le_refl _)))
  clear h
  have h63 : 0 + l.length ≤ maxLen := by unfold maxLen; omega
  have h64 : (0 + l.length) * 24 ≤ 140737488355328 := by omega
  have hm : 0 < l.length := by omega
  go_enter Tryd.func45, Tryd.ntmps45
  go_wp2_with fail
  go_region_law (refine step_append_lies _ (by rfl) _ _ _ (by rfl) w.heap.size 25 i0 _ 2 24 Tryd.underlying26 hi hz0 hz1 hz2 rfl (by omega) (.slice none 0 0) 0 [] (by rfl) (World.ownsRow_nil _ _ _ _) ⟨b, off, none⟩ l.length c (flatV l) (by rfl) (flatV_length l) (HC.out _ (by first | exact (below2 w _ _) | exact (below2 w _ _).drew)) (flatV_one l) hm h63 h64 (by simp; omega) (w.heap.size + 2) (by simp) ?_; intro gg cap w1 hown1 hgrow hat hlt; have q0 := hgrow.cell_far ⟨w.heap.size, 0, none⟩ (by simp; omega) (by simp [Value.ownBlock]); have q1 := hgrow.cell_far ⟨w.heap.size + 1, 0, none⟩ (by simp) (by simp [Value.ownBlock]); have q2 := hgrow.cell_far ⟨w.heap.size + 1, 1, none⟩ (by simp) (by simp [Value.ownBlock]); have q3 := hgrow.frozen_far ⟨w.heap.size + 1, 0, none⟩ (by simp) (by simp [Value.ownBlock]); have q4 := hgrow.frozen_far ⟨w.heap.size + 1, 1, none⟩ (by simp) (by simp [Value.ownBlock]))
  all_goals
    go_wp2_with fail
    simp only [Nat.zero_add, List.nil_append] at hown1
    obtain rfl : gg = w.heap.size + 2 := by rcases hat with h | h; · cases h
                                            · exact h
    have hv := vals_of_owns hlt hown1
    have hb1 : Below w.heap.size w w1 := (by first | exact Below.grown (row := none) (below2 w _ _) hgrow (by simp; omega) (fun k hk => by cases hk) | exact Below.grown (row := none) (below2 w _ _).drew hgrow (by simp; omega) (fun k hk => by cases hk))
    refine bodyPost_ret (v := .agg #[.string s, .slice (some ⟨w.heap.size + 2, 0, none⟩) l.length cap]) (by simp [results, Tryd.results45, go_sem, q1, q2]) rfl ⟨w.heap.size + 2, cap, rfl, by omega, by simpa using hlt, ?_, ?_⟩
    · simp only [World.size_setCell]
      exact vals_setCell (vals_setCell hv (by simp)) (by simp)
    · exact (hb1.setCell (by simp) _).setCell (by simp) _
end Go.Proofs.YtdoadclblloddaaDoor
