/-
  Helpers: lists of values and their numbers, copies.
-/
import Derived.Test.YtdoadclblloddabSame
namespace Go.Proofs.Ytdoadclblloddab
open Go.RowKit Go.Maps Go.WideMaps
namespace BackLaw

theorem addAll_len (l vs : List Vl) : (addAll l vs).length ≤ l.length + vs.length := by
  induction vs generalizing l with
  | nil => simp [addAll]
  | cons v r ih =>
    have h := ih (addV l v)
    have h2 : (addV l v).length ≤ l.length + 1 := by unfold addV; split <;> simp
    show (addAll (addV l v) r).length ≤ _
    simp only [List.length_cons]; omega
theorem addAll_in (l vs : List Vl) (h : ∀ v ∈ vs, v ∈ l) : addAll l vs = l := by
  induction vs with
  | nil => rfl
  | cons v r ih =>
    show addAll (addV l v) r = l
    have e : addV l v = l := by unfold addV; rw [if_pos (h v (by simp))]
    rw [e]; exact ih (fun u hu => h u (by simp [hu]))
theorem sel_pos (l F vs : List Vl) (h : ∀ v ∈ vs, v ∈ l) (hp : l <+: F) : sel F (vs.map fun v => posOf l v) = vs := by
  unfold sel
  rw [List.map_map]
  conv => rhs; rw [← List.map_id vs]
  apply List.map_congr_left
  intro v hv
  have h1 := posOf_lt (h v hv)
  have h2 := posOf_get (h v hv)
  have h3 : posOf l v < F.length := Nat.lt_of_lt_of_le h1 hp.length_le
  show F.getD (posOf l v) zv = v
  rw [List.getD_eq_getElem?_getD, List.getElem?_eq_getElem h3, ← hp.getElem h1]
  exact h2
/-- a row of numbers reads as a list -/
theorem ints_row {w : World} {R : Nat} {ks : List Nat} (h : RowOf w R 3 (ks.map num)) {B : Nat} (hB : R < B) : Ints w B (some ⟨R, 0, none⟩) (ints ks) :=
  .inr ⟨R, 0, rfl, hB, fun i hi => by
    have hi' : i < ks.length := by simpa [ints] using hi
    rw [h.cell, Nat.zero_add, List.getElem?_map, List.getElem?_eq_getElem hi']
    simp [num, ints]⟩
theorem vals_row {w : World} {R : Nat} {vs : List Vl} (h : RowOf w R 28 (flatV vs)) {B : Nat} (hB : R < B) : Vals w B (some ⟨R, 0, none⟩) vs :=
  .inr ⟨R, 0, rfl, hB, fun i hi => by
    obtain ⟨p, q⟩ := flatV_get vs i hi
    rw [h.cell, h.cell, Nat.zero_add]; exact ⟨p, q⟩⟩

/-- Row of a copy: what it leaves, whatever the list. -/
theorem row_either (w : World) {pb bm : Nat} {sv : Value} {l : List Vl} (h : Pool w pb bm sv l) (g : Nat) (vs : List Vl) (c : Nat) (hv : Vals w w.heap.size (some ⟨g, 0, none⟩) vs) (hoff : Off pb bm sv g) (ho : OkAll vs) (hm : vs.length ≤ 200) (hl : l.length ≤ 3000) :
    Calls Try.prog 7 #[.pointer (some ⟨pb, 0, none⟩), .slice (some ⟨g, 0, none⟩) vs.length c] w fun e w' => ∃ r er sv' l', e = .returned (.tuple #[r, .int .i64 er]) ∧ Pool w' pb bm sv' l' ∧ Turned w w' pb bm sv sv' ∧ l <+: l' ∧ l'.length ≤ l.length + 200 := by
  cases hg : goodAll vs
  · refine (row_bad w _ _ vs c hv ho (by unfold maxLen; omega) hg).mono ?_
    rintro e w' ⟨rfl, hb⟩
    exact ⟨_, _, sv, l, rfl, h.below hb, Turned.of_below _ _ _ hb, List.prefix_refl _, by omega⟩
  · have hle := addAll_len l vs
    refine (row_ok w h _ vs c hv (fun b off e => by cases e; exact hoff) ho (by unfold maxLen; omega) (by omega) hg (by omega)).mono ?_
    rintro e w' ⟨R, sv', rfl, hp, ht, _, _, _⟩
    exact ⟨_, _, sv', _, rfl, hp, ht, addAll_prefix _ _, by omega⟩

/-- Row of a good copy. -/
theorem row_good (w : World) {pb bm : Nat} {sv : Value} {l : List Vl} (h : Pool w pb bm sv l) (g : Nat) (vs : List Vl) (c : Nat) (hv : Vals w w.heap.size (some ⟨g, 0, none⟩) vs) (hoff : Off pb bm sv g) (ho : OkAll vs) (hm : vs.length ≤ 200) (hl : l.length ≤ 3000) (hg : goodAll vs = true) :
    Calls Try.prog 7 #[.pointer (some ⟨pb, 0, none⟩), .slice (some ⟨g, 0, none⟩) vs.length c] w fun e w' => ∃ R sv', e = .returned (.tuple #[.slice (some ⟨R, 0, none⟩) vs.length vs.length, .int .i64 0]) ∧ Pool w' pb bm sv' (addAll l vs) ∧ Turned w w' pb bm sv sv' ∧ RowOf w' R 3 ((vs.map fun v => posOf (addAll l vs) v).map num) ∧ w.heap.size ≤ R ∧ Off pb bm sv' R := by
  have hle := addAll_len l vs
  refine (row_ok w h _ vs c hv (fun b off e => by cases e; exact hoff) ho (by unfold maxLen; omega) (by omega) hg (by omega)).mono ?_
  rintro e w' ⟨R, sv', rfl, hp, ht, hr, hz, hO⟩
  exact ⟨R, sv', rfl, hp, ht, by rw [List.map_map]; exact hr, hz, hO⟩

theorem copy_pool {w wc : World} {pb bm : Nat} {sv : Value} {l : List Vl} (h : Pool w pb bm sv l) (o : Obj) (hb : Below w.heap.size (w.alloc o) wc) : Pool wc pb bm sv l := h.kept fun b hb' _ => (hb.block b hb').trans (Below.heap_alloc w o b hb')
theorem copy_off {w : World} {pb bm B g : Nat} {sv : Value} {l : List Vl} (h : Pool w pb bm sv l) (hB : w.heap.size ≤ B) (hg : B ≤ g) : Off pb bm sv g := h.off (Nat.le_trans hB hg)

theorem two {w : World} {B : Nat} {p : Option Addr} {vs : List Vl} (h : Vals w B p vs) (k j : Nat) (hk : k < vs.length) (hj : j < vs.length) : ∃ b off, p = some ⟨b, off, none⟩ ∧ b < B ∧ w.cell? ⟨b, off + k * 2, none⟩ = some (.string vs[k].1) ∧ w.cell? ⟨b, off + k * 2 + 1, none⟩ = some (.int .i64 vs[k].2) ∧ w.cell? ⟨b, off + j * 2, none⟩ = some (.string vs[j].1) ∧ w.cell? ⟨b, off + j * 2 + 1, none⟩ = some (.int .i64 vs[j].2) := by
  rcases h with h | ⟨b, off, rfl, hl, hc⟩
  · subst h; simp at hk
  · exact ⟨b, off, rfl, hl, (hc k hk).1, (hc k hk).2, (hc j hj).1, (hc j hj).2⟩
theorem pos_cell {w : World} {R : Nat} {L l : List Vl} (h : RowOf w R 3 ((l.map fun v => posOf L v).map num)) (k : Nat) (hk : k < l.length) : w.cell? ⟨R, k, none⟩ = some (.int .i64 (posOf L l[k])) := by
  rw [h.cell, List.getElem?_map, List.getElem?_map, List.getElem?_eq_getElem hk]; rfl
/-- two values are one just if their numbers are -/
theorem alike {L : List Vl} {u v : Vl} (hu : u ∈ L) (hv : v ∈ L) : ((posOf L u : Int) == (posOf L v : Int)) = (u.1.toList == v.1.toList && u.2 == v.2) := by
  by_cases h : u = v
  · subst h; simp
  · have h1 : (posOf L u : Int) ≠ (posOf L v : Int) := fun e => h (by
      have e : posOf L u = posOf L v := by omega
      have a := posOf_get hu
      have b := posOf_get hv
      rw [← a, ← b]
      congr 1)
    rw [beq_eq_false_iff_ne.2 h1]
    symm
    rw [Bool.and_eq_false_iff]
    by_cases h2 : u.2 = v.2
    · left
      rw [beq_eq_false_iff_ne]
      intro h3
      rw [ByteArray.toList_eq, ByteArray.toList_eq] at h3
      exact h (Prod.ext (ByteArray.ext (Array.toList_inj.1 h3)) h2)
    · right; rw [beq_eq_false_iff_ne]; exact h2

theorem below_copy {w wc : World} (o : Obj) (hb : Below w.heap.size (w.alloc o) wc) : Below w.heap.size w wc := (alloc_below w o).trans hb

end BackLaw
end Go.Proofs.Ytdoadclblloddab
