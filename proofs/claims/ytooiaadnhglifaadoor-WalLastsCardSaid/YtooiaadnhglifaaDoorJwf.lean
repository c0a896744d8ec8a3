/-
  Wlp, Wlz, Wrw, joined.
-/
import Derived.Test.YtooiaadnhglifaaDoorJwe
namespace Go.Proofs.YtooiaadnhglifaaDoor
section
set_option linter.unusedVariables false
set_option linter.unusedSimpArgs false

/-- the files, all of them sure: a snapshot, a log from the number j + 1 on, and a tail that is no record -/
structure Cs (f : F3) (S : List (List UInt8)) (j : Nat) (Q : List (List UInt8)) (tail : List UInt8) : Prop where
  s : f.s = none ∧ S = [] ∨ f.s = some (Fc.sure (recsS 0 S))
  l : f.l = none ∧ Q = [] ∧ tail = [] ∨ f.l = some (Fc.sure (recsS j Q ++ tail))
  n : ∀ p, f.n = some p → ∃ xs, p = Fc.sure xs
  t : wholeS tail = none ∧ tail.length ≤ 1000
  hj : j ≤ S.length
  hjq : S.length ≤ j + Q.length
  hq : Q ≠ [] ∨ j = S.length
  hz : j + Q.length ≤ 100
  mS : ∀ m ∈ S, m.length ≤ 300
  mQ : ∀ m ∈ Q, m.length ≤ 300
/-- what is opened -/
def allC (S : List (List UInt8)) (j : Nat) (Q : List (List UInt8)) : List (List UInt8) := S ++ Q.drop (S.length - j)
section
variable {f : F3} {S Q : List (List UInt8)} {j : Nat} {tail : List UInt8}
theorem Cs.len (h : Cs f S j Q tail) : (allC S j Q).length = j + Q.length := by
  have := h.hj; have := h.hjq
  unfold allC
  rw [List.length_append, List.length_drop]
  omega
theorem Cs.all_le (h : Cs f S j Q tail) : ∀ m ∈ allC S j Q, m.length ≤ 300 := fun m hm => by
  rcases List.mem_append.1 hm with hm | hm
  · exact h.mS m hm
  · exact h.mQ m (List.mem_of_mem_drop hm)
theorem allC_snoc (hj : S.length ≤ j + Q.length) (hj2 : j ≤ S.length) (m : List UInt8) : allC S j (Q ++ [m]) = allC S j Q ++ [m] := by
  unfold allC
  rw [List.drop_append_of_le_length (by omega), List.append_assoc]
theorem Cs.at_s (h : Cs f S j Q tail) : (f.at_ .snap).1 = recsS 0 S := by
  unfold F3.at_ F3.get
  rcases h.s with ⟨h1, h2⟩ | h1
  · simp [h1, h2, recsS]
  · simp [h1, Fc.sure]
theorem Cs.at_l (h : Cs f S j Q tail) : (f.at_ .log).1 = recsS j Q ++ tail := by
  unfold F3.at_ F3.get
  rcases h.l with ⟨h1, h2, h3⟩ | h1
  · simp [h1, h2, h3, recsS]
  · simp [h1, Fc.sure]
theorem Cs.crash (h : Cs f S j Q tail) (on : Bool) (left keep : Int) : crashS ⟨f.fs, on, left⟩ keep = f.d (-1) := by
  have h1 : f.crash keep = f := by
    obtain ⟨a, b, c⟩ := f
    unfold F3.crash
    have e1 : a.map (crC keep) = a := by
      rcases h.l with ⟨h1, _⟩ | h1
      · cases h1; rfl
      · cases h1; simp [crC_sure]
    have e2 : b.map (crC keep) = b := by
      cases b with
      | none => rfl
      | some p => obtain ⟨xs, rfl⟩ := h.n p rfl; simp [crC_sure]
    have e3 : c.map (crC keep) = c := by
      rcases h.s with ⟨h1, _⟩ | h1
      · cases h1; rfl
      · cases h1; simp [crC_sure]
    simp only [e1, e2, e3]
  rw [f3_crash, h1]
theorem Cs.noN (h : Cs f S j Q tail) : Cs (f.set .next none) S j Q tail := ⟨h.s, h.l, fun p hp => (nomatch (show (none : Option Fc) = some p from hp)), h.t, h.hj, h.hjq, h.hq, h.hz, h.mS, h.mQ⟩
theorem Cs.noT (h : Cs f S j Q tail) (h0 : f.l = some (Fc.sure (recsS j Q ++ tail))) : Cs (f.set .log (some ((recsS j Q ++ tail).take (recsS j Q).length, min (recsS j Q ++ tail).length (recsS j Q).length))) S j Q [] := by
  refine ⟨h.s, .inr ?_, h.n, ⟨whole_nil, by simp⟩, h.hj, h.hjq, h.hq, h.hz, h.mS, h.mQ⟩
  show some _ = _
  rw [List.take_left, List.append_nil, List.length_append]
  congr 1
  unfold Fc.sure
  congr 1
  omega
theorem use_unit (left : Int) : (useS left 1).2.2 = true ∧ (left = -1 → (useS left 1).2.1 = -1) ∨ (useS left 1).2.2 = false ∧ left ≠ -1 := by
  unfold useS
  split
  · exact .inl ⟨rfl, fun h => h⟩
  · split
    · exact .inl ⟨rfl, fun h => by omega⟩
    · exact .inr ⟨rfl, by omega⟩
/-- an act that needs a unit: done or not -/
theorem unit_two (g : F3) (left : Int) (fs : List Fil) : (∃ l2, unitS (g.d left) fs = (⟨fs, true, l2⟩, 0) ∧ (left = -1 → l2 = -1)) ∨ (∃ on l2, unitS (g.d left) fs = (⟨g.fs, on, l2⟩, 20) ∧ left ≠ -1) := by
  unfold unitS
  rcases use_unit left with ⟨h1, h2⟩ | ⟨h1, h2⟩
  · rw [if_pos h1]; exact .inl ⟨_, rfl, h2⟩
  · rw [if_neg (by rw [h1]; simp)]; exact .inr ⟨_, _, rfl, h2⟩
/-- the log's file taken -/
theorem take_cs (h : Cs f S j Q tail) (hn : f.n = none) (left : Int) : ∃ f' tail' on l2, (takeS (f.d left) S).1.d = ⟨f'.fs, on, l2⟩ ∧ Cs f' S j Q tail' ∧
    (left = -1 → takeS (f.d left) S = (⟨f'.d (-1), allC S j Q, false⟩, 0) ∧ f'.n = none ∧ tail' = []) := by
  have h1 := takeS_gen f left S Q j tail h.at_l h.t.1 h.hj h.hjq h.hq (by have := h.hz; omega) (fun m hm => by have := h.mQ m hm; omega)
  rw [h1]
  by_cases ht : tail = []
  · rw [if_pos ht]
    exact ⟨f, tail, true, left, rfl, h, fun e => by subst e; exact ⟨rfl, hn, ht⟩⟩
  · rw [if_neg ht]
    have hl : f.get .log = some (Fc.sure (recsS j Q ++ tail)) := by
      rcases h.l with ⟨_, _, h2⟩ | h2
      · exact absurd h2 ht
      · exact h2
    have hc : cutS (f.d left) logN (((recsS j Q).length : Nat) : Int) = _ := f3_cut f left .log (recsS j Q).length _ hl (by show _ ≤ (recsS j Q ++ tail).length; rw [List.length_append]; omega)
    rw [hc]
    rcases unit_two f left (f.set .log (some ((Fc.sure (recsS j Q ++ tail)).1.take (recsS j Q).length, min (Fc.sure (recsS j Q ++ tail)).2 (recsS j Q).length))).fs with ⟨l2, h2, h3⟩ | ⟨on, l2, h2, h3⟩
    · rw [h2]
      exact ⟨_, [], true, l2, rfl, h.noT hl, fun e => by rw [h3 e]; exact ⟨rfl, hn, rfl⟩⟩
    · rw [h2]
      exact ⟨f, tail, on, l2, rfl, h, fun e => absurd e h3⟩
/-- Open, with power or without -/
theorem open_cs (h : Cs f S j Q tail) (left : Int) : ∃ f' tail' on l2, (wOpenS (f.d left)).1.d = ⟨f'.fs, on, l2⟩ ∧ Cs f' S j Q tail' ∧
    (left = -1 → wOpenS (f.d left) = (⟨f'.d (-1), allC S j Q, false⟩, 0) ∧ f'.n = none ∧ tail' = []) := by
  have key : ∀ (g : F3) (lf : Int) (a : DS × Int), Cs g S j Q tail → g.n = none → a.1 = g.d lf → thereE a.2 = 0 → remS (f.d left) nextN = a → (left = -1 → lf = -1) → ∃ f' tail' on l2, (wOpenS (f.d left)).1.d = ⟨f'.fs, on, l2⟩ ∧ Cs f' S j Q tail' ∧
      (left = -1 → wOpenS (f.d left) = (⟨f'.d (-1), allC S j Q, false⟩, 0) ∧ f'.n = none ∧ tail' = []) := by
    intro g lf a hg hgn ha hae hr hlf
    have h2 := snapS_gen g lf S hg.at_s (by have := hg.hjq; have := hg.hz; omega) (fun m hm => by have := hg.mS m hm; omega)
    have h4 : fileS (g.d lf) snapN = ((g.at_ .snap).1, 0) := f3_file g lf .snap
    have ho : wOpenS (f.d left) = takeS (g.d lf) S := by
      unfold wOpenS
      dsimp only
      rw [hr, hae, ha]
      rw [if_neg (by simp), h4]
      dsimp only
      rw [if_neg (by simp), h2]
    rw [ho]
    obtain ⟨f', tail', on, l2, h5, h6, h7⟩ := take_cs hg hgn lf
    exact ⟨f', tail', on, l2, h5, h6, fun e => h7 (hlf e)⟩
  cases hn : f.n with
  | none => exact key f left (f.d left, 4) h hn rfl rfl (f3_remove_none f left .next hn) id
  | some p =>
    have hr : remS (f.d left) nextN = _ := f3_remove f left .next p hn
    rcases unit_two f left (f.set .next none).fs with ⟨l2, h2, h3⟩ | ⟨on, l2, h2, h3⟩
    · exact key (f.set .next none) l2 _ h.noN rfl rfl rfl (hr.trans h2) h3
    · refine ⟨f, tail, on, l2, ?_, h, fun e => absurd e h3⟩
      unfold wOpenS
      dsimp only
      rw [hr, h2]
      rfl

theorem recs_le (h : Cs f S j Q tail) : (recsS 0 S).length ≤ 100000 ∧ (recsS j Q).length ≤ 100000 ∧ (recsS 0 (allC S j Q)).length ≤ 100000 := by
  have h1 := recsS_bound S 0 300 h.mS
  have h2 := recsS_bound Q j 300 h.mQ
  have h3 := recsS_bound (allC S j Q) 0 300 h.all_le
  rw [h.len] at h3
  have := h.hz; have := h.hjq
  have e1 : S.length * (300 + 17) ≤ 100 * 317 := Nat.mul_le_mul_right _ (by omega)
  have e2 : Q.length * (300 + 17) ≤ 100 * 317 := Nat.mul_le_mul_right _ (by omega)
  have e3 : (j + Q.length) * (300 + 17) ≤ 100 * 317 := Nat.mul_le_mul_right _ (by omega)
  omega
theorem file_le (g : F3) (on : Bool) (l2 : Int) (i : W3) : (fileS ⟨g.fs, on, l2⟩ i.nm).1.length ≤ (g.at_ i).1.length := by
  cases on with
  | true => rw [f3_file g l2 i]; exact Nat.le_refl _
  | false => unfold fileS readS; simp
theorem cs_sizes (h : Cs f S j Q tail) (left : Int) : (fileS (remS (f.d left) nextN).1 snapN).1.length ≤ 1500000 ∧ (fileS (remS (f.d left) nextN).1 logN).1.length ≤ 1500000 := by
  have hb := recs_le h
  have key : ∀ (g : F3) (on : Bool) (l2 : Int), Cs g S j Q tail → (fileS ⟨g.fs, on, l2⟩ snapN).1.length ≤ 1500000 ∧ (fileS ⟨g.fs, on, l2⟩ logN).1.length ≤ 1500000 := by
    intro g on l2 hg
    have h1 : (fileS ⟨g.fs, on, l2⟩ snapN).1.length ≤ _ := file_le g on l2 .snap
    have h2 : (fileS ⟨g.fs, on, l2⟩ logN).1.length ≤ _ := file_le g on l2 .log
    rw [hg.at_s] at h1
    rw [hg.at_l, List.length_append] at h2
    have := hg.t.2
    omega
  cases hn : f.n with
  | none =>
    have hr : remS (f.d left) nextN = _ := f3_remove_none f left .next hn
    rw [hr]
    exact key f true left h
  | some p =>
    have hr : remS (f.d left) nextN = _ := f3_remove f left .next p hn
    rcases unit_two f left (f.set .next none).fs with ⟨l2, h2, _⟩ | ⟨on, l2, h2, _⟩
    · rw [hr, h2]; exact key _ _ _ h.noN
    · rw [hr, h2]; exact key _ _ _ h
theorem Cs.more (h : Cs f S j Q []) (m : List UInt8) (hm : m.length ≤ 300) (hz : j + Q.length + 1 ≤ 100) (x : Option Fc) (hx : x = some (Fc.sure (recsS j Q ++ recS (j + Q.length + 1) m))) : Cs (f.set .log x) S j (Q ++ [m]) [] := by
  subst hx
  refine ⟨h.s, .inr ?_, h.n, ⟨whole_nil, by simp⟩, h.hj, ?_, .inl (by simp), ?_, h.mS, fun y hy => ?_⟩
  · show some _ = _
    rw [recsS_snocW, List.append_nil]
  · rw [List.length_append]; have := h.hjq; omega
  · rw [List.length_append]; simp; omega
  · rcases List.mem_append.1 hy with hy | hy
    · exact h.mQ y hy
    · obtain rfl := List.mem_singleton.1 hy; exact hm
theorem app_cs (h : Cs f S j Q []) (hn : f.n = none) (m : List UInt8) (hm : m.length ≤ 300) (hz : j + Q.length + 1 ≤ 100) :
    ∃ f', wAppS ⟨f.d (-1), allC S j Q, false⟩ m = (⟨f'.d (-1), allC S j (Q ++ [m]), false⟩, 0) ∧ Cs f' S j (Q ++ [m]) [] ∧ f'.n = none := by
  have hb := recs_le h
  have h1 := wapp_ever f (allC S j Q) m (by omega) (by rw [h.at_l, List.append_nil]; omega)
  rw [h.at_l, List.append_nil, h.len, ← allC_snoc h.hjq h.hj] at h1
  exact ⟨_, h1, h.more m hm hz _ rfl, hn⟩
theorem chk_cs (h : Cs f S j Q []) (hn : f.n = none) :
    ∃ f', wChkS ⟨f.d (-1), allC S j Q, false⟩ = (⟨f'.d (-1), allC S j Q, false⟩, 0) ∧ Cs f' (allC S j Q) (allC S j Q).length [] [] ∧ f'.n = none := by
  have hb := recs_le h
  refine ⟨_, wchk_ever f hn _ (by omega), ⟨.inr rfl, ?_, fun p hp => (nomatch (show (none : Option Fc) = some p from hp)), ⟨whole_nil, by simp⟩, Nat.le_refl _, Nat.le_add_right _ _, .inr rfl, by rw [h.len]; exact h.hz, h.all_le, fun m hm => by cases hm⟩, rfl⟩
  cases f.l with
  | none => exact .inl ⟨rfl, rfl, rfl⟩
  | some p => exact .inr rfl
theorem allC_nil (S : List (List UInt8)) (j : Nat) : allC S j [] = S := by simp [allC]
theorem crC_part (keep : Int) (xs r : List UInt8) : ∃ k, k ≤ r.length ∧ crC keep (xs ++ r, xs.length) = Fc.sure (xs ++ r.take k) := by
  refine ⟨min keep.toNat r.length, Nat.min_le_right _ _, ?_⟩
  unfold crC Fc.sure
  have e : (xs ++ r).length - xs.length = r.length := by rw [List.length_append]; omega
  simp only [e]
  have e2 : (xs ++ r).take (xs.length + min keep.toNat r.length) = xs ++ r.take (min keep.toNat r.length) := by
    rw [List.take_append, List.take_of_length_le (by omega)]
    congr 2
    omega
  rw [e2, List.length_append, List.length_take]
  congr 1
  omega
theorem crC_sureX (keep : Int) (p : Fc) (h : p.2 ≤ p.1.length) : ∃ xs, crC keep p = Fc.sure xs := by
  refine ⟨p.1.take (p.2 + min keep.toNat (p.1.length - p.2)), ?_⟩
  unfold crC Fc.sure
  rw [List.length_take]
  congr 1
  omega
theorem Cs.torn (h : Cs f S j Q []) (m : List UInt8) (hm : m.length ≤ 300) (hz : j + Q.length + 1 ≤ 100) (k : Nat) :
    ∃ Q' tail', (Q' = Q ∨ Q' = Q ++ [m]) ∧ Cs (f.set .log (some (Fc.sure (recsS j Q ++ (recS (j + Q.length + 1) m).take k)))) S j Q' tail' := by
  by_cases hk : k < m.length + 17
  · refine ⟨Q, (recS (j + Q.length + 1) m).take k, .inl rfl, h.s, .inr rfl, h.n, ⟨whole_cut _ m (by omega) k hk, by rw [List.length_take]; omega⟩, h.hj, h.hjq, h.hq, h.hz, h.mS, h.mQ⟩
  · refine ⟨Q ++ [m], [], .inr rfl, h.more m hm hz _ ?_⟩
    rw [List.take_of_length_le (by rw [recS_len17]; omega)]
theorem use_full (left : Int) (n : Nat) (h : (useS left n).2.2 = true) : (useS left n).1 = n := by
  unfold useS at h ⊢
  split
  · rfl
  · split
    · rfl
    · rename_i h1 h2
      rw [if_neg h1, if_neg h2] at h
      exact absurd h (by simp)
theorem at_l2 (h : Cs f S j Q []) : f.at_ .log = Fc.sure (recsS j Q) := by
  unfold F3.at_ F3.get
  rcases h.l with ⟨h1, h2, _⟩ | h1
  · simp [h1, h2, recsS, Fc.sure]
  · simp [h1]
theorem Cs.crashL (h : Cs f S j Q []) (on : Bool) (left keep : Int) (p : Fc) : crashS ⟨(f.set .log (some p)).fs, on, left⟩ keep = (f.set .log (some (crC keep p))).d (-1) := by
  have h1 : (f.set .log (some p)).crash keep = f.set .log (some (crC keep p)) := by
    obtain ⟨a, b, c⟩ := f
    unfold F3.crash
    have e2 : b.map (crC keep) = b := by
      cases b with
      | none => rfl
      | some p => obtain ⟨xs, rfl⟩ := h.n p rfl; simp [crC_sure]
    have e3 : c.map (crC keep) = c := by
      rcases h.s with ⟨h1, _⟩ | h1
      · cases h1; rfl
      · cases h1; simp [crC_sure]
    simp only [F3.set, e2, e3, Option.map_some]
  rw [f3_crash, h1]
theorem Cs.crashN (h : Cs f S j Q []) (on : Bool) (left keep : Int) (p : Fc) : crashS ⟨(f.set .next (some p)).fs, on, left⟩ keep = (f.set .next (some (crC keep p))).d (-1) := by
  have h1 : (f.set .next (some p)).crash keep = f.set .next (some (crC keep p)) := by
    obtain ⟨a, b, c⟩ := f
    unfold F3.crash
    have e1 : a.map (crC keep) = a := by
      rcases h.l with ⟨h1, _⟩ | h1
      · cases h1; rfl
      · cases h1; simp [crC_sure]
    have e3 : c.map (crC keep) = c := by
      rcases h.s with ⟨h1, _⟩ | h1
      · cases h1; rfl
      · cases h1; simp [crC_sure]
    simp only [F3.set, e1, e3, Option.map_some]
  rw [f3_crash, h1]
theorem Cs.setN (h : Cs f S j Q []) (keep : Int) (p : Fc) (hp : p.2 ≤ p.1.length) : Cs (f.set .next (some (crC keep p))) S j Q [] :=
  ⟨h.s, h.l, fun q hq => by
    have e : some (crC keep p) = some q := hq
    cases e
    exact crC_sureX keep p hp, h.t, h.hj, h.hjq, h.hq, h.hz, h.mS, h.mQ⟩
/-- an Append under which the power may fail, and a crash behind it -/
theorem app_fail (h : Cs f S j Q []) (m : List UInt8) (hm : m.length ≤ 300) (hz : j + Q.length + 1 ≤ 100) (left keep : Int) :
    ∃ f' Q' tail', crashS (wAppS ⟨f.d left, allC S j Q, false⟩ m).1.d keep = f'.d (-1) ∧ Cs f' S j Q' tail' ∧ (Q' = Q ++ [m] ∨ Q' = Q ∧ (wAppS ⟨f.d left, allC S j Q, false⟩ m).2 ≠ 0) := by
  have hb := recs_le h
  obtain ⟨r, hr⟩ : ∃ r, r = recS (j + Q.length + 1) m := ⟨_, rfl⟩
  have hrl : r.length = m.length + 17 := by rw [hr, recS_len17]
  have hA : appS (f.d left) logN r = _ := f3_append f left .log r (by rw [at_l2 h]; show (recsS j Q).length + _ ≤ _; omega)
  rw [at_l2 h] at hA
  -- the part that was written
  have part : ∀ (c : Nat) (on : Bool) (l2 : Int), ∃ f' Q' tail', crashS ⟨(f.set .log (some (recsS j Q ++ r.take c, (recsS j Q).length))).fs, on, l2⟩ keep = f'.d (-1) ∧ Cs f' S j Q' tail' ∧ (Q' = Q ∨ Q' = Q ++ [m]) := by
    intro c on l2
    obtain ⟨k, _, hk⟩ := crC_part keep (recsS j Q) (r.take c)
    rw [h.crashL, hk, List.take_take, hr]
    obtain ⟨Q', tail', h1, h2⟩ := h.torn m hm hz (min k c)
    exact ⟨_, Q', tail', rfl, h2, h1⟩
  have hW : wAppS ⟨f.d left, allC S j Q, false⟩ m = (let a := appS (f.d left) logN r; if a.2 ≠ 0 then (LS.err ⟨f.d left, allC S j Q, false⟩ a.1 a.2) else let b := syncS a.1 logN; if b.2 ≠ 0 then (LS.err ⟨f.d left, allC S j Q, false⟩ b.1 b.2) else (⟨b.1, allC S j Q ++ [m], false⟩, 0)) := by
    unfold wAppS
    rw [if_neg (by simp), if_neg (by omega), h.len, ← hr]
  rw [hW, hA]
  dsimp only
  by_cases hok : (useS left r.length).2.2 = true
  · have hfull := use_full left r.length hok
    rw [hok, if_neg (by simp [okE])]
    have hS : syncS (⟨(f.set .log (some ((Fc.sure (recsS j Q)).1 ++ r.take (useS left r.length).1, (Fc.sure (recsS j Q)).2))).fs, true, (useS left r.length).2.1⟩ : DS) logN = _ := f3_sync (f.set .log (some ((Fc.sure (recsS j Q)).1 ++ r.take (useS left r.length).1, (Fc.sure (recsS j Q)).2))) (useS left r.length).2.1 .log _ (F3.get_set _ _ _)
    rw [hS]
    rcases unit_two (f.set .log (some ((Fc.sure (recsS j Q)).1 ++ r.take (useS left r.length).1, (Fc.sure (recsS j Q)).2))) (useS left r.length).2.1 ((f.set .log (some ((Fc.sure (recsS j Q)).1 ++ r.take (useS left r.length).1, (Fc.sure (recsS j Q)).2))).set .log (some (((Fc.sure (recsS j Q)).1 ++ r.take (useS left r.length).1), ((Fc.sure (recsS j Q)).1 ++ r.take (useS left r.length).1).length))).fs with ⟨l2, h2, _⟩ | ⟨on, l2, h2, _⟩
    · rw [h2]
      dsimp only
      rw [if_neg (by simp)]
      have hc := h.more m hm hz (some (Fc.sure (recsS j Q ++ r))) (by rw [hr])
      refine ⟨f.set .log (some (Fc.sure (recsS j Q ++ r))), Q ++ [m], [], ?_, hc, .inl rfl⟩
      dsimp only
      rw [F3.set_set, hfull, List.take_length]
      exact hc.crash true l2 keep
    · rw [h2]
      dsimp only
      rw [if_pos (by simp)]
      obtain ⟨f', Q', tail', h3, h4, h5⟩ := part (useS left r.length).1 on l2
      refine ⟨f', Q', tail', h3, h4, ?_⟩
      rcases h5 with h5 | h5
      · exact .inr ⟨h5, by simp [LS.err]⟩
      · exact .inl h5
  · have hok : (useS left r.length).2.2 = false := by simpa using hok
    rw [hok, if_pos (by simp [okE])]
    obtain ⟨f', Q', tail', h3, h4, h5⟩ := part (useS left r.length).1 false (useS left r.length).2.1
    refine ⟨f', Q', tail', h3, h4, ?_⟩
    rcases h5 with h5 | h5
    · exact .inr ⟨h5, by simp [LS.err, okE]⟩
    · exact .inl h5
/-- a Checkpoint under which the power may fail, and a crash behind it -/
theorem chk_fail (h : Cs f S j Q []) (hn : f.n = none) (left keep : Int) :
    ∃ f' S' j' Q', crashS (wChkS ⟨f.d left, allC S j Q, false⟩).1.d keep = f'.d (-1) ∧ Cs f' S' j' Q' [] ∧ allC S' j' Q' = allC S j Q ∧ j' + Q'.length = j + Q.length := by
  have hb := recs_le h
  obtain ⟨P, hP⟩ : ∃ P, P = allC S j Q := ⟨_, rfl⟩
  have hPl : P.length = j + Q.length := by rw [hP]; exact h.len
  have hPm : ∀ m ∈ P, m.length ≤ 300 := by rw [hP]; exact h.all_le
  rw [← hP] at hb ⊢
  obtain ⟨R, hR⟩ : ∃ R, R = recsS 0 P := ⟨_, rfl⟩
  rw [← hR] at hb
  have hat : f.at_ .next = ([], 0) := by unfold F3.at_ F3.get; rw [hn]; rfl
  have hA : appS (f.d left) nextN R = _ := f3_append f left .next R (by rw [hat]; show 0 + _ ≤ _; omega)
  rw [hat] at hA
  simp only [List.nil_append] at hA
  have hW : wChkS ⟨f.d left, P, false⟩ = (let a := appS (f.d left) nextN R
      if a.2 ≠ 0 then LS.err ⟨f.d left, P, false⟩ a.1 a.2 else
      let b := syncS a.1 nextN
      if b.2 ≠ 0 then LS.err ⟨f.d left, P, false⟩ b.1 b.2 else
      let c := renS b.1 nextN snapN
      if c.2 ≠ 0 then LS.err ⟨f.d left, P, false⟩ c.1 c.2 else
      let e := cutS c.1 logN 0
      if thereE e.2 ≠ 0 then LS.err ⟨f.d left, P, false⟩ e.1 (thereE e.2) else (⟨e.1, P, false⟩, 0)) := by
    unfold wChkS
    rw [if_neg (by simp), if_neg (by rw [← hR]; omega), ← hR]
  rw [hW, hA]
  dsimp only
  -- the file next is left
  have stay : ∀ (p : Fc) (on : Bool) (l2 : Int), p.2 ≤ p.1.length → ∃ f' S' j' Q', crashS ⟨(f.set .next (some p)).fs, on, l2⟩ keep = f'.d (-1) ∧ Cs f' S' j' Q' [] ∧ allC S' j' Q' = P ∧ j' + Q'.length = j + Q.length := fun p on l2 hp =>
    ⟨_, S, j, Q, h.crashN on l2 keep p, h.setN keep p hp, hP.symm, rfl⟩
  by_cases hok : (useS left R.length).2.2 = true
  rotate_left
  · have hok : (useS left R.length).2.2 = false := by simpa using hok
    rw [hok, if_pos (by simp [okE])]
    exact stay _ _ _ (Nat.zero_le _)
  rw [hok, use_full left R.length hok, List.take_length, if_neg (by simp [okE])]
  obtain ⟨l1, hl1⟩ : ∃ l1, l1 = (useS left R.length).2.1 := ⟨_, rfl⟩
  rw [← hl1]
  have hS : syncS ((f.set .next (some (R, 0))).d l1) nextN = _ := f3_sync (f.set .next (some (R, 0))) l1 .next _ (F3.get_set _ _ _)
  rw [hS, F3.set_set]
  rcases unit_two (f.set .next (some (R, 0))) l1 (f.set .next (some (R, R.length))).fs with ⟨l2, h2, _⟩ | ⟨on, l2, h2, _⟩
  rotate_left
  · rw [h2]; dsimp only; rw [if_pos (by simp)]
    exact stay (R, 0) on l2 (Nat.zero_le _)
  rw [h2]
  dsimp only
  rw [if_neg (by simp)]
  have hN : renS ((f.set .next (some (R, R.length))).d l2) nextN snapN = _ := f3_rename (f.set .next (some (R, R.length))) l2 .next .snap _ (F3.get_set _ _ _)
  rw [hN, F3.set_set]
  rcases unit_two (f.set .next (some (R, R.length))) l2 ((f.set .next none).set .snap (some (R, R.length))).fs with ⟨l3, h3, _⟩ | ⟨on, l3, h3, _⟩
  rotate_left
  · rw [h3]; dsimp only; rw [if_pos (by simp)]
    exact stay (R, R.length) on l3 (Nat.le_refl _)
  rw [h3]
  dsimp only
  rw [if_neg (by simp)]
  obtain ⟨f2, hf2⟩ : ∃ f2, f2 = (f.set .next none).set .snap (some (R, R.length)) := ⟨_, rfl⟩
  rw [← hf2]
  have f2l : f2.l = f.l := by rw [hf2]; rfl
  have f2n : f2.n = none := by rw [hf2]; rfl
  have hz := h.hz
  have hC : Cs f2 P j Q [] := ⟨.inr (by rw [hf2, hR]; rfl), by rw [f2l]; exact h.l, fun p hp => (by rw [f2n] at hp; cases hp), h.t, by omega, by omega, by
    by_cases hq : Q = []
    · exact .inr (by rw [hPl, hq]; rfl)
    · exact .inl hq, hz, hPm, h.mQ⟩
  have hC2 : allC P j Q = P := by unfold allC; rw [List.drop_of_length_le (by omega), List.append_nil]
  cases hl : f.l with
  | none =>
    have hQ : cutS (f2.d l3) logN 0 = _ := f3_cut_none f2 l3 .log 0 (by show f2.l = none; rw [f2l, hl])
    rw [hQ]
    dsimp only
    rw [if_neg (by simp [thereE])]
    exact ⟨f2, P, j, Q, hC.crash true l3 keep, hC, hC2, rfl⟩
  | some p =>
    have hQ : cutS (f2.d l3) logN ((0 : Nat) : Int) = _ := f3_cut f2 l3 .log 0 p (by show f2.l = some p; rw [f2l, hl]) (Nat.zero_le _)
    rw [show (0 : Int) = ((0 : Nat) : Int) from rfl, hQ]
    rcases unit_two f2 l3 (f2.set .log (some (p.1.take 0, min p.2 0))).fs with ⟨l4, h4, _⟩ | ⟨on, l4, h4, _⟩
    · rw [h4]; dsimp only; rw [if_neg (by simp [thereE])]
      have hD : Cs (f2.set .log (some (p.1.take 0, min p.2 0))) P P.length [] [] := ⟨hC.s, .inr (by show some _ = _; rw [Nat.min_zero, List.take_zero]; rfl), hC.n, ⟨whole_nil, by simp⟩, Nat.le_refl _, Nat.le_add_right _ _, .inr rfl, by show P.length + 0 ≤ 100; omega, hPm, fun m hm => by cases hm⟩
      exact ⟨_, P, P.length, [], hD.crash true l4 keep, hD, allC_nil _ _, by show P.length + 0 = _; omega⟩
    · rw [h4]; dsimp only; rw [if_pos (by simp [thereE])]
      exact ⟨f2, P, j, Q, hC.crash on l4 keep, hC, hC2, rfl⟩
end
end
section
set_option linter.unusedVariables false
set_option linter.unusedSimpArgs false
open Go.Maps Go.RowKit

/-- a disk, and blocks that are none of its -/
structure Sz (Z : Nat → Prop) (X W w : World) (s : DS) : Prop where
  dk : ∃ O, Dk X w.heap.size (w.heap.size + 1) s O ∧ ∀ b, Z b → ¬ O b
  bel : Below w.heap.size w X
  low : ∀ b, Z b → b < X.heap.size ∧ X.heap[b]? = W.heap[b]?
/-- a log, and blocks that are none of its -/
structure Lz (Z : Nat → Prop) (X W w : World) (lb : Nat) (s : LS) : Prop where
  ex : ∃ O v l, Wk X w.heap.size (w.heap.size + 1) lb s.d O v l s.dn ∧ l.map (·.m) = s.ps ∧ ∀ b, Z b → ¬ OwnW O lb v b
  bel : Below w.heap.size w X
  low : ∀ b, Z b → b < X.heap.size ∧ X.heap[b]? = W.heap[b]?
section
variable {Z : Nat → Prop} {X X' X1 W w : World} {lb : Nat} {s S : LS} {d D : DS}
theorem low_on (h : ∀ b, Z b → b < X.heap.size ∧ X.heap[b]? = W.heap[b]?) (hb : Below X.heap.size X X') : ∀ b, Z b → b < X'.heap.size ∧ X'.heap[b]? = W.heap[b]? :=
  fun b hz => ⟨Nat.lt_of_lt_of_le (h b hz).1 hb.size, (hb.block b (h b hz).1).trans (h b hz).2⟩
theorem low_fr {O O' : Nat → Prop} (h : ∀ b, Z b → b < X.heap.size ∧ X.heap[b]? = W.heap[b]?) (hn : ∀ b, Z b → ¬ O b) (hf : Fr X X' O O') : (∀ b, Z b → b < X'.heap.size ∧ X'.heap[b]? = W.heap[b]?) ∧ ∀ b, Z b → ¬ O' b :=
  ⟨fun b hz => ⟨Nat.lt_of_lt_of_le (h b hz).1 hf.size, (hf.block b (h b hz).1 (hn b hz)).trans (h b hz).2⟩, fun b hz ho => (hf.own b ho).elim (hn b hz) (fun e => by have := (h b hz).1; omega)⟩
theorem Lz.lw (h : Lz Z X W w lb s) : Lw X w lb s := by
  obtain ⟨O, v, l, h1, h2, _⟩ := h.ex
  exact ⟨⟨O, v, l, h1, h2⟩, h.bel⟩
theorem Lz.sz (h : Lz Z X W w lb s) : Sz Z X W w s.d := by
  obtain ⟨O, v, l, h1, _, h3⟩ := h.ex
  exact ⟨⟨O, h1.dk, fun b hz ho => h3 b hz (.inl ho)⟩, h.bel, h.low⟩
theorem Sz.sd (h : Sz Z X W w d) : Sd X w d := by
  obtain ⟨O, h1, _⟩ := h.dk
  exact ⟨⟨O, h1⟩, h.bel⟩
theorem Lz.on (h : Lz Z X W w lb s) (hb : Below X.heap.size X X') : Lz Z X' W w lb s := by
  obtain ⟨O, v, l, h1, h2, h3⟩ := h.ex
  exact ⟨⟨O, v, l, h1.on hb, h2, h3⟩, h.bel.trans (hb.mono h.bel.size), low_on h.low hb⟩
theorem Sz.on (h : Sz Z X W w d) (hb : Below X.heap.size X X') : Sz Z X' W w d := by
  obtain ⟨O, h1, h2⟩ := h.dk
  exact ⟨⟨O, h1.on_ hb, h2⟩, h.bel.trans (hb.mono h.bel.size), low_on h.low hb⟩
/-- a row that is made behind the log -/
theorem Lw.z (h : Lw X w lb s) (hb : Below X.heap.size X X') (hz : ∀ b, Z b → X.heap.size ≤ b ∧ b < X'.heap.size) : Lz Z X' X' w lb s := by
  obtain ⟨O, v, l, h1, h2⟩ := h.ex
  exact ⟨⟨O, v, l, h1.on hb, h2, fun b hzb ho => by have := (h1.low b ho).1; have := (hz b hzb).1; omega⟩, h.bel.trans (hb.mono h.bel.size), fun b hzb => ⟨(hz b hzb).2, rfl⟩⟩
theorem Lz.after {O : Nat → Prop} {v : Value} {l : List SlA} {s0 : DS} {dn0 : Bool} (h : Wk X w.heap.size (w.heap.size + 1) lb s0 O v l dn0) (h3 : ∀ b, Z b → ¬ OwnW O lb v b) (hb : Below w.heap.size w X) (hl : ∀ b, Z b → b < X.heap.size ∧ X.heap[b]? = W.heap[b]?) (ha : AfterW X' X w.heap.size (w.heap.size + 1) lb O v s) : Lz Z X' W w lb s := by
  obtain ⟨O', v', l', h1, h2, hf⟩ := ha
  obtain ⟨g1, g2⟩ := low_fr hl h3 hf
  exact ⟨⟨O', v', l', h1, h2, g2⟩, hb.trans (hf.below (fun b hb => (h.low b hb).2) hb.size), g1⟩
theorem lz_append (h : Lz Z X1 W w lb s) (hb : Below X1.heap.size X1 X) {v0 : Value} (m : List UInt8) (hA : Acc X X1.heap.size v0 m) (hE : Env w) (hl : s.ps.length ≤ 1000000) :
    Calls Tryd.prog 17 #[.pointer (some ⟨lb, 0, none⟩), v0] X fun r w' => r = .returned (.int .i64 (wAppS s m).2) ∧ Lz Z w' W w lb (wAppS s m).1 := by
  obtain ⟨q, c, rfl, hc, hR⟩ := hA.rd
  have hq := acc_off hA
  obtain ⟨O, v, l, h1, h2, h3⟩ := h.ex
  have HL := low_on h.low hb
  obtain ⟨d, ps, dn⟩ := s
  simp only at h1 h2 hl
  subst h2
  rw [List.length_map] at hl
  have hW := h1.on hb
  have hB : Below w.heap.size w X := h.bel.trans (hb.mono h.bel.size)
  cases dn with
  | true =>
    refine (wappend_no w.heap.size (w.heap.size + 1) lb d O v l true q m.length c X hW hl (.inl rfl)).mono ?_
    rintro r w' ⟨rfl, ha⟩
    have e : wAppS ⟨d, l.map (·.m), true⟩ m = (⟨d, l.map (·.m), true⟩, 20) := by unfold wAppS; rw [if_pos rfl]
    rw [e]
    exact ⟨rfl, Lz.after hW h3 hB HL ha⟩
  | false =>
    by_cases hz : 8192 < m.length
    · refine (wappend_no w.heap.size (w.heap.size + 1) lb d O v l false q m.length c X hW hl (.inr ⟨rfl, hz⟩)).mono ?_
      rintro r w' ⟨rfl, ha⟩
      have e : wAppS ⟨d, l.map (·.m), false⟩ m = (⟨d, l.map (·.m), false⟩, 2) := by unfold wAppS; rw [if_neg (by simp), if_pos (by omega)]
      rw [e]
      exact ⟨rfl, Lz.after hW h3 hB HL ha⟩
    · refine (wappend_main w.heap.size (w.heap.size + 1) lb d O v l q m.length c m rfl hc (by omega) X hW (hE.on hB hE.size) hl ⟨hR, hq.imp id (fun h a ha e => ?_)⟩).mono ?_
      · have h3 := h a ha
        have h4 := (h1.low _ e).1
        omega
      · rintro r w' ⟨rfl, ha⟩
        exact ⟨rfl, Lz.after hW h3 hB HL ha⟩
theorem lz_chk (h : Lz Z X W w lb s) (hE : Env w) (hl : s.ps.length ≤ 1000000) (hz : (recsS 0 s.ps).length ≤ 10000000) :
    Calls Tryd.prog 18 #[.pointer (some ⟨lb, 0, none⟩)] X fun r w' => r = .returned (.int .i64 (wChkS s).2) ∧ Lz Z w' W w lb (wChkS s).1 := by
  obtain ⟨O, v, l, h1, h2, h3⟩ := h.ex
  have HB := h.bel
  have HL := h.low
  obtain ⟨d, ps, dn⟩ := s
  simp only at h1 h2 hl hz
  subst h2
  rw [List.length_map] at hl
  refine (wchk_any w.heap.size (w.heap.size + 1) lb d O v l dn X h1 (hE.on HB hE.size) (Nat.le_trans hE.size HB.size) hl hz).mono ?_
  rintro r w' ⟨rfl, ha⟩
  exact ⟨rfl, Lz.after h1 h3 HB HL ha⟩
theorem sz_open (h : Sz Z X W w d) (hE : Env w) (hz : (fileS (remS d nextN).1 snapN).1.length ≤ 1500000 ∧ (fileS (remS d nextN).1 logN).1.length ≤ 1500000) :
    Calls Tryd.prog 16 #[.pointer (some ⟨w.heap.size + 1, 0, none⟩)] X fun r w' => ((wOpenS d).2 = 0 ∧ ∃ lb, r = .returned (.tuple #[.pointer (some ⟨lb, 0, none⟩), .int .i64 0]) ∧ Lz Z w' W w lb (wOpenS d).1) ∨ ((wOpenS d).2 ≠ 0 ∧ r = .returned (.tuple #[.pointer none, .int .i64 (wOpenS d).2]) ∧ Sz Z w' W w (wOpenS d).1.d) := by
  obtain ⟨O, hD, hn⟩ := h.dk
  refine (wopen_any w.heap.size (w.heap.size + 1) d O X hD h.bel.size (hE.on h.bel hE.size) hE.size hz.1 hz.2).mono ?_
  rintro r w' (⟨h0, lb, O', v', l', rfl, h1, h2, h3⟩ | ⟨h0, rfl, O', h1, h3⟩)
  · obtain ⟨g1, g2⟩ := low_fr h.low hn h3
    exact .inl ⟨h0, lb, rfl, ⟨O', v', l', h1, h2, g2⟩, h.bel.trans (h3.below (fun b hb => (hD.lt b hb).2) h.bel.size), g1⟩
  · obtain ⟨g1, g2⟩ := low_fr h.low hn h3
    exact .inr ⟨h0, rfl, ⟨O', h1, g2⟩, h.bel.trans (h3.below (fun b hb => (hD.lt b hb).2) h.bel.size), g1⟩
/-- an Open whose answer nobody looks at -/
theorem sz_open_any (h : Sz Z X W w d) (hE : Env w) (hz : (fileS (remS d nextN).1 snapN).1.length ≤ 1500000 ∧ (fileS (remS d nextN).1 logN).1.length ≤ 1500000) :
    Calls Tryd.prog 16 #[.pointer (some ⟨w.heap.size + 1, 0, none⟩)] X fun r w' => ∃ p e, r = .returned (.tuple #[.pointer p, .int .i64 e]) ∧ Sz Z w' W w (wOpenS d).1.d := by
  refine (sz_open h hE hz).mono ?_
  rintro r w' (⟨_, lb, rfl, h1⟩ | ⟨_, rfl, h1⟩)
  · exact ⟨_, _, rfl, h1.sz⟩
  · exact ⟨_, _, rfl, h1⟩
theorem sz_open0 (h : Sz Z X W w d) (hE : Env w) (hz : (fileS (remS d nextN).1 snapN).1.length ≤ 1500000 ∧ (fileS (remS d nextN).1 logN).1.length ≤ 1500000) (he : wOpenS d = (S, 0)) :
    Calls Tryd.prog 16 #[.pointer (some ⟨w.heap.size + 1, 0, none⟩)] X fun r w' => ∃ lb, r = .returned (.tuple #[.pointer (some ⟨lb, 0, none⟩), .int .i64 0]) ∧ Lz Z w' W w lb S := by
  refine (sz_open h hE hz).mono ?_
  rw [he]
  rintro r w' (⟨_, lb, rfl, h1⟩ | ⟨h0, _⟩)
  · exact ⟨lb, rfl, h1⟩
  · exact absurd rfl h0
theorem sz_crash (h : Sz Z X W w d) (keep : Int) (hk : keep ≤ 9223372036854775807) (he : crashS d keep = D) :
    Calls Tryd.prog 20 #[.pointer (some ⟨w.heap.size + 1, 0, none⟩), .int .i64 keep] X fun r w' => r = .returned (.tuple #[]) ∧ Sz Z w' W w D := by
  subst he
  obtain ⟨O, hD, hn⟩ := h.dk
  refine (crash_any w.heap.size (w.heap.size + 1) d O keep hk X hD).mono fun r w' ⟨h1, h2⟩ => ⟨h1, ?_⟩
  obtain ⟨O', g1, g2⟩ := h2
  obtain ⟨g3, g4⟩ := low_fr h.low hn g2
  exact ⟨⟨O', g1, g4⟩, h.bel.trans (g2.below (fun b hb => (hD.lt b hb).2) h.bel.size), g3⟩
theorem sz_fuse (h : Sz Z X W w d) (n : Int) (hn : n ≤ 9223372036854775807) (he : fuseS d n = D) :
    Calls Tryd.prog 19 #[.pointer (some ⟨w.heap.size + 1, 0, none⟩), .int .i64 n] X fun r w' => r = .returned (.tuple #[]) ∧ Sz Z w' W w D := by
  subst he
  obtain ⟨O, ⟨mb, l, hD, hfs, rfl⟩, hno⟩ := h.dk
  obtain ⟨fs, on, left⟩ := d
  simp only at hD hfs
  subst hfs
  refine (fuse_any w.heap.size (w.heap.size + 1) mb l on left n hn X hD).mono fun r w' ⟨h1, h2, h3⟩ => ⟨h1, ?_⟩
  have g2 := Only.fr h3 (O := OwnD (w.heap.size + 1) mb l) (.inl rfl)
  obtain ⟨g3, g4⟩ := low_fr h.low hno g2
  refine ⟨⟨_, ⟨mb, l, ?_, ?_, rfl⟩, hno⟩, h.bel.trans (g2.below (fun b hb => (hD.lt b hb).2) h.bel.size), g3⟩
  · cases on <;> exact h2
  · cases on <;> rfl
/-- the law's row, as it was -/
theorem Pl.keep {base : Nat} {v : Value} {l : List SlA} (hP : Pl W base v l) (hl : ∀ b, v.ownBlock = some b → b < X.heap.size ∧ X.heap[b]? = W.heap[b]?) (he : ∀ x ∈ l, Rd0 w x.q x.m) (hb : Below w.heap.size w X) : Pl X base v l :=
  ⟨hP.form, ownsRow_kept hP.own (fun b hb => (hl b hb).2), fun x hx => ⟨(he x hx).on hb, (hP.ok x hx).2⟩, hP.far⟩
/-- the row grows beside a disk -/
theorem Sz.grow {v v' : Value} (h : Sz (fun b => v.ownBlock = some b) X W w d) (hw : ∀ b, v.ownBlock = some b → w.heap.size ≤ b) (hg : X.grownBy X' v.ownBlock) (hv : ∀ g, v'.ownBlock = some g → v.ownBlock = some g ∨ X.heap.size ≤ g) (hl : ∀ g, v'.ownBlock = some g → g < X'.heap.size) : Sz (fun b => v'.ownBlock = some b) X' X' w d := by
  obtain ⟨O, h1, h2⟩ := h.dk
  refine ⟨⟨O, h1.kept fun b ho => hg.block b (h1.lt b ho).1 (fun e => h2 b e.symm ho), fun b hb ho => ?_⟩, h.bel.trans ((Fr.grown (O := fun b => v.ownBlock = some b) hg (fun b hb => hb)).below hw h.bel.size), fun b hb => ⟨hl b hb, rfl⟩⟩
  rcases hv b hb with e | e
  · exact h2 b e ho
  · have := (h1.lt b ho).1; omega
end
end
section
set_option linter.unusedVariables false
set_option linter.unusedSimpArgs false
open Go.Maps Go.RowKit

/-- a row, and no byte in its room -/
def NoI (X : World) (v : Value) : Prop := ∃ g n cap, v = .slice (some ⟨g, 0, none⟩) n cap ∧ ∀ i, n ≤ i → i < cap → ∀ k m, X.cell? ⟨g, i, none⟩ ≠ some (.int k m)
theorem noI_made (X : World) (g : Nat) : NoI X (.slice (some ⟨g, 0, none⟩) 0 0) := ⟨g, 0, 0, rfl, fun i _ h => by omega⟩
def Ints (X X' : World) : Prop := ∀ p k m, X.cell? p = some (.int k m) → X'.cell? p = some (.int k m)
theorem ok_inj {α : Type} {a b : α} {w w' : World} {r : Result α} (h1 : r = .ok a w) (h2 : r = .ok b w') : a = b ∧ w = w' := by
  rw [h1] at h2
  cases h2
  exact ⟨rfl, rfl⟩
theorem zero_noint {n : Nat} {i : Nat} {u : Value} (h : (Builtin.zeroCells (Value.slice none 0 0).cells n)[i]? = some u) : u = .slice none 0 0 := by
  have hm := Array.mem_of_getElem? h
  unfold Builtin.zeroCells at hm
  obtain ⟨j, _, rfl⟩ := Array.mem_map.1 hm
  have e : (Value.slice none 0 0).cells = #[.slice none 0 0] := rfl
  rw [e]
  have e2 : j % (#[Value.slice none 0 0] : Array Value).size = 0 := by simp [Nat.mod_one]
  rw [e2]
  rfl
set_option maxRecDepth 100000 in
theorem run_plX (X : World) (base : Nat) (v : Value) (l : List SlA) (hP : Pl X base v l) (hN : NoI X v) (q : Option Addr) (ys : List SlA) (c : Nat) (hL : Lsa X q ys) (hY : ∀ y ∈ ys, ∀ g, v.ownBlock = some g → y.m = [] ∨ ∀ b, y.q = some b → b.block ≠ g)
    (hl : l.length + ys.length ≤ 1000000) (hbase : base ≤ X.heap.size) (ty : TypeId) :
    ∃ v' n' w', (Builtin.append_ #[30, 30] ty #[v, .slice q ys.length c]).run Tryd.prog X = .ok v' w' ∧ (∃ p' c', v' = .slice p' n' c') ∧ n' = (l ++ ys).length ∧ Pl w' base v' (l ++ ys) ∧ X.grownBy w' v.ownBlock ∧ (∀ g, v'.ownBlock = some g → v.ownBlock = some g ∨ X.heap.size ≤ g) ∧ NoI w' v' ∧ Ints X w' := by
  obtain ⟨p', c', w', hr, h1, h2, h3⟩ := run_plN X base v l hP q ys c hL.rd (fun y hy => ⟨hL.el y hy, hY y hy⟩) hl hbase ty
  refine ⟨_, _, w', hr, ⟨p', c', rfl⟩, by rw [List.length_append], h1, h2, h3, ?_⟩
  obtain ⟨i, hi, hz0, hz1, hz2⟩ := info_parts infoSl
  obtain ⟨g, n, cap, hv, hno⟩ := hN
  obtain ⟨p, d, hv2, hd⟩ := hP.form
  have hpe : p = some ⟨g, 0, none⟩ ∧ n = l.length ∧ cap = d := by rw [hv] at hv2; cases hv2; exact ⟨rfl, rfl, rfl⟩
  obtain ⟨rfl, rfl, rfl⟩ := hpe
  subst hv
  by_cases h0 : ys = []
  · subst h0
    have hr2 := run_append_zeroP X _ ty 22 i Tryd.underlying30 hi (some ⟨g, 0, none⟩) q l.length cap c hd
    obtain ⟨e1, e2⟩ := ok_inj hr hr2
    cases e1
    subst e2
    exact ⟨⟨g, l.length, _, rfl, hno⟩, fun p k m h => h⟩
  have hpos : 0 < ys.length := List.length_pos_iff.2 h0
  obtain ⟨b, off, rfl, _, _⟩ := hL.rd.at 0 hpos
  have hcs := flatE_cells ESx hpos hL.rd
  have hlen := flatE_length ESx ys
  rw [Nat.mul_one] at hlen
  by_cases hroom : l.length + ys.length ≤ cap
  · have hblk : ∃ cur, X.heap[g]? = some (.cells cur 22 (0, 0)) ∧ cur.size = cap := by
      rcases hP.own.2 with ⟨h4, _⟩ | ⟨g', cap', cur, h4, _, h5, _, _, h6, _⟩
      · cases h4
      · cases h4; exact ⟨cur, h5, by rw [h6, Nat.mul_one]⟩
    obtain ⟨cur, hcur, hsz⟩ := hblk
    have hB : Bk X g 22 cur := hcur
    have hcell : ∀ j, j < cap → ∃ u, X.cell? ⟨g, j, none⟩ = some u := fun j hj => ⟨cur[j], hB.cell j _ (by rw [Array.getElem?_toList]; exact Array.getElem?_eq_getElem (by omega))⟩
    have hr2 := run_append_room_cells (P := Tryd.prog) X 30 ty 22 i Tryd.underlying30 hi g 0 l.length cap ⟨b, off, none⟩ ys.length c (flatE encS ys) (by rw [hlen, hz1, Nat.mul_one]) hcs (flatE_one ESx ys) hroom
      (fun j hj => by rw [hlen] at hj; rw [hz1]; obtain ⟨u, hu⟩ := hcell (0 + l.length * 1 + j) (by omega); rw [hu]; rfl) (fun j hj => hB.soft _)
    rw [hz1] at hr2
    obtain ⟨e1, e2⟩ := ok_inj hr hr2
    cases e1
    subst e2
    refine ⟨⟨g, _, _, rfl, fun j hj hjd k m => ?_⟩, fun a k m ha => ?_⟩
    · rw [World.cell?_setCells_out g _ _ _ _ (fun _ _ => Or.inr (by rw [hlen]; show 0 + l.length * 1 + ys.length ≤ j; omega))]
      exact hno j (by omega) hjd k m
    · rw [World.cell?_setCells_out g _ _ _ _ (fun hb hm => ?_)]
      · exact ha
      · by_cases h5 : a.off < 0 + l.length * 1
        · exact .inl h5
        · by_cases h6 : 0 + l.length * 1 + (flatE encS ys).length ≤ a.off
          · exact .inr h6
          · rw [hlen] at h6
            have e : a = ⟨g, a.off, none⟩ := by obtain ⟨x, y, z⟩ := a; simp_all
            rw [e] at ha
            exact absurd ha (hno a.off (by omega) (by omega) k m)
  · have holds : ∀ j u, (flatE encS l)[j]? = some u → X.cell? ((⟨g, 0, none⟩ : Addr).add j) = some u := fun j u hu => by
      rw [Addr.add_mid]
      have := hP.own.cells (g := g) rfl j u hu
      rwa [Addr.add_mid] at this
    have hr2 := run_append_grow (P := Tryd.prog) X 30 ty 22 i _ Tryd.underlying30 hi hz0 ⟨g, 0, none⟩ l.length cap (flatE encS l) (by rw [flatE_length ESx l, hz1]) holds ⟨b, off, none⟩ ys.length c (flatE encS ys) (by rw [hlen, hz1, Nat.mul_one]) hcs (by omega) (by omega)
      (growslice_fits (by omega) (by rw [hz2]; omega))
    obtain ⟨e1, e2⟩ := ok_inj hr hr2
    cases e1
    subst e2
    have hbel : Below X.heap.size X (X.drew.alloc (.cells ((flatE encS l).toArray ++ (flatE encS ys).toArray ++ Builtin.zeroCells (Value.slice none 0 0).cells (grownCap X (l.length + ys.length) cap 22 - (l.length + ys.length))) 22)) := (Below.refl X.heap.size X).drew.trans (below1 X.drew _)
    refine ⟨⟨_, _, _, rfl, fun j hj hjd k m he => ?_⟩, fun a k m ha => ?_⟩
    · have hB := Bk.new X.drew 22 ((flatE encS l).toArray ++ (flatE encS ys).toArray ++ Builtin.zeroCells (Value.slice none 0 0).cells (grownCap X (l.length + ys.length) cap 22 - (l.length + ys.length)))
      have hsz : ((flatE encS l).toArray ++ (flatE encS ys).toArray).size = l.length + ys.length := by
        rw [Array.size_append, List.size_toArray, List.size_toArray, flatE_length ESx l, hlen, Nat.mul_one]
      have hzc : (Builtin.zeroCells (Value.slice none 0 0).cells (grownCap X (l.length + ys.length) cap 22 - (l.length + ys.length))).size = grownCap X (l.length + ys.length) cap 22 - (l.length + ys.length) := by
        rw [size_zeroCells]; show _ * 1 = _; rw [Nat.mul_one]
      obtain ⟨u, hu⟩ : ∃ u, (Builtin.zeroCells (Value.slice none 0 0).cells (grownCap X (l.length + ys.length) cap 22 - (l.length + ys.length)))[j - (l.length + ys.length)]? = some u := ⟨_, Array.getElem?_eq_getElem (by rw [hzc]; omega)⟩
      have hu2 := zero_noint hu
      subst hu2
      have hcl := hB.cell j (.slice none 0 0) (by
        rw [Array.getElem?_toList, Array.getElem?_append_right (by rw [hsz]; exact hj), hsz]
        exact hu)
      rw [show X.drew.heap.size = X.heap.size from rfl] at hcl
      rw [hcl] at he
      cases he
    · rw [hbel.cell (World.block_lt_of_cell? X a ha)]
      exact ha
/-- a row of the law's own: lists of what stood there at first -/
structure Row (X w : World) (v : Value) (l : List SlA) : Prop where
  pl : Pl X w.heap.size v l
  noi : NoI X v
  src : ∀ x ∈ l, Rd0 w x.q x.m
theorem Row.made {X w : World} (hb : w.heap.size ≤ X.heap.size) : Row (X.alloc (.cells #[] 22)) w (.slice (some ⟨X.heap.size, 0, none⟩) 0 0) [] := ⟨pl_made hb, noI_made _ _, fun x hx => by cases hx⟩
theorem Row.lsa {X w : World} {p : Option Addr} {n c : Nat} {l : List SlA} (h : Row X w (.slice p n c) l) : Lsa X p l := lsa_of_pl h.pl
theorem Row.keep {X W w : World} {v : Value} {l : List SlA} (h : Row W w v l) (hl : ∀ b, v.ownBlock = some b → b < X.heap.size ∧ X.heap[b]? = W.heap[b]?) (hb : Below w.heap.size w X) : Row X w v l := by
  refine ⟨h.pl.keep hl h.src hb, ?_, h.src⟩
  obtain ⟨g, n, cap, rfl, hn⟩ := h.noi
  refine ⟨g, n, cap, rfl, fun i h1 h2 k m => ?_⟩
  rw [World.cell?_of_block (w := W) (w' := X) (a := ⟨g, i, none⟩) (hl g rfl).2]
  exact hn i h1 h2 k m
theorem Row.on {X X' w : World} {v : Value} {l : List SlA} (h : Row X w v l) (hb : Below X.heap.size X X') (hw : Below w.heap.size w X') : Row X' w v l :=
  h.keep (fun b hv => ⟨Nat.lt_of_lt_of_le (h.pl.own.lt b hv).2 hb.size, hb.block b (h.pl.own.lt b hv).2⟩) hw
theorem wpList_row {X w : World} {ops : Array Oper} {rest : List Oper} {o : Oper} {a : Act} {Q : Exit → Act → World → Prop} (hw : Region.wanted o (yielded ops a.tmps) = true) (s x : Operand)
    (ho : o.op = .call { callee := .builtin .append, args := #[s, x], argTypes := #[30, 30] })
    (v : Value) (l : List SlA) (hs : a.eval s = v) (hR : Row X w v l) (q : Option Addr) (ys : List SlA) (n c : Nat) (hx : a.eval x = .slice q n c) (hn : n = ys.length) (hL : Lsa X q ys) (hY : ∀ y ∈ ys, Rd0 w y.q y.m) (hb : w.heap.size ≤ X.heap.size) (hl : l.length + ys.length ≤ 1000000)
    (h : ∀ p' n' c' w', n' = (l ++ ys).length → Row w' w (.slice p' n' c') (l ++ ys) → X.grownBy w' v.ownBlock → (∀ g, (Value.slice p' n' c').ownBlock = some g → v.ownBlock = some g ∨ X.heap.size ≤ g) → Ints X w' → wpList Tryd.prog ops Q rest (a.put o.dst (.slice p' n' c')) w') : wpList Tryd.prog ops Q (o :: rest) a X := by
  subst hn
  obtain ⟨v', n', w', hr, ⟨p', c', rfl⟩, h0, h1, h2, h3, h4, h5⟩ := run_plX X w.heap.size v l hR.pl hR.noi q ys c hL (fun y hy g hg => rd0_low (hY y hy) (hR.pl.own.lt g hg).1) hl hb o.type
  refine wpList_step fun K hK => ?_
  rw [if_pos hw]
  unfold Oper.wp execOp
  simp only [ho, resolve, invoke, builtin, Sem.run_bind, Sem.run_pure, Result.andThen_ok, List.map_toArray, List.map_cons, List.map_nil, hs, hx, hr]
  exact hK _ _ (h p' n' c' w' h0 ⟨h1, h4, fun x hx => (List.mem_append.1 hx).elim (hR.src x) (hY x)⟩ h2 h3 h5)
theorem wp_row {X w : World} {o : Oper} {a : Act} {K : Act → World → Prop} {Q : Exit → Act → World → Prop} (s x : Operand)
    (ho : o.op = .call { callee := .builtin .append, args := #[s, x], argTypes := #[30, 30] })
    (v : Value) (l : List SlA) (hs : a.eval s = v) (hR : Row X w v l) (q : Option Addr) (ys : List SlA) (n c : Nat) (hx : a.eval x = .slice q n c) (hn : n = ys.length) (hL : Lsa X q ys) (hY : ∀ y ∈ ys, Rd0 w y.q y.m) (hb : w.heap.size ≤ X.heap.size) (hl : l.length + ys.length ≤ 1000000)
    (h : ∀ p' n' c' w', n' = (l ++ ys).length → Row w' w (.slice p' n' c') (l ++ ys) → X.grownBy w' v.ownBlock → (∀ g, (Value.slice p' n' c').ownBlock = some g → v.ownBlock = some g ∨ X.heap.size ≤ g) → Ints X w' → K (a.put o.dst (.slice p' n' c')) w') : Oper.wp Tryd.prog o a X K Q := by
  subst hn
  obtain ⟨v', n', w', hr, ⟨p', c', rfl⟩, h0, h1, h2, h3, h4, h5⟩ := run_plX X w.heap.size v l hR.pl hR.noi q ys c hL (fun y hy g hg => rd0_low (hY y hy) (hR.pl.own.lt g hg).1) hl hb o.type
  unfold Oper.wp execOp
  simp only [ho, resolve, invoke, builtin, Sem.run_bind, Sem.run_pure, Result.andThen_ok, List.map_toArray, List.map_cons, List.map_nil, hs, hx, hr]
  exact (h p' n' c' w' h0 ⟨h1, h4, fun x hx => (List.mem_append.1 hx).elim (hR.src x) (hY x)⟩ h2 h3 h5)
theorem step_row {X w : World} {ops : Array Oper} {o : Oper} {a : Act} {R : Prop} {K : Act → World → Prop} {Q : Exit → Act → World → Prop} (hw : Region.wanted o (yielded ops a.tmps) = true) (s x : Operand)
    (ho : o.op = .call { callee := .builtin .append, args := #[s, x], argTypes := #[30, 30] })
    (v : Value) (l : List SlA) (hs : a.eval s = v) (hR : Row X w v l) (q : Option Addr) (ys : List SlA) (n c : Nat) (hx : a.eval x = .slice q n c) (hn : n = ys.length) (hL : Lsa X q ys) (hY : ∀ y ∈ ys, Rd0 w y.q y.m) (hb : w.heap.size ≤ X.heap.size) (hl : l.length + ys.length ≤ 1000000)
    (h : ∀ p' n' c' w', n' = (l ++ ys).length → Row w' w (.slice p' n' c') (l ++ ys) → X.grownBy w' v.ownBlock → (∀ g, (Value.slice p' n' c').ownBlock = some g → v.ownBlock = some g ∨ X.heap.size ≤ g) → Ints X w' → K (a.put o.dst (.slice p' n' c')) w') : if Region.wanted o (yielded ops a.tmps) = true then Oper.wp Tryd.prog o a X K Q else R := by
  rw [if_pos hw]
  subst hn
  obtain ⟨v', n', w', hr, ⟨p', c', rfl⟩, h0, h1, h2, h3, h4, h5⟩ := run_plX X w.heap.size v l hR.pl hR.noi q ys c hL (fun y hy g hg => rd0_low (hY y hy) (hR.pl.own.lt g hg).1) hl hb o.type
  unfold Oper.wp execOp
  simp only [ho, resolve, invoke, builtin, Sem.run_bind, Sem.run_pure, Result.andThen_ok, List.map_toArray, List.map_cons, List.map_nil, hs, hx, hr]
  exact (h p' n' c' w' h0 ⟨h1, h4, fun x hx => (List.mem_append.1 hx).elim (hR.src x) (hY x)⟩ h2 h3 h5)
section
variable {X X' W w : World} {base d lb : Nat} {s : DS} {S : LS} {O : Nat → Prop} {v v' v1 : Value} {l l' : List SlA} {dn : Bool}
theorem Rd0.ints {q : Option Addr} {m : List UInt8} (h : Rd0 X q m) (hs : X.heap.size ≤ X'.heap.size) (hi : Ints X X') : Rd0 X' q m := by
  rcases h with h | ⟨b, off, h1, h2, h3⟩
  · exact .inl h
  · refine .inr ⟨b, off, h1, Nat.lt_of_lt_of_le h2 hs, fun i u hu => ?_⟩
    have hc := h3 i u hu
    obtain ⟨x, _, rfl⟩ := List.mem_map.1 (List.mem_of_getElem? hu)
    exact hi _ _ _ hc
theorem Wk.ints (h : Wk X base d lb s O v l dn) (hk : ∀ b, OwnW O lb v b → X'.heap[b]? = X.heap[b]?) (hs : X.heap.size ≤ X'.heap.size) (hi : Ints X X') : Wk X' base d lb s O v l dn :=
  ⟨h.dk.kept (fun b ho => hk b (.inl ho)), ⟨(hk lb (.inr (.inl rfl))).trans h.bk.bk, h.bk.no⟩, ⟨h.pl.form, ownsRow_kept h.pl.own (fun b hb => hk b (.inr (.inr hb))), fun x hx => ⟨(h.pl.ok x hx).1.ints hs hi, (h.pl.ok x hx).2⟩, h.pl.far⟩, h.hlb, h.nv, h.nx⟩
theorem grown_bel (hR : Row X w v l) (hb : Below w.heap.size w X) (hg : X.grownBy X' v.ownBlock) : Below w.heap.size w X' :=
  hb.trans ((Fr.grown (O := fun b => v.ownBlock = some b) hg (fun b hb => hb)).below (fun b h => (hR.pl.own.lt b h).1) hb.size)
/-- the row grows beside a log -/
theorem Lz.grow (h : Lz (fun b => v.ownBlock = some b) X W w lb S) (hR : Row X w v l) (hR' : Row X' w v' l') (hg : X.grownBy X' v.ownBlock) (hv : ∀ g, v'.ownBlock = some g → v.ownBlock = some g ∨ X.heap.size ≤ g) (hi : Ints X X') : Lz (fun b => v'.ownBlock = some b) X' X' w lb S := by
  obtain ⟨O, v0, l0, h1, h2, h3⟩ := h.ex
  have hlt : ∀ b, OwnW O lb v0 b → b < X.heap.size := fun b ho => (h1.low b ho).1
  refine ⟨⟨O, v0, l0, h1.ints (fun b ho => hg.block b (hlt b ho) (fun e => h3 b e.symm ho)) hg.size hi, h2, fun b hb ho => ?_⟩, grown_bel hR h.bel hg, fun b hb => ⟨(hR'.pl.own.lt b hb).2, rfl⟩⟩
  rcases hv b hb with e | e
  · exact h3 b e ho
  · have := hlt b ho; omega
theorem Sz.grow2 (h : Sz (fun b => v.ownBlock = some b) X W w s) (hR : Row X w v l) (hR' : Row X' w v' l') (hg : X.grownBy X' v.ownBlock) (hv : ∀ g, v'.ownBlock = some g → v.ownBlock = some g ∨ X.heap.size ≤ g) : Sz (fun b => v'.ownBlock = some b) X' X' w s :=
  h.grow (fun b hb => (hR.pl.own.lt b hb).1) hg hv (fun g hg' => (hR'.pl.own.lt g hg').2)
/-- the row that the law makes, beside its log -/
theorem Lw.row (h : Lw X w lb S) (hR : Row (X.alloc (.cells #[] 22)) w (.slice (some ⟨X.heap.size, 0, none⟩) 0 0) []) (hR' : Row X' w v' l') (hg : (X.alloc (.cells #[] 22)).grownBy X' (Value.slice (some ⟨X.heap.size, 0, none⟩) 0 0).ownBlock) (hv : ∀ g, v'.ownBlock = some g → (Value.slice (some ⟨X.heap.size, 0, none⟩) 0 0).ownBlock = some g ∨ (X.alloc (.cells #[] 22)).heap.size ≤ g) : Lz (fun b => v'.ownBlock = some b) X' X' w lb S := by
  have hb : Below X.heap.size X X' := (below1 X (.cells #[] 22)).trans ((Fr.grown (O := fun b => b = X.heap.size) hg (fun b hb => by simpa [Value.ownBlock] using hb.symm)).below (fun b h => by omega) (by simp))
  refine h.z hb fun b hb => ⟨?_, (hR'.pl.own.lt b hb).2⟩
  rcases hv b hb with e | e
  · have e2 : X.heap.size = b := by simpa [Value.ownBlock] using e
    omega
  · have e2 : X.heap.size + 1 ≤ b := by simpa using e
    omega
end
/-- all payloads, in a list of the call's own -/
theorem lz_all {Z : Nat → Prop} {X W w : World} {lb : Nat} {s : LS} (h : Lz Z X W w lb s) (hl : s.ps.length ≤ 1000000) (hz : ∀ m ∈ s.ps, m.length ≤ 1000000000) (ps : List (List UInt8)) (hp : s.ps = ps) :
    Calls Tryd.prog 21 #[.pointer (some ⟨lb, 0, none⟩)] X fun r w' => ∃ q l' n c, r = .returned (.slice q n c) ∧ n = l'.length ∧ Pl w' X.heap.size (.slice q n c) l' ∧ l'.map (·.m) = ps ∧ l'.length = ps.length ∧ Below X.heap.size X w' := by
  subst hp
  obtain ⟨O, v, l, h1, h2, _⟩ := h.ex
  refine (wall_any w.heap.size (w.heap.size + 1) lb s.d O v l s.dn X h1 (by have := congrArg List.length h2; rw [List.length_map] at this; omega) (fun x hx => hz x.m (by rw [← h2]; exact List.mem_map_of_mem hx))).mono ?_
  rintro r w' ⟨v', l', rfl, h3, h4, h5⟩
  obtain ⟨p, dd, rfl, _⟩ := h3.form
  exact ⟨p, l', _, dd, rfl, rfl, h3, h4.trans h2, by have := congrArg List.length (h4.trans h2); rwa [List.length_map] at this, h5⟩
/-- a list of a call's own, when the law's row grows -/
theorem Pl.beside {X X' : World} {base : Nat} {u v : Value} {l : List SlA} (h : Pl X base u l) (hv : ∀ b, v.ownBlock = some b → b < base) (hg : X.grownBy X' v.ownBlock) (hi : Ints X X') : Pl X' base u l :=
  ⟨h.form, ownsRow_kept h.own (fun b hb => hg.block b (h.own.lt b hb).2 (fun e => by have h1 := hv b e.symm; have h2 := (h.own.lt b hb).1; omega)), fun x hx => ⟨(h.ok x hx).1.ints hg.size hi, (h.ok x hx).2⟩, h.far⟩
end
end Go.Proofs.YtooiaadnhglifaaDoor
