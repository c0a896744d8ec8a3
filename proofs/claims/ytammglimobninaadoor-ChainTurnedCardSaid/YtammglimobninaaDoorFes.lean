/-
  Fnd, Eqe, Sam joined.
-/
import Derived.Test.YtammglimobninaaDoorRcm
import Derived.Laws.StructEq
import Derived.ChangeKeysEq
set_option linter.unusedVariables false
set_option linter.unusedSimpArgs false
namespace Go.Proofs.YtammglimobninaaDoor
open Go.RowKit Nm

theorem pow8 (k : Nat) : 2 ^ (8 * k) = 256 ^ k := by rw [Nat.pow_mul]
theorem numS_cons (n size : Nat) : numS n (size + 1) = UInt8.ofNat (n / 256 ^ size) :: numS n size := by
  unfold numS
  rw [List.range_succ_eq_map, List.map_cons, List.map_map]
  congr 1
  · rw [show size + 1 - 1 - 0 = size by omega, pow8]
  · apply List.map_congr_left
    intro i hi
    show UInt8.ofNat (n / 2 ^ (8 * (size + 1 - 1 - (i + 1)))) = _
    rw [show size + 1 - 1 - (i + 1) = size - 1 - i by omega]
theorem numS_mod : ∀ (size n m : Nat), numS n size = numS m size → n % 256 ^ size = m % 256 ^ size
  | 0, n, m, _ => by simp [Nat.mod_one]
  | size + 1, n, m, h => by
    rw [numS_cons, numS_cons] at h
    injection h with h1 h2
    have h3 := numS_mod size n m h2
    have h4 : n / 256 ^ size % 256 = m / 256 ^ size % 256 := by
      have := congrArg UInt8.toNat h1
      simpa [UInt8.toNat_ofNat'] using this
    rw [Nat.pow_succ, Nat.mod_mul, Nat.mod_mul, h3, h4]
theorem numS_inj {size n m : Nat} (hn : n < 256 ^ size) (hm : m < 256 ^ size) (h : numS n size = numS m size) : n = m := by
  have := numS_mod size n m h
  rwa [Nat.mod_eq_of_lt hn, Nat.mod_eq_of_lt hm] at this
theorem app_parts {α : Type} {a b c d : List α} (hl : a.length = c.length) (h : a ++ b = c ++ d) : a = c ∧ b = d := List.append_inj h hl
theorem ba_ext {a b : ByteArray} (h : a.data.toList = b.data.toList) : a = b := by
  cases a with | mk x => cases b with | mk y => exact congrArg ByteArray.mk (Array.toList_inj.1 h)
/-- an entry's bytes at a place tell the place and the entry -/
theorem bytesS_inj {i j : Nat} {e f : En} (hi : i < 18446744073709551616) (hj : j < 18446744073709551616) (he : e.user.size ≤ 16 ∧ 0 ≤ e.tick ∧ e.tick ≤ 1099511627776 ∧ e.text.size ≤ 4096) (hf : f.user.size ≤ 16 ∧ 0 ≤ f.tick ∧ f.tick ≤ 1099511627776 ∧ f.text.size ≤ 4096)
    (h : bytesS i e = bytesS j f) : i = j ∧ e = f := by
  unfold bytesS at h
  simp only [List.append_assoc] at h
  obtain ⟨h1, h⟩ := app_parts (by rw [numS_len, numS_len]) h
  obtain ⟨h2, h⟩ := app_parts (by rw [numS_len, numS_len]) h
  have e2 : e.user.size = f.user.size := numS_inj (size := 1) (by omega) (by omega) h2
  obtain ⟨h3, h⟩ := app_parts (by show e.user.size = f.user.size; exact e2) h
  obtain ⟨h4, h⟩ := app_parts (by rw [numS_len, numS_len]) h
  obtain ⟨h5, h⟩ := app_parts (by rw [numS_len, numS_len]) h
  have e5 : e.text.size = f.text.size := numS_inj (size := 4) (by omega) (by omega) h5
  obtain ⟨h6, h7⟩ := app_parts (by show e.text.size = f.text.size; exact e5) h
  refine ⟨numS_inj (size := 8) (by omega) (by omega) h1, ?_⟩
  have e4 : e.tick = f.tick := by
    have := numS_inj (size := 8) (by omega) (by omega) h4
    omega
  obtain ⟨u, t, x, d, l⟩ := e
  obtain ⟨u', t', x', d', l'⟩ := f
  have hu : u = u' := ba_ext h3
  have hx : x = x' := ba_ext h6
  subst hu hx
  have ht : t = t' := e4
  have hd : d = d' := h7
  subst ht hd
  rfl
/-- the sizes of an entry that may be -/
def Gd (e : En) : Prop := e.user.size ≤ 16 ∧ 0 ≤ e.tick ∧ e.tick ≤ 1099511627776 ∧ e.text.size ≤ 4096
theorem clsF_same : ∀ {l : List (List UInt8 × List UInt8)}, (∀ p ∈ l, p.1 = p.2) → clsF l = ([], [], false)
  | [], _ => rfl
  | p :: r, h => by
    unfold clsF
    rw [if_pos (by rw [h p (List.mem_cons_self ..)]; simp)]
    exact clsF_same fun q hq => h q (List.mem_cons_of_mem _ hq)
theorem cls_self (cut : Nat) (a : List En) : clsF (prsS cut a a) = ([], [], false) := clsF_same fun p hp => by
  obtain ⟨i, _, rfl⟩ := List.mem_map.1 hp
  rfl
/-- what the texts of two lists with one head show -/
theorem cls_from (cut : Nat) (a b : List En) (hc : cut ≤ 32) (ha : ∀ e ∈ a, Gd e) (hb : ∀ e ∈ b, Gd e) (hna : a.length ≤ 1000) (hnb : b.length ≤ 1000) :
    ∀ (n t : Nat), min a.length b.length - t = n → t ≤ min a.length b.length → (linkS cut a (a.length - t)).take cut = (linkS cut b (b.length - t)).take cut →
      (clsF ((prsS cut a b).drop t) = ([], [], false) ∧ ∀ i, t ≤ i → i < min a.length b.length → a.length = b.length ∧ a[a.length - 1 - i]? = b[b.length - 1 - i]?) ∨
      (∃ x y, clsF ((prsS cut a b).drop t) = (x, y, true) ∧ x ≠ y ∧ (sumS x).take cut = (sumS y).take cut ∧ (∃ i, i < a.length ∧ x = sumdS cut a i) ∧ ∃ i, i < b.length ∧ y = sumdS cut b i)
  | 0, t, hn, ht, _ => .inl ⟨by rw [show t = min a.length b.length by omega, prs_end]; rfl, fun i h1 h2 => by omega⟩
  | n + 1, t, hn, ht, hh => by
    have hlt : t < min a.length b.length := by omega
    have h1 : a.length - t = a.length - 1 - t + 1 := by omega
    have h2 : b.length - t = b.length - 1 - t + 1 := by omega
    have hs : (sumS (sumdS cut a (a.length - 1 - t))).take cut = (sumS (sumdS cut b (b.length - 1 - t))).take cut := by
      rw [h1, h2] at hh
      exact hh
    rw [prs_drop cut a b t hlt]
    by_cases he : sumdS cut a (a.length - 1 - t) = sumdS cut b (b.length - 1 - t)
    · have e1 : clsF ((sumdS cut a (a.length - 1 - t), sumdS cut b (b.length - 1 - t)) :: (prsS cut a b).drop (t + 1)) = clsF ((prsS cut a b).drop (t + 1)) := by
        show (if _ then _ else _) = _
        rw [if_pos (by show (sumdS cut a (a.length - 1 - t) == sumdS cut b (b.length - 1 - t)) = true; rw [he]; simp)]
      rw [e1]
      have he2 := he
      unfold sumdS at he2
      obtain ⟨p1, p2⟩ := app_parts (by rw [List.length_take, List.length_take, linkS_len, linkS_len]) he2
      have la : a.length - 1 - t < a.length := by omega
      have lb : b.length - 1 - t < b.length := by omega
      have ga : a.getD (a.length - 1 - t) enZ = a[a.length - 1 - t] := by simp [List.getD_eq_getElem?_getD, la]
      have gb : b.getD (b.length - 1 - t) enZ = b[b.length - 1 - t] := by simp [List.getD_eq_getElem?_getD, lb]
      rw [ga, gb] at p2
      obtain ⟨q1, q2⟩ := bytesS_inj (by omega) (by omega) (ha _ (List.getElem_mem la)) (hb _ (List.getElem_mem lb)) p2
      have r := cls_from cut a b hc ha hb hna hnb n (t + 1) (by omega) (by omega) (by rw [show a.length - (t + 1) = a.length - 1 - t by omega, show b.length - (t + 1) = b.length - 1 - t by omega]; exact p1)
      refine r.imp (fun ⟨r1, r2⟩ => ⟨r1, fun i h3 h4 => ?_⟩) id
      by_cases hi : i = t
      · subst hi
        exact ⟨by omega, by rw [List.getElem?_eq_getElem la, List.getElem?_eq_getElem lb, q2]⟩
      · exact r2 i (by omega) h4
    · refine .inr ⟨_, _, ?_, he, hs, ⟨_, by omega, rfl⟩, ⟨_, by omega, rfl⟩⟩
      show (if _ then _ else _) = _
      rw [if_neg (by show ¬ (sumdS cut a (a.length - 1 - t) == sumdS cut b (b.length - 1 - t)) = true; simpa using he)]
/-- two lists with one head that are not the same show two texts that are not, whose sums begin alike -/
theorem cls_found (cut : Nat) (a b : List En) (hc : cut ≤ 32) (ha : ∀ e ∈ a, Gd e) (hb : ∀ e ∈ b, Gd e) (hna : a.length ≤ 1000) (hnb : b.length ≤ 1000) (h0a : 0 < a.length) (h0b : 0 < b.length)
    (hh : (linkS cut a a.length).take cut = (linkS cut b b.length).take cut) (hne : a ≠ b) : ∃ x y, clsF (prsS cut a b) = (x, y, true) ∧ x ≠ y ∧ (sumS x).take cut = (sumS y).take cut ∧ (∃ i, i < a.length ∧ x = sumdS cut a i) ∧ ∃ i, i < b.length ∧ y = sumdS cut b i := by
  rcases cls_from cut a b hc ha hb hna hnb _ 0 rfl (Nat.zero_le _) hh with ⟨_, h⟩ | h
  · refine absurd ?_ hne
    have hl := (h 0 (Nat.le_refl _) (by omega)).1
    refine List.ext_getElem? fun i => ?_
    by_cases hi : i < a.length
    · have := (h (a.length - 1 - i) (Nat.zero_le _) (by omega)).2
      rwa [show a.length - 1 - (a.length - 1 - i) = i by omega, show b.length - 1 - (a.length - 1 - i) = i by omega] at this
    · rw [List.getElem?_eq_none (by omega), List.getElem?_eq_none (by omega)]
  · exact h
theorem gd_of {e : En} (h : goodB e = true) : Gd e := good_parts h
theorem sumdS_short (cut : Nat) (l : List En) (i : Nat) (hi : i < l.length) (h : l.all goodB = true) : (sumdS cut l i).length ≤ 6000 := by
  have e : l.getD i enZ = l[i] := by simp [List.getD_eq_getElem?_getD, hi]
  have g := good_parts (List.all_eq_true.1 h _ (List.getElem_mem hi))
  have d := (l[i]).len
  have t : ((linkS cut l i).take cut).length ≤ 32 := by rw [List.length_take, linkS_len]; omega
  unfold sumdS
  rw [e, List.length_append]
  have : (bytesS i l[i]).length ≤ 5000 := by
    have := g.1; have := g.2.2.2
    simp [bytesS, numS_len]; omega
  omega
/-- what the law may meet -/
theorem found_cases (cut : Int) (a b : List En) (hna : a.length ≤ 1000) (hnb : b.length ≤ 1000) :
    (headE cut a = 1 ∧ clashR cut a b = ([], [], false)) ∨ (headE cut a = 0 ∧ headE cut b = 1 ∧ clashR cut a b = ([], [], false)) ∨
    (headE cut a = 0 ∧ headE cut b = 0 ∧ headS cut a ≠ headS cut b ∧ clashR cut a b = ([], [], false)) ∨
    (headE cut a = 0 ∧ headE cut b = 0 ∧ headS cut a = headS cut b ∧ (a = b ∨ a.length = 0 ∨ b.length = 0) ∧ clashR cut a b = ([], [], false)) ∨
    (headE cut a = 0 ∧ headE cut b = 0 ∧ headS cut a = headS cut b ∧ a ≠ b ∧ 0 < a.length ∧ 0 < b.length ∧ ∃ (n : Nat) (X Y : List UInt8), cut = (n : Int) ∧ n ≤ 32 ∧ clashR cut a b = (X, Y, true) ∧ X ≠ Y ∧ (sumS X).take n = (sumS Y).take n ∧ X.length ≤ 6000 ∧ Y.length ≤ 6000) := by
  unfold clashR headE
  cases e1 : okS cut a with
  | false => exact .inl ⟨by simp, by simp⟩
  | true =>
    cases e2 : okS cut b with
    | false => exact .inr (.inl ⟨by simp, by simp, by simp⟩)
    | true =>
      obtain ⟨h1, h2, h3⟩ := okS_parts e1
      obtain ⟨_, _, h4⟩ := okS_parts e2
      obtain ⟨n, rfl⟩ : ∃ n : Nat, cut = (n : Int) := ⟨cut.toNat, by omega⟩
      have sa : headS (n : Int) a = (linkS n a a.length).take n := by unfold headS; rw [if_pos e1]; rfl
      have sb : headS (n : Int) b = (linkS n b b.length).take n := by unfold headS; rw [if_pos e2]; rfl
      rw [sa, sb, Int.toNat_natCast]
      by_cases hh : (linkS n a a.length).take n = (linkS n b b.length).take n
      · have hc : clsS n a b = clsF (prsS n a b) := by unfold clsS; rw [if_pos (by rw [hh]; simp)]
        by_cases h0 : a = b ∨ a.length = 0 ∨ b.length = 0
        · refine .inr (.inr (.inr (.inl ⟨by simp, by simp, hh, h0, ?_⟩)))
          simp only [Bool.and_self, if_true]
          rcases h0 with h0 | h0
          · subst h0; rw [hc]; exact cls_self n a
          · exact clsS_empty n a b h0
        · have hab : a ≠ b := fun h => h0 (.inl h)
          have ha0 : 0 < a.length := by omega
          have hb0 : 0 < b.length := by omega
          obtain ⟨X, Y, r1, r2, r3, ⟨i, hi, rfl⟩, ⟨j, hj, rfl⟩⟩ := cls_found n a b (by omega) (fun e he => gd_of (List.all_eq_true.1 h3 e he)) (fun e he => gd_of (List.all_eq_true.1 h4 e he)) hna hnb ha0 hb0 hh hab
          refine .inr (.inr (.inr (.inr ⟨by simp, by simp, hh, hab, ha0, hb0, n, _, _, rfl, by omega, ?_, r2, r3, sumdS_short n a i hi h3, sumdS_short n b j hj h4⟩)))
          simp only [Bool.and_self, if_true]
          rw [hc]; exact r1
      · refine .inr (.inr (.inl ⟨by simp, by simp, hh, ?_⟩))
        simp only [Bool.and_self, if_true]
        unfold clsS
        rw [if_neg (by simpa using hh)]

theorem run_items8 (d : Nat) (A B : List UInt8) (w : World) : ∀ is : List Nat, (∀ i ∈ is, i < A.length ∧ i < B.length) → (Op.eqItems (d + 1) 5 1 (cells8 A).toArray (cells8 B).toArray is).run Tryd.prog w = .ok (is.all fun i => A[i]? == B[i]?) w
  | [], _ => by simp [Op.eqItems]
  | i :: is, h => by
    have hi := h i (by simp)
    have hagg : (isAgg 5).run Tryd.prog w = .ok false w := by
      unfold isAgg
      rw [Sem.run_bind, run_underlying Tryd.underlying5 w]
      rfl
    have hp : ∀ (S : List UInt8) (hS : i < S.length), (part 5 (cells8 S).toArray (i * 1)).run Tryd.prog w = .ok (B8 S[i]) w := fun S hS => by
      have hv : (cells8 S).toArray[i]? = some (B8 S[i]) := by simp [cells8, List.getElem?_eq_getElem hS]
      simp [part, hagg, hv, Result.andThen]
    have he : (Op.equalIn (d + 1) 5 (B8 A[i]) (B8 B[i])).run Tryd.prog w = .ok (A[i]? == B[i]?) w := by
      rw [List.getElem?_eq_getElem hi.1, List.getElem?_eq_getElem hi.2]
      rw [show B8 A[i] = .int .u8 (A[i].toNat : Int) from rfl, show B8 B[i] = .int .u8 (B[i].toNat : Int) from rfl, run_equalIn_int w d 5 .u8 .u8 _ _ Tryd.underlying5]
      have hb : ∀ x y : UInt8, ((x.toNat : Int) == (y.toNat : Int)) = (some x == some y) := fun x y => by
        rw [Bool.eq_iff_iff]
        simp only [beq_iff_eq, Option.some.injEq]
        constructor
        · intro e; exact UInt8.toNat_inj.1 (by omega)
        · rintro rfl; rfl
      rw [hb]
    simp only [Op.eqItems, Sem.run_bind, hp A hi.1, hp B hi.2, he, Result.andThen_ok]
    cases hb : (A[i]? == B[i]?) with
    | false => simp [hb]
    | true => simpa [hb] using run_items8 d A B w is (fun j hj => h j (by simp [hj]))
theorem all_eq32 {A B : List UInt8} (hA : A.length = 32) (hB : B.length = 32) : ((List.range 32).all fun i => A[i]? == B[i]?) = decide (A = B) := by
  rw [Bool.eq_iff_iff, List.all_eq_true, decide_eq_true_eq]
  constructor
  · intro h
    refine List.ext_getElem? fun i => ?_
    by_cases hi : i < 32
    · simpa using h i (List.mem_range.2 hi)
    · rw [List.getElem?_eq_none (by omega), List.getElem?_eq_none (by omega)]
  · rintro rfl i _
    simp
theorem run_eq32 (d : Nat) (A B : List UInt8) (hA : A.length = 32) (hB : B.length = 32) (w : World) : (Op.equalIn (d + 1 + 1) 22 (.agg (cells8 A).toArray) (.agg (cells8 B).toArray)).run Tryd.prog w = .ok (decide (A = B)) w := by
  obtain ⟨i, hi, _, _, _⟩ := info_parts info8
  rw [run_equalIn_array (P := Tryd.prog) (w := w) (d + 1) _ _ Tryd.underlying22 hi, show Tryd.prog.cellsOf 5 = 1 by kernel_rfl, ← all_eq32 hA hB]
  exact run_items8 d A B w _ (fun j hj => by rw [hA, hB]; exact ⟨List.mem_range.1 hj, List.mem_range.1 hj⟩)
theorem part_one {t : TypeId} {cs : Array Value} {off : Nat} {v : Value} (h : ∀ wx, (isAgg t).run Tryd.prog wx = .ok false wx) (hv : cs[off]? = some v) (w : World) : (part t cs off).run Tryd.prog w = .ok v w := by
  simp [part, h, hv, Result.andThen]
theorem agg_str (w : World) : (isAgg 9).run Tryd.prog w = .ok false w := by unfold isAgg; rw [Sem.run_bind, run_underlying Tryd.underlying9 w]; rfl
theorem agg_int (w : World) : (isAgg 2).run Tryd.prog w = .ok false w := by unfold isAgg; rw [Sem.run_bind, run_underlying Tryd.underlying2 w]; rfl
theorem agg_arr (w : World) : (isAgg 22).run Tryd.prog w = .ok true w := by unfold isAgg; rw [Sem.run_bind, run_underlying Tryd.underlying22 w]; rfl
theorem part_dig (e : En) (w : World) : (part 22 e.cells.toArray 3).run Tryd.prog w = .ok (.agg (cells8 e.dig).toArray) w := by
  have h32 : (Tryd.prog.info? 22).map (·.size) = some 32 := by kernel_rfl
  cases hq : Tryd.prog.info? 22 with
  | none => rw [hq] at h32; cases h32
  | some i =>
    rw [hq] at h32
    have hz : i.size = 32 := by simpa using h32
    have he : List.take 32 (List.drop 3 e.cells) = cells8 e.dig := by
      show List.take 32 (cells8 e.dig) = _
      exact List.take_of_length_le (by rw [cells8_len, e.len]; exact Nat.le_refl _)
    simp [part, agg_arr, Result.andThen, sizeOf, typeInfo, hq, hz, he]
theorem eqFields_step {d : Nat} {xs ys : Array Value} {f : Field} {fs : List Field} {a b : Value} {r : Bool} {w : World} (hn : (f.name == "_") = false) (ha : (part f.type xs f.offset).run Tryd.prog w = .ok a w) (hb : (part f.type ys f.offset).run Tryd.prog w = .ok b w)
    (he : (Op.equalIn d f.type a b).run Tryd.prog w = .ok r w) : (Op.eqFields d xs ys (f :: fs)).run Tryd.prog w = if r = true then (Op.eqFields d xs ys fs).run Tryd.prog w else .ok false w := by
  simp only [Op.eqFields, if_pos (beq_eq_false_iff_ne.1 hn), Sem.run_bind, ha, hb, he, Result.andThen_ok]
  cases r <;> simp
/-- two entries are one -/
def eqE (e f : En) : Bool := (e.user == f.user) && ((e.tick == f.tick) && ((e.text == f.text) && decide (e.dig = f.dig)))
theorem eqE_iff {e f : En} : eqE e f = true ↔ e = f := by
  obtain ⟨u, t, x, d, l⟩ := e
  obtain ⟨u', t', x', d', l'⟩ := f
  have hb : ∀ a b : ByteArray, (a == b) = true ↔ a = b := fun a b => by
    rw [beq_toListBytes, beq_iff_eq, ByteArray.toList_eq, ByteArray.toList_eq]
    exact ⟨ba_ext, fun h => by rw [h]⟩
  simp [eqE, En.mk.injEq, hb]
set_option maxRecDepth 100000 in
theorem run_eqE (e f : En) (w : World) : (Op.equalIn 10000 24 (.agg e.cells.toArray) (.agg f.cells.toArray)).run Tryd.prog w = .ok (eqE e f) w := by
  have hu : ∀ e : En, (part 9 e.cells.toArray 0).run Tryd.prog w = .ok (.string e.user) w := fun e => part_one agg_str rfl w
  have ht : ∀ e : En, (part 2 e.cells.toArray 1).run Tryd.prog w = .ok (.int .i64 e.tick) w := fun e => part_one agg_int rfl w
  have hx : ∀ e : En, (part 9 e.cells.toArray 2).run Tryd.prog w = .ok (.string e.text) w := fun e => part_one agg_str rfl w
  have q1 : (Op.equalIn (9998 + 1) 9 (.string e.user) (.string f.user)).run Tryd.prog w = .ok (e.user.toList == f.user.toList) w := run_equalIn_string w 9998 _ _ _ Tryd.underlying9
  have q2 : (Op.equalIn (9998 + 1) 2 (.int .i64 e.tick) (.int .i64 f.tick)).run Tryd.prog w = .ok (e.tick == f.tick) w := run_equalIn_int w 9998 _ _ _ _ _ Tryd.underlying2
  have q3 : (Op.equalIn (9998 + 1) 9 (.string e.text) (.string f.text)).run Tryd.prog w = .ok (e.text.toList == f.text.toList) w := run_equalIn_string w 9998 _ _ _ Tryd.underlying9
  have q4 := run_eq32 9997 e.dig f.dig e.len f.len w
  rw [← beq_toListBytes] at q1 q3
  rw [run_equalIn_struct w 9999 24 _ _ (by kernel_rfl) (by kernel_rfl)]
  have hfs : (Tryd.prog.fieldsOf 24).toList.map (fun f => (f.name == "_", f.type, f.offset)) = [(false, 9, 0), (false, 2, 1), (false, 9, 2), (false, 22, 3)] := by kernel_rfl
  generalize (Tryd.prog.fieldsOf 24).toList = fs at hfs
  obtain ⟨f0, r0, rfl, e0, hfs⟩ := List.map_eq_cons_iff.1 hfs
  obtain ⟨f1, r1, rfl, e1, hfs⟩ := List.map_eq_cons_iff.1 hfs
  obtain ⟨f2, r2, rfl, e2, hfs⟩ := List.map_eq_cons_iff.1 hfs
  obtain ⟨f3, r3, rfl, e3, hfs⟩ := List.map_eq_cons_iff.1 hfs
  obtain rfl := List.map_eq_nil_iff.1 hfs
  simp only [Prod.mk.injEq] at e0 e1 e2 e3
  obtain ⟨n0, t0, o0⟩ := e0
  obtain ⟨n1, t1, o1⟩ := e1
  obtain ⟨n2, t2, o2⟩ := e2
  obtain ⟨n3, t3, o3⟩ := e3
  rw [eqFields_step n0 (by rw [t0, o0]; exact hu e) (by rw [t0, o0]; exact hu f) (by rw [t0]; exact q1)]
  rw [eqFields_step n1 (by rw [t1, o1]; exact ht e) (by rw [t1, o1]; exact ht f) (by rw [t1]; exact q2)]
  rw [eqFields_step n2 (by rw [t2, o2]; exact hx e) (by rw [t2, o2]; exact hx f) (by rw [t2]; exact q3)]
  rw [eqFields_step n3 (by rw [t3, o3]; exact part_dig e w) (by rw [t3, o3]; exact part_dig f w) (by rw [t3]; exact q4)]
  unfold eqE
  cases (e.user == f.user)
  · rfl
  cases (e.tick == f.tick)
  · rfl
  cases (e.text == f.text)
  · rfl
  cases (decide (e.dig = f.dig))
  · rfl
  · simp [Op.eqFields]

theorem run_neE (e f : En) (ev : Operand → Value) (o : Oper) (w : World) (h1 : o.op = .binOp .neq 24 (.tmp 20) (.tmp 24) 24) (h2 : ev (.tmp 20) = .agg e.cells.toArray ∧ ev (.tmp 24) = .agg f.cells.toArray) :
    (execOp ev o).run Tryd.prog w = .ok (.value (.bool (!(eqE e f)))) w := by
  have hm : Tryd.prog.eqGuardType Tryd.prog.depth 24 = false := by kernel_rfl
  unfold execOp
  simp only [h1, h2.1, h2.2]
  simp only [Sem.run_bind, run_eqGuard_agg _ _ _ _ _ _ _ hm, run_neq_struct, run_eqE, Result.andThen_ok, Sem.run_pure]
structure SmR (w w' : World) (r : Ending) (a b : List En) : Prop where
  ex : ∃ k : Bool, r = .returned (.bool k) ∧ (k = true ↔ a = b)
  bel : Below w.heap.size w w'
set_option maxRecDepth 100000 in
set_option maxHeartbeats 4000000 in
theorem refsame_any (q1 : Option Addr) (a : List En) (c1 : Nat) (q2 : Option Addr) (b : List En) (c2 : Nat) (w : World) (hA : Ens w q1 a) (hB : Ens w q2 b) (hna : a.length ≤ 1000) (hnb : b.length ≤ 1000) :
    Calls Tryd.prog 28 #[.slice q1 a.length c1, .slice q2 b.length c2] w fun r w' => SmR w w' r a b := by
  have HI0 := Lib.hid (show Rc w w q1 a q2 b from ⟨hA, hB, Below.refl _ _⟩)
  clear hA hB
  by_cases hl : a.length = b.length
  · have z0 : ((b.length : Int) != (b.length : Int)) = false := by simp
    have HL := Lib.hid hl
    rw [hl]
    clear hl
    go_enter Tryd.func28, Tryd.ntmps28
    go_wp2_with fail
    go_loopw [5] (fun i wr => ∃ k : Nat, k ≤ b.length ∧ i = .int .i64 (k : Int) ∧ Hid (a.take k = b.take k) ∧ Rc wr w q1 a q2 b) (fun i _ => b.length - (intOf i).toNat)
    case atStart => exact ⟨0, Nat.zero_le _, rfl, Lib.hid (by simp), HI0.out⟩
    case round =>
      clear HI0
      obtain ⟨k, hk, rfl, HT, hci⟩ := hrel
      have HI := Lib.hid hci
      clear hci
      by_cases hlt : k < b.length
      · have la : k < a.length := by rw [HL.out]; exact hlt
        have k0 : (0 : Int) ≤ (k : Int) := by omega
        have k1 : (k : Int) < (b.length : Int) := by omega
        have k6 : IntKind.i64.wrap ((k : Int) + 1) = (k : Int) + 1 := IntWalk.i64_in _ (by omega)
        go_upto_region 6 with fail
        have HD := Lib.hid (HI.out.on (Below.refl _ _).drew)
        obtain ⟨ba, oa, rfl, _, hra⟩ := HD.out.ea.at k la
        obtain ⟨bb, ob, rfl, _, hrb⟩ := HD.out.eb.at k hlt
        have HRG := Lib.hid (show wr.drew.rangeAt ba (oa + k * 35) (a[k]).cells ∧ wr.drew.rangeAt bb (ob + k * 35) (b[k]).cells from ⟨hra, hrb⟩)
        have HTA := Lib.hid (List.take_succ_eq_append_getElem la)
        have HTB := Lib.hid (List.take_succ_eq_append_getElem hlt)
        have HGA := Lib.hid (List.getElem?_eq_getElem la)
        have HGB := Lib.hid (List.getElem?_eq_getElem hlt)
        clear hra hrb HI
        generalize a[k] = xa at *
        generalize b[k] = xb at *
        refine wp_region_held_drew (S := fun X => X.rangeAt ba (oa + k * 35) xa.cells ∧ X.rangeAt bb (ob + k * 35) xb.cells) (by kernel_rfl) HRG.out (fun hHeld => ?_)
        refine wpAnyH_take (i := 0) (v := ?_) rfl (by kernel_rfl) (by kernel_rfl) (by kernel_rfl) (fun _ _ _ h => h) (Or.inl ⟨by rfl, ?hy⟩) (by assumption) ?_
        case hy =>
          intro w hSw
          go_simp
          all_goals with_reducible rfl
        (try simp only [Act.put, List.getElem_toArray, List.getElem_cons_succ, List.getElem_cons_zero, List.setIfInBounds_toArray, List.set_cons_zero, List.set_cons_succ])
        refine wpAnyH_take (i := 1) (v := ?_) rfl (by kernel_rfl) (by kernel_rfl) (by kernel_rfl) (fun _ _ _ h => h) (Or.inl ⟨by rfl, ?hy⟩) (by assumption) ?_
        case hy =>
          intro w hSw
          go_simp
          all_goals with_reducible rfl
        (try simp only [Act.put, List.getElem_toArray, List.getElem_cons_succ, List.getElem_cons_zero, List.setIfInBounds_toArray, List.set_cons_zero, List.set_cons_succ])
        refine wpAnyH_take (i := 2) (v := ?_) rfl (by kernel_rfl) (by kernel_rfl) (by kernel_rfl) (fun _ _ _ h => h) (Or.inl ⟨by rfl, ?hy⟩) (by assumption) ?_
        case hy =>
          intro w hSw
          go_simp
          all_goals with_reducible rfl
        (try simp only [Act.put, List.getElem_toArray, List.getElem_cons_succ, List.getElem_cons_zero, List.setIfInBounds_toArray, List.set_cons_zero, List.set_cons_succ])
        refine wpAnyH_take (i := 3) (v := .agg xa.cells.toArray) rfl (by kernel_rfl) (by kernel_rfl) (by kernel_rfl) (fun _ _ _ h => h) (yieldsIf_load_mid (by rfl) 24 (.tmp 19) rfl ba (oa + k * 35) (by rfl) _ _ (fun _ h => h.1) Tryd.underlying24 rfl (by rw [En.length]; kernel_rfl)) (by assumption) ?_
        (try simp only [Act.put, List.getElem_toArray, List.getElem_cons_succ, List.getElem_cons_zero, List.setIfInBounds_toArray, List.set_cons_zero, List.set_cons_succ])
        refine wpAnyH_take (i := 4) (v := ?_) rfl (by kernel_rfl) (by kernel_rfl) (by kernel_rfl) (fun _ _ _ h => h) (Or.inl ⟨by rfl, ?hy⟩) (by assumption) ?_
        case hy =>
          intro w hSw
          go_simp
          all_goals with_reducible rfl
        (try simp only [Act.put, List.getElem_toArray, List.getElem_cons_succ, List.getElem_cons_zero, List.setIfInBounds_toArray, List.set_cons_zero, List.set_cons_succ])
        refine wpAnyH_take (i := 5) (v := ?_) rfl (by kernel_rfl) (by kernel_rfl) (by kernel_rfl) (fun _ _ _ h => h) (Or.inl ⟨by rfl, ?hy⟩) (by assumption) ?_
        case hy =>
          intro w hSw
          go_simp
          all_goals with_reducible rfl
        (try simp only [Act.put, List.getElem_toArray, List.getElem_cons_succ, List.getElem_cons_zero, List.setIfInBounds_toArray, List.set_cons_zero, List.set_cons_succ])
        refine wpAnyH_take (i := 6) (v := ?_) rfl (by kernel_rfl) (by kernel_rfl) (by kernel_rfl) (fun _ _ _ h => h) (Or.inl ⟨by rfl, ?hy⟩) (by assumption) ?_
        case hy =>
          intro w hSw
          go_simp
          all_goals with_reducible rfl
        (try simp only [Act.put, List.getElem_toArray, List.getElem_cons_succ, List.getElem_cons_zero, List.setIfInBounds_toArray, List.set_cons_zero, List.set_cons_succ])
        refine wpAnyH_take (i := 7) (v := .agg xb.cells.toArray) rfl (by kernel_rfl) (by kernel_rfl) (by kernel_rfl) (fun _ _ _ h => h) (yieldsIf_load_mid (by rfl) 24 (.tmp 23) rfl bb (ob + k * 35) (by rfl) _ _ (fun _ h => h.2) Tryd.underlying24 rfl (by rw [En.length]; kernel_rfl)) (by assumption) ?_
        (try simp only [Act.put, List.getElem_toArray, List.getElem_cons_succ, List.getElem_cons_zero, List.setIfInBounds_toArray, List.set_cons_zero, List.set_cons_succ])
        refine wpAnyH_take (i := 8) (v := .bool (!(eqE xa xb))) rfl (by kernel_rfl) (by kernel_rfl) (by kernel_rfl) (fun _ _ _ h => h) (Or.inl ⟨by rfl, ?hy⟩) (by assumption) ?_
        case hy =>
          intro wx hSw
          exact run_neE xa xb _ _ wx rfl ⟨rfl, rfl⟩
        (try simp only [Act.put, List.getElem_toArray, List.getElem_cons_succ, List.getElem_cons_zero, List.setIfInBounds_toArray, List.set_cons_zero, List.set_cons_succ])
        refine wpAnyH_done (by kernel_rfl) ?_ _
        rcases Bool.eq_false_or_eq_true (eqE xa xb) with he | he
        · rw [he]
          have HT2 := Lib.hid (show a.take (k + 1) = b.take (k + 1) by rw [HTA.out, HTB.out, HT.out, eqE_iff.1 he])
          go_wp2_with fail
          go_roundw
          case rel => exact ⟨k + 1, by omega, by go_num, HT2, HD.out⟩
          case measure => simp [intOf]; try omega
        · rw [he]
          have HNE := Lib.hid (show a ≠ b by
            rintro rfl
            have e := HGA.out.symm.trans HGB.out
            rw [eqE_iff.2 (Option.some.inj e)] at he
            cases he)
          go_wp2_with fail
          go_ret
          exact ⟨⟨false, rfl, ⟨(fun h => by cases h), (fun h => absurd h HNE.out)⟩⟩, HD.out.bel⟩
      · obtain rfl : k = b.length := by omega
        have HE := Lib.hid (show a = b by
          have h := HT.out
          rw [List.take_length, ← HL.out, List.take_length] at h
          exact h)
        obtain ⟨wq, rfl⟩ : ∃ wq : World, wq = wr := ⟨_, rfl⟩
        go_wp2_with fail
        go_ret
        exact ⟨⟨true, rfl, ⟨fun _ => HE.out, fun _ => rfl⟩⟩, HI.out.bel⟩
  · have z0 : ((a.length : Int) != (b.length : Int)) = true := by rw [bne_iff_ne]; omega
    go_enter Tryd.func28, Tryd.ntmps28
    go_wp2_with fail
    go_ret
    exact ⟨⟨false, rfl, ⟨(fun h => by cases h), (fun h => absurd (congrArg List.length h) hl)⟩⟩, HI0.out.bel⟩
end Go.Proofs.YtammglimobninaaDoor
