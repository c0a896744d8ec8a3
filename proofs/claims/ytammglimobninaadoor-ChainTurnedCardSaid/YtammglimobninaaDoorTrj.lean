/-
  Bnd, Eow, Ace, Trw, Tra joined.
-/
import Derived.Test.YtammglimobninaaDoorFes
import Derived.Test.YtammglimobninaaDoorSum
import Derived.Test.YtammglimobninaaDoorCba
import Derived.Test.YtammglimobninaaDoorRws
import Derived.Deep.RegionHeld3
set_option linter.unusedVariables false
set_option linter.unusedSimpArgs false
namespace Go.Proofs.YtammglimobninaaDoor
open Go.RowKit Nm

theorem run_item8T (d : Nat) (S : List UInt8) (w : World) : ∀ is : List Nat, (∀ i ∈ is, i < S.length) → (Op.eqItems (d + 1) 5 1 (cells8 S).toArray (cells8 S).toArray is).run Tryd.prog w = .ok true w
  | [], _ => by simp [Op.eqItems]
  | i :: is, h => by
    have hi := h i (by simp)
    have hp : (part 5 (cells8 S).toArray (i * 1)).run Tryd.prog w = .ok (B8 S[i]) w := by
      have hagg : (isAgg 5).run Tryd.prog w = .ok false w := by
        unfold isAgg
        rw [Sem.run_bind, run_underlying Tryd.underlying5 w]
        rfl
      have hv : (cells8 S).toArray[i]? = some (B8 S[i]) := by simp [cells8, List.getElem?_eq_getElem hi]
      simp [part, hagg, hv, Result.andThen]
    have he : (Op.equalIn (d + 1) 5 (B8 S[i]) (B8 S[i])).run Tryd.prog w = .ok true w := by
      simp [Op.equalIn, run_underlying Tryd.underlying5]
    simp only [Op.eqItems, Sem.run_bind, hp, he, Result.andThen_ok]
    simpa using run_item8T d S w is (fun j hj => h j (by simp [hj]))
theorem run_eqIn8T (S : List UInt8) (hS : S.length = 32) (w : World) : (Op.equalIn 10000 22 (.agg (cells8 S).toArray) (.agg (cells8 S).toArray)).run Tryd.prog w = .ok true w := by
  obtain ⟨i, hi, _, _, _⟩ := info_parts info8
  show (Op.equalIn (9999 + 1) _ _ _).run _ w = _
  rw [run_equalIn_array (P := Tryd.prog) (w := w) 9999 _ _ Tryd.underlying22 hi, show Tryd.prog.cellsOf 5 = 1 by kernel_rfl]
  exact run_item8T 9998 S w _ (fun j hj => by rw [hS]; exact List.mem_range.1 hj)

/-- what bound may meet -/
theorem bound_cases (l m : List En) (h0 : 0 < l.length) (hl : okS 32 l = true) (hm : okS 32 m = true) (hna : l.length ≤ 1000) (hnb : m.length ≤ 1000) :
    verS 32 m (headS 32 l) = 23 ∨ (verS 32 m (headS 32 l) = 0 ∧ (l = m ∨ m.length = 0)) ∨
    (verS 32 m (headS 32 l) = 0 ∧ l ≠ m ∧ 0 < m.length ∧ ∃ X Y : List UInt8, clashR 32 l m = (X, Y, true) ∧ X ≠ Y ∧ sumS X = sumS Y ∧ X.length ≤ 6000 ∧ Y.length ≤ 6000) := by
  have hv : verS 32 m (headS 32 l) = if headS 32 m = headS 32 l then 0 else 23 := by
    unfold verS; rw [if_pos hm]
    by_cases h : headS 32 m = headS 32 l
    · rw [if_pos h, if_pos (by rw [h]; simp)]
    · rw [if_neg h, if_neg (by simpa using h)]
  have el : headE 32 l = 0 := by unfold headE; rw [if_pos hl]
  have em : headE 32 m = 0 := by unfold headE; rw [if_pos hm]
  by_cases h : headS 32 m = headS 32 l
  · rw [if_pos h] at hv
    rcases found_cases 32 l m hna hnb with ⟨e, _⟩ | ⟨_, e, _⟩ | ⟨_, _, hne, _⟩ | ⟨_, _, _, h0', _⟩ | ⟨_, _, _, hab, _, hm0, n, X, Y, hn, hn2, hc, hxy, hs, hlx, hly⟩
    · rw [el] at e; cases e
    · rw [em] at e; cases e
    · exact absurd h.symm hne
    · rcases h0' with e | e | e
      · exact .inr (.inl ⟨hv, .inl e⟩)
      · omega
      · exact .inr (.inl ⟨hv, .inr e⟩)
    · obtain rfl : n = 32 := by omega
      rw [List.take_of_length_le (by rw [sumS_len]; exact Nat.le_refl _), List.take_of_length_le (by rw [sumS_len]; exact Nat.le_refl _)] at hs
      exact .inr (.inr ⟨hv, hab, hm0, X, Y, hc, hxy, hs, hlx, hly⟩)
  · rw [if_neg h] at hv
    exact .inl hv
set_option maxRecDepth 100000 in
set_option maxHeartbeats 8000000 in
theorem bound_any (q1 : Option Addr) (l : List En) (c1 : Nat) (q2 : Option Addr) (m : List En) (c2 : Nat) (q3 : Option Addr) (c3 : Nat) (w : World) (hE : Env w) (hA : Ens w q1 l) (hB : Ens w q2 m) (hH : Rd0 w q3 (headS 32 l))
    (h0 : 0 < l.length) (hl : okS 32 l = true) (hm : okS 32 m = true) (hna : l.length ≤ 1000) (hnb : m.length ≤ 1000) :
    Calls Tryd.prog 30 #[.slice q1 l.length c1, .slice q2 m.length c2, .slice q3 (headS 32 l).length c3] w fun r w' => r = .returned (.bool true) ∧ Below w.heap.size w w' := by
  have HE := Lib.hid hE
  have HA := Lib.hid (show Rc w w q1 l q2 m from ⟨hA, hB, Below.refl _ _⟩)
  have HF := Lib.hid (bound_cases l m h0 hl hm hna hnb)
  have HN := Lib.hid (And.intro hna hnb)
  have C1 := Lib.hid (cverify_any 32 q2 m c2 q3 (headS 32 l) c3 w hE hB (by omega) hH)
  have C3 := Lib.hid (fun X (h0 : Env X) (h1 : Ens X q1 l) (h2 : Ens X q2 m) => cclash_both 32 q1 l c1 q2 m c2 X h0 h1 h2 (by have := HN.out; omega) (by have := HN.out; omega))
  have C4 := Lib.hid (fun X (h1 : Ens X q1 l) (h2 : Ens X q2 m) => refsame_any q1 l c1 q2 m c2 X h1 h2 (by have := HN.out; omega) (by have := HN.out; omega))
  clear hE hA hB hH h0 hl hm hna hnb
  generalize clashR 32 l m = R at *
  generalize headS 32 l = LA at *
  generalize verS 32 m LA = ev at *
  obtain ⟨X, Y, k⟩ := R
  rcases HF.out with rfl | ⟨rfl, e⟩ | ⟨rfl, hab, h0, X', Y', e, hxy, hs, hlx, hly⟩
  · clear HF C3 C4
    go_enter Tryd.func30, Tryd.ntmps30
    go_wp2_with (go_at_call 18; refine C1.out.mono ?_; rintro r w1 ⟨rfl, hb⟩; have HA1 := Lib.hid (HA.out.on hb); clear hb)
    go_ret
    exact ⟨by rfl, HA1.out.bel⟩
  · clear HF C3
    have HSE := Lib.hid e
    by_cases hlm : l = m
    · have HLM := Lib.hid hlm
      clear hlm e
      go_enter Tryd.func30, Tryd.ntmps30
      go_wp2_with (first
        | (go_at_call 28; refine (C4.out _ HA1.out.ea HA1.out.eb).mono ?_; rintro r w2 ⟨⟨s, rfl, hs⟩, hb⟩; obtain rfl := hs.2 HLM.out; clear hs; have HA2 := Lib.hid (HA1.out.on hb); clear hb)
        | (go_at_call 18; refine C1.out.mono ?_; rintro r w1 ⟨rfl, hb⟩; have HA1 := Lib.hid (HA.out.on hb); clear hb))
      go_ret
      exact ⟨by rfl, HA2.out.bel⟩
    · have HLM := Lib.hid hlm
      have z1 : ((m.length : Int) == 0) = true := by
        rcases e with e | e
        · exact absurd e hlm
        · rw [beq_iff_eq]; omega
      clear hlm e
      go_enter Tryd.func30, Tryd.ntmps30
      go_wp2_with (first
        | (go_at_call 28; refine (C4.out _ HA1.out.ea HA1.out.eb).mono ?_; rintro r w2 ⟨⟨s, rfl, hs⟩, hb⟩; have hs2 : s = false := Bool.eq_false_iff.2 (fun h => HLM.out (hs.1 h)); subst hs2; clear hs; have HA2 := Lib.hid (HA1.out.on hb); clear hb)
        | (go_at_call 18; refine C1.out.mono ?_; rintro r w1 ⟨rfl, hb⟩; have HA1 := Lib.hid (HA.out.on hb); clear hb))
      go_ret
      exact ⟨by rfl, HA2.out.bel⟩
  · cases e
    have HLM := Lib.hid hab
    have HLX := Lib.hid (And.intro hlx hly)
    have z1 : ((m.length : Int) == 0) = false := by rw [beq_eq_false_iff_ne]; omega
    have hx1 : (X == Y) = false := by simpa using hxy
    have hx2 : (X != Y) = true := by simpa [bne_iff_ne] using hxy
    obtain ⟨SX, hSX⟩ : ∃ SX, Hid (SX = sumS X) := ⟨_, Lib.hid rfl⟩
    have hSY := Lib.hid (show Hid (SX = sumS Y) from Lib.hid (by rw [hSX.out, hs]))
    have HQX := Lib.hid (show SX.length = 32 by rw [hSX.out]; exact sumS_len _)
    have heq := fun wx => run_eqIn8T SX HQX.out wx
    clear HF hab hs hlx hly hxy h0
    go_enter Tryd.func30, Tryd.ntmps30
    go_upto_region 5 with (first
      | (go_at_call 20; refine (C3.out _ (HE.out.on HA2.out.bel (HE.out.size)) HA2.out.ea HA2.out.eb).mono ?_; rintro r w3 ⟨⟨x1, d1, y1, e1, rfl, hX, hY, hcx, hcy⟩, hb⟩; have HA3 := Lib.hid (HA2.out.on hb); have HR3 := Lib.hid (show Rd0 w3 x1 X ∧ Rd0 w3 y1 Y from ⟨hX, hY⟩); have HCP := Lib.hid (And.intro hcx hcy); clear hb hX hY hcx hcy)
      | (go_at_call 28; refine (C4.out _ HA1.out.ea HA1.out.eb).mono ?_; rintro r w2 ⟨⟨s, rfl, hs⟩, hb⟩; have hs2 : s = false := Bool.eq_false_iff.2 (fun h => HLM.out (hs.1 h)); subst hs2; clear hs; have HA2 := Lib.hid (HA1.out.on hb); clear hb)
      | (go_at_call 18; refine C1.out.mono ?_; rintro r w1 ⟨rfl, hb⟩; have HA1 := Lib.hid (HA.out.on hb); clear hb))
    have v1 := run_back8 w3 x1 X d1 HR3.out.1
    have v2 := run_back8 w3 y1 Y e1 HR3.out.2
    have HV3 := Lib.hid (show Env w3 from HE.out.on HA3.out.bel HE.out.size)
    go_wp2_with (first
      | (go_at_call 29; refine (sum_any y1 e1 Y _ HR4.out HCP.out.2 HV4.out (by have := HLX.out.2; omega) SX hSY.out).mono ?_; rintro r w5 ⟨rfl, hb⟩; have HA5 := Lib.hid (HA4.out.on hb); clear hb)
      | (go_at_call 29; refine (sum_any x1 d1 X _ HR3.out.1 HCP.out.1 HV3.out (by have := HLX.out.1; omega) SX hSX).mono ?_; rintro r w4 ⟨rfl, hb⟩; have HA4 := Lib.hid (HA3.out.on hb); have HR4 := Lib.hid (HR3.out.2.on hb); have HV4 := Lib.hid (show Env w4 from HE.out.on HA4.out.bel HE.out.size); clear hb))
    go_ret
    exact ⟨by rfl, HA5.out.bel⟩

/-- the row's block, and what lies at its head -/
def Eo (w : World) (g : Nat) (l : List En) : Prop := ∃ rest : List Value, Bk w g 24 (flatE encEn l ++ rest).toArray
theorem flatEn_len (l : List En) : (flatE encEn l).length = l.length * 35 := flatE_length EE l
theorem flatE_app {α : Type} (enc : α → List Value) (a b : List α) : flatE enc (a ++ b) = flatE enc a ++ flatE enc b := by simp [flatE]
theorem flatE_cons {α : Type} (enc : α → List Value) (x : α) (b : List α) : flatE enc (x :: b) = enc x ++ flatE enc b := by simp [flatE]
theorem eo_of_owns {w : World} {base g c : Nat} {l : List En} (h : w.ownsRow base 24 35 (.slice (some ⟨g, 0, none⟩) l.length c) l.length (flatE encEn l)) : Eo w g l ∧ base ≤ g := by
  obtain ⟨_, h | ⟨g', cap, cur, hv, hb, hg, _, _, _, ht⟩⟩ := h
  · cases h.1
  · cases hv
    refine ⟨⟨cur.toList.drop (l.length * 35), ?_⟩, hb⟩
    rw [← ht, List.take_append_drop]
    exact hg
theorem Eo.lt {w : World} {g : Nat} {l : List En} (h : Eo w g l) : g < w.heap.size := by
  obtain ⟨r, h⟩ := h; exact h.lt
theorem Eo.on {w w' : World} {g : Nat} {l : List En} (h : Eo w g l) (hb : Below w.heap.size w w') : Eo w' g l := by
  obtain ⟨r, h⟩ := h; exact ⟨r, h.on hb⟩
theorem Eo.only {w w' : World} {g b : Nat} {l : List En} (h : Eo w g l) (hb : Only b w w') (hn : g ≠ b) : Eo w' g l := by
  obtain ⟨r, h⟩ := h; exact ⟨r, h.only hb hn⟩
theorem Eo.range {w : World} {g : Nat} {l : List En} (h : Eo w g l) (k : Nat) (hk : k < l.length) : w.rangeAt g (k * 35) (l[k]).cells := by
  obtain ⟨r, h⟩ := h
  intro j v hv
  have hj : j < 35 := by rw [← En.length (e := l[k])]; exact (List.getElem?_eq_some_iff.1 hv).1
  refine h.cell _ _ ?_
  have e := flatE_get EE l k hk j hj
  have hlt : k * 35 + j < (flatE encEn l).length := by
    rw [flatEn_len]
    have : (k + 1) * 35 ≤ l.length * 35 := Nat.mul_le_mul_right _ hk
    omega
  rw [List.toList_toArray, List.getElem?_append_left hlt, e]
  exact hv
theorem Eo.ens {w : World} {g : Nat} {l : List En} (h : Eo w g l) (hk : ∀ e ∈ l, e.Ok) : Ens w (some ⟨g, 0, none⟩) l :=
  ⟨.inr ⟨g, 0, rfl, h.lt, fun i hi => by rw [Nat.zero_add]; exact h.range i hi⟩, hk⟩
theorem Eo.there {w : World} {g : Nat} {l : List En} (h : Eo w g l) (k : Nat) (hk : k < l.length) : w.there g (k * 35) 35 := fun j hj => by
  have hr := h.range k hk j _ (List.getElem?_eq_getElem (by rw [En.length]; exact hj))
  obtain ⟨r, h⟩ := h
  exact ⟨by rw [hr]; rfl, h.soft _⟩
theorem Eo.put {w : World} {g : Nat} {l : List En} (h : Eo w g l) (k : Nat) (hk : k < l.length) (e : En) : Eo (w.setCells g (k * 35) e.cells) g (l.set k e) := by
  obtain ⟨r, h⟩ := h
  have hle : (k + 1) * 35 ≤ l.length * 35 := Nat.mul_le_mul_right _ hk
  have := Bk.sets e.cells (k * 35) w _ h (by rw [List.length_append, flatEn_len, En.length]; omega)
  refine ⟨r, ?_⟩
  have hs : l = l.take k ++ l[k] :: l.drop (k + 1) := by
    rw [List.getElem_cons_drop, List.take_append_drop]
  have hs2 : l.set k e = l.take k ++ e :: l.drop (k + 1) := by
    rw [List.set_eq_take_append_cons_drop, if_pos hk]
  have hA : (flatE encEn (l.take k)).length = k * 35 := by rw [flatEn_len, List.length_take, Nat.min_eq_left (Nat.le_of_lt hk)]
  have e1 : splice (flatE encEn l ++ r) (k * 35) e.cells = flatE encEn (l.set k e) ++ r := by
    have f1 : flatE encEn l = flatE encEn (l.take k) ++ ((l[k]).cells ++ flatE encEn (l.drop (k + 1))) := by
      rw [show (l[k]).cells = encEn l[k] from rfl, ← flatE_cons, ← flatE_app, ← hs]
    rw [f1, hs2, flatE_app, flatE_cons]
    unfold splice
    rw [En.length, List.append_assoc, List.append_assoc, List.take_left' hA, ← List.drop_drop, List.drop_left' hA, List.append_assoc, List.drop_left' (by rw [En.length]), List.append_assoc]
    rfl
  rw [e1] at this
  exact this
theorem Only.cells (g o : Nat) (w : World) (e : En) : Only g w (w.setCells g o e.cells) := Only.sets g e.cells o w
theorem En.all_ok {l : List En} {e : En} (h : ∀ x ∈ l, x.Ok) (he : e.Ok) (k : Nat) : ∀ x ∈ l.set k e, x.Ok := fun x hx => by
  rcases List.mem_or_eq_of_mem_set hx with h1 | h1
  · exact h x h1
  · subst h1; exact he
/-- what is good of a list is good of what is made of it -/
theorem all_set {l : List En} {e : En} (h : l.all goodB = true) (he : goodB e = true) (k : Nat) : (l.set k e).all goodB = true :=
  List.all_eq_true.2 fun x hx => by
    rcases List.mem_or_eq_of_mem_set hx with h1 | h1
    · exact List.all_eq_true.1 h x h1
    · subst h1; exact he
theorem okS_of {l m : List En} (h : okS 32 l = true) (hm : m.all goodB = true) : okS 32 m = true := by
  simp only [okS, Bool.and_eq_true] at h ⊢
  exact ⟨h.1, hm⟩
open Go.RowKit

/-- what is known of an element's type -/
structure TyE (P : Program) (t e : TypeId) (k bytes : Nat) : Prop where
  und : P.underlying t = some (.slice e)
  inf : ∃ i z, P.info? e = some i ∧ i.zero = some z ∧ i.size = k ∧ i.bytes = bytes ∧ z.cells.size = k
section
variable {α : Type} (enc : α → List Value) (k : Nat) (T : TypeId)
/-- a slice that holds these elements and may be appended to -/
def AccE (w : World) (base : Nat) (v : Value) (l : List α) : Prop :=
  (∃ p d, v = .slice p l.length d ∧ l.length ≤ d) ∧ ((l = [] ∧ Grw w base T k v 0 []) ∨ w.ownsRow base T k v l.length (flatE enc l))
end
section
variable {α : Type} {enc : α → List Value} {k : Nat} {T : TypeId}
theorem accE_nil {w : World} {base : Nat} : AccE enc k T w base (.slice none 0 0) [] := ⟨⟨none, 0, rfl, Nat.le_refl _⟩, .inl ⟨rfl, grw_nil⟩⟩
theorem accE_made {w : World} {base : Nat} (hb : base ≤ w.heap.size) : AccE enc k T (w.alloc (.cells #[] T)) base (.slice (some ⟨w.heap.size, 0, none⟩) 0 0) [] := ⟨⟨_, 0, rfl, Nat.le_refl _⟩, .inl ⟨rfl, grw_made hb⟩⟩
/-- an empty slice without room, whatever the base -/
theorem accE_zero {w : World} {base : Nat} (p : Option Addr) : AccE enc k T w base (.slice p 0 0) [] :=
  ⟨⟨p, 0, rfl, Nat.le_refl _⟩, .inl ⟨rfl, .inl ⟨p, rfl, fun _ => rfl, by simp, fun b _ j u hu => by simp at hu⟩⟩⟩
theorem ownsRow_low {w : World} {base base' n : Nat} {v : Value} {xs : List Value} (h : w.ownsRow base T k v n xs) (hb : base' ≤ base) : w.ownsRow base' T k v n xs := by
  obtain ⟨h1, h2⟩ := h
  refine ⟨h1, ?_⟩
  rcases h2 with h2 | ⟨g, cap, cur, h3, h4, h5⟩
  · exact .inl h2
  · exact .inr ⟨g, cap, cur, h3, Nat.le_trans hb h4, h5⟩
theorem AccE.low {w : World} {base base' : Nat} {v : Value} {l : List α} (h : AccE enc k T w base v l) (hb : base' ≤ base) : AccE enc k T w base' v l := by
  refine ⟨h.1, ?_⟩
  rcases h.2 with ⟨h0, h1⟩ | h1
  · refine .inl ⟨h0, ?_⟩
    rcases h1 with ⟨q, e1, e2, e3, e4⟩ | h1
    · exact .inl ⟨q, e1, e2, e3, fun b _ j u hu => by simp at hu⟩
    · exact .inr (ownsRow_low h1 hb)
  · exact .inr (ownsRow_low h1 hb)
theorem AccE.on {w w' : World} {base : Nat} {v : Value} {l : List α} (h : AccE enc k T w base v l) (hbase : base ≤ w.heap.size) (hb : Below w.heap.size w w') : AccE enc k T w' base v l :=
  ⟨h.1, h.2.imp (fun h => ⟨h.1, h.2.on hbase hb⟩) (fun h => owns_on h hb (Nat.le_refl _))⟩
theorem AccE.grw {w : World} {base : Nat} {v : Value} {l : List α} (h : AccE enc k T w base v l) : Grw w base T k v l.length (flatE enc l) := by
  obtain ⟨_, h2⟩ := h
  rcases h2 with ⟨hx, h2⟩ | h2
  · subst hx; exact h2
  · exact .inr h2
theorem AccE.form {w : World} {base : Nat} {v : Value} {l : List α} (h : AccE enc k T w base v l) : ∃ p d, v = .slice p l.length d ∧ l.length ≤ d := h.1
theorem AccE.rd (E : Enc enc k) {w : World} {base : Nat} {v : Value} {l : List α} (h : AccE enc k T w base v l) : ∃ p d, v = .slice p l.length d ∧ l.length ≤ d ∧ Rd enc k w w.heap.size p l := by
  obtain ⟨⟨p, d, hv, hd⟩, hg⟩ := h
  refine ⟨p, d, hv, hd, ?_⟩
  rcases hg with ⟨h, _⟩ | ho
  · exact .inl h
  by_cases h0 : l = []
  · exact .inl h0
  have hpos : 0 < l.length := List.length_pos_iff.2 h0
  obtain ⟨g, cap, hv', hge, hgl⟩ := ho.form hpos
  rw [hv] at hv'
  cases hv'
  subst hv
  exact rd_of_owns E hgl ho
/-- a list that is not empty lies in a row of the call's own -/
theorem AccE.owns {w : World} {base : Nat} {v : Value} {l : List α} (h : AccE enc k T w base v l) (h0 : 0 < l.length) : ∃ g d, v = .slice (some ⟨g, 0, none⟩) l.length d ∧ base ≤ g ∧ g < w.heap.size ∧ l.length ≤ d ∧ w.ownsRow base T k (.slice (some ⟨g, 0, none⟩) l.length d) l.length (flatE enc l) := by
  obtain ⟨⟨p, d, hv, hd⟩, hg⟩ := h
  rcases hg with ⟨h, _⟩ | ho
  · subst h; simp at h0
  · obtain ⟨g, cap, hv', hge, hgl⟩ := ho.form h0
    rw [hv] at hv'
    cases hv'
    subst hv
    exact ⟨g, d, rfl, hge, hgl, hd, ho⟩
theorem AccE.far {w : World} {base n d : Nat} {p : Option Addr} {l : List α} (h : AccE enc k T w base (.slice p n d) l) : l = [] ∨ ∀ b, p = some b → base ≤ b.block := by
  by_cases h0 : l = []
  · exact .inl h0
  · refine .inr fun b hb => ?_
    rcases h.2 with ⟨h1, _⟩ | ho
    · exact absurd h1 h0
    · exact (ho.lt b.block (by rw [hb]; rfl)).1
theorem run_append_zeroE {P : Program} (w : World) (t ty e : TypeId) (i : TypeInfo) (ht : P.underlying t = some (.slice e)) (hi : P.info? e = some i) (p q : Option Addr) (n d c : Nat) (hn : n ≤ d) : (Builtin.append_ #[t, t] ty #[.slice p n d, .slice q 0 c]).run P w = .ok (.slice p n d) w := by
  cases p <;> cases q <;> simp [Builtin.append_, run_underlying ht, sizeOf, typeInfo, hi, Builtin.lenOf, Builtin.firstCells, loadCells, loadCellsFrom, storeCells, Result.andThen, hn]
theorem run_appE {P : Program} (E : Enc enc k) {t ty : TypeId} {bytes : Nat} (I : TyE P t T k bytes) (w : World) (base : Nat) (v : Value) (l : List α) (hA : AccE enc k T w base v l) (q : Option Addr) (m : List α) (c : Nat) {B0 : Nat} (hR : Rd enc k w B0 q m) (h63 : l.length + m.length ≤ maxLen) (hz : (l.length + m.length) * bytes ≤ 140737488355328) (hbase : base ≤ w.heap.size) :
    ∃ v' w', (Builtin.append_ #[t, t] ty #[v, .slice q m.length c]).run P w = .ok v' w' ∧ AccE enc k T w' base v' (l ++ m) ∧ Below base w w' := by
  obtain ⟨i, z, hi, hz0, hz1, hz2, hz3⟩ := I.inf
  by_cases h0 : m = []
  · subst h0
    obtain ⟨⟨p, d, hv, hd⟩, hg⟩ := id hA
    rw [hv]
    refine ⟨_, w, run_append_zeroE w _ _ T i I.und hi p q _ d c hd, ?_, Below.refl _ _⟩
    rw [← hv, List.append_nil]; exact hA
  · have hpos : 0 < m.length := List.length_pos_iff.2 h0
    obtain ⟨b, off, rfl, _, _⟩ := hR.at 0 hpos
    obtain ⟨g, cap, w', hr, ho, hb, hge, hlt⟩ := run_append_grw (P := P) w t ty base T i z k bytes I.und hi hz0 hz1 hz2 hz3 E.pos v l.length (flatE enc l) hA.grw ⟨b, off, none⟩ m.length c (flatE enc m) (flatE_length E m) (flatE_cells E hpos hR) (flatE_one E m) hpos h63 hz hbase
    refine ⟨_, w', hr, ⟨⟨_, cap, by rw [List.length_append], ?_⟩, .inr ?_⟩, hb⟩
    · rcases ho.2 with ⟨h, _⟩ | ⟨_, _, _, h1, _, _, h2, _⟩
      · cases h
      · cases h1; rw [List.length_append]; exact h2
    · have e : flatE enc (l ++ m) = flatE enc l ++ flatE enc m := by simp [flatE]
      rw [List.length_append, e]; exact ho
theorem wp_appE {P : Program} (E : Enc enc k) {t : TypeId} {bytes : Nat} (I : TyE P t T k bytes) {w : World} {o : Oper} {a : Act} {K : Act → World → Prop} {Q : Exit → Act → World → Prop} (s x : Operand)
    (ho : o.op = .call { callee := .builtin .append, args := #[s, x], argTypes := #[t, t] })
    (base : Nat) (v : Value) (l : List α) (hs : a.eval s = v) (hA : AccE enc k T w base v l) (q : Option Addr) (m : List α) (n c : Nat) (hx : a.eval x = .slice q n c) (hn : n = m.length) {B0 : Nat} (hR : Rd enc k w B0 q m) (h63 : l.length + m.length ≤ maxLen) (hz : (l.length + m.length) * bytes ≤ 140737488355328) (hbase : base ≤ w.heap.size)
    (h : ∀ v' w', AccE enc k T w' base v' (l ++ m) → Below base w w' → K (a.put o.dst v') w') : o.wp P a w K Q := by
  subst hn
  obtain ⟨v', w', hr, h1, h2⟩ := run_appE (P := P) (ty := o.type) E I w base v l hA q m c hR h63 hz hbase
  unfold Oper.wp execOp
  simp only [ho, resolve, invoke, builtin, Sem.run_bind, Sem.run_pure, Result.andThen_ok, List.map_toArray, List.map_cons, List.map_nil, hs, hx, hr]
  exact h v' w' h1 h2
theorem wpList_appE {P : Program} (E : Enc enc k) {t : TypeId} {bytes : Nat} (I : TyE P t T k bytes) {w : World} {ops : Array Oper} {rest : List Oper} {o : Oper} {a : Act} {Q : Exit → Act → World → Prop} (hgd : o.guard = none) (s x : Operand)
    (ho : o.op = .call { callee := .builtin .append, args := #[s, x], argTypes := #[t, t] })
    (base : Nat) (v : Value) (l : List α) (hs : a.eval s = v) (hA : AccE enc k T w base v l) (q : Option Addr) (m : List α) (n c : Nat) (hx : a.eval x = .slice q n c) (hn : n = m.length) {B0 : Nat} (hR : Rd enc k w B0 q m) (h63 : l.length + m.length ≤ maxLen) (hz : (l.length + m.length) * bytes ≤ 140737488355328) (hbase : base ≤ w.heap.size)
    (h : ∀ v' w', AccE enc k T w' base v' (l ++ m) → Below base w w' → wpList P ops Q rest (a.put o.dst v') w') : wpList P ops Q (o :: rest) a w :=
  wpList_plain hgd fun _ hK => wp_appE E I s x ho base v l hs hA q m n c hx hn hR h63 hz hbase fun v' w' h1 h2 => hK _ _ (h v' w' h1 h2)
theorem step_appE {P : Program} (E : Enc enc k) {t : TypeId} {bytes : Nat} (I : TyE P t T k bytes) {w : World} {ops : Array Oper} {o : Oper} {a : Act} {K : Act → World → Prop} {Q : Exit → Act → World → Prop} {R : Prop} (hgd : o.guard = none) (s x : Operand)
    (ho : o.op = .call { callee := .builtin .append, args := #[s, x], argTypes := #[t, t] })
    (base : Nat) (v : Value) (l : List α) (hs : a.eval s = v) (hA : AccE enc k T w base v l) (q : Option Addr) (m : List α) (n c : Nat) (hx : a.eval x = .slice q n c) (hn : n = m.length) {B0 : Nat} (hR : Rd enc k w B0 q m) (h63 : l.length + m.length ≤ maxLen) (hz : (l.length + m.length) * bytes ≤ 140737488355328) (hbase : base ≤ w.heap.size)
    (h : ∀ v' w', AccE enc k T w' base v' (l ++ m) → Below base w w' → K (a.put o.dst v') w') : if Region.wanted o (yielded ops a.tmps) = true then Oper.wp P o a w K Q else R := by
  have hw : Region.wanted o (yielded ops a.tmps) = true := by simp [Region.wanted, hgd]
  rw [if_pos hw]
  exact wp_appE E I s x ho base v l hs hA q m n c hx hn hR h63 hz hbase h
/-- a part of a list, as a slice of its slice -/
theorem Rd.take {w : World} {B : Nat} {p : Option Addr} {l : List α} (h : Rd enc k w B p l) (n : Nat) : Rd enc k w B p (l.take n) := by
  rcases h with h | ⟨b, off, rfl, hb, hc⟩
  · subst h; exact .inl (by simp)
  · refine .inr ⟨b, off, rfl, hb, fun i hi r u hu => ?_⟩
    rw [List.getElem_take] at hu
    exact hc i (by rw [List.length_take] at hi; omega) r u hu
def fromE (k : Nat) (p : Option Addr) (c n : Nat) : Option Addr := if c = n then p else p.map (·.add (n * k))
theorem Rd.drop {w : World} {B : Nat} {p : Option Addr} {l : List α} (h : Rd enc k w B p l) (n c : Nat) (hc : l.length ≤ c) : Rd enc k w B (fromE k p c n) (l.drop n) := by
  rcases h with h | ⟨b, off, rfl, hb, hcl⟩
  · subst h; exact .inl (by simp)
  · by_cases hn : l.length ≤ n
    · exact .inl (List.drop_eq_nil_of_le hn)
    · refine .inr ⟨b, off + n * k, ?_, hb, fun i hi r u hu => ?_⟩
      · unfold fromE
        rw [if_neg (by omega)]
        show some ((⟨b, off, none⟩ : Addr).add (n * k)) = some _
        rw [Addr.add_lit]
      · rw [List.getElem_drop] at hu
        have := hcl (n + i) (by rw [List.length_drop] at hi; omega) r u hu
        rw [show off + n * k + i * k + r = off + (n + i) * k + r by rw [Nat.add_mul]; omega]
        exact this
theorem run_slice_fromE {P : Program} (t e : TypeId) (size : Nat) (hu : P.underlying t = some (.slice e)) (hs : (P.info? e).map (·.size) = some size) (p : Option Addr) (len cap : Nat) (kk : IntKind) (i : Int) (n : Nat) (hi : i = (n : Int)) (hn : n ≤ len) (w : World) :
    (Instr.sliceAt t (.slice p len cap) (some (.int kk i)) none none).run P w = .ok (.slice (fromE size p cap n) (len - n) (cap - n)) w := by
  subst hi
  have he : P.elem t = e := by simp [Program.elem, hu]
  cases hq : P.info? e with
  | none => simp [hq] at hs
  | some j =>
    have hz : j.size = size := by simpa [hq] using hs
    rw [run_sliceAt_slice w t _ _ _ _ (by rw [he]; exact hu), run_slice_l w t p len cap (by rw [he]; exact hu) kk n (by omega) (by omega), he]
    simp [sizeOf, typeInfo, hq, hz, sliced, Result.andThen, fromE]
end

theorem ITn : TyE Tryd.prog 34 24 35 72 := ⟨Tryd.underlying34, by
  obtain ⟨i, hi, h0, h1, h2⟩ := info_parts infoEn
  exact ⟨i, _, hi, h0, h1, h2, by show enZ.cells.toArray.size = 35; rw [En.asize]⟩⟩
/-- what is kept -/
structure Tk (X w : World) (q : Option Addr) (l : List En) (e : En) : Prop where
  ens : Ens X q l
  bx : Bk X w.heap.size 24 e.cells.toArray
  bel : Below w.heap.size w X
theorem Tk.on {X X' w : World} {q : Option Addr} {l : List En} {e : En} (h : Tk X w q l e) (hb : Below X.heap.size X X') : Tk X' w q l e :=
  ⟨h.ens.on hb, h.bx.on hb, h.bel.trans (hb.mono h.bel.size)⟩
theorem Tk.start {w : World} {q : Option Addr} {l : List En} (e : En) (h : Ens w q l) : Tk (w.alloc (.cells e.cells.toArray 24)) w q l e :=
  ⟨h.on (below1 _ _), Bk.new _ _ _, below1 _ _⟩
theorem Tk.range {X w : World} {q : Option Addr} {l : List En} {e : En} (h : Tk X w q l e) : X.rangeAt w.heap.size 0 e.cells := fun j v hv => by
  rw [Nat.zero_add]; exact h.bx.cell _ _ (by rw [List.toList_toArray]; exact hv)
theorem bel_only {B g : Nat} {w w' w'' : World} (h : Below B w w') (ho : Only g w' w'') (hg : B ≤ g) (hs : B ≤ w'.heap.size) : Below B w w'' :=
  ⟨ho.os.trans h.os, ho.tape.trans h.tape, ho.output.trans h.output, Nat.le_trans h.size ho.size, fun k hk => (ho.block k (by omega) (by omega)).trans (h.block k hk)⟩
theorem below1d (w : World) (o : Obj) : Below w.heap.size w (w.drew.alloc o) := (Below.refl _ _).drew.alloc (by simp) _
theorem En.asizeT {e : En} : e.cells.toArray.size = 35 := En.asize e
theorem snoc_ok {l : List En} {e : En} (h : ∀ x ∈ l, x.Ok) (he : e.Ok) : ∀ x ∈ [] ++ l ++ [e], x.Ok := fun x hx => by
  rcases List.mem_append.1 hx with h1 | h1
  · exact h x (by simpa using h1)
  · obtain rfl := List.mem_singleton.1 h1; exact he
/-- a slice of one struct -/
theorem step_one_row {P : Program} {ops : Array Oper} {o : Oper} {a : Act} {w : World} {K : Act → World → Prop} {Q : Exit → Act → World → Prop} {R : Prop} (hg : o.guard = none) (t e : TypeId) (x : Operand) (ho : o.op = .buildSlice t 1 #[(0, x)])
    (cs : Array Value) (s : Nat) (hx : a.eval x = .agg cs) (hcs : cs.size = s) (hs : 0 < s) (hs2 : s ≤ 1000) {bytes : Nat} (I : TyE P t e s bytes)
    (h : K (a.put o.dst (.slice (some ⟨w.heap.size, 0, none⟩) 1 1)) (w.alloc (.cells cs e))) : if Region.wanted o (yielded ops a.tmps) = true then Oper.wp P o a w K Q else R := by
  obtain ⟨ie, z, hie, hz, hsz, _, _⟩ := I.inf
  have hw : Region.wanted o (yielded ops a.tmps) = true := by simp [Region.wanted, hg]
  rw [if_pos hw]
  refine wp_buildSlice t e 1 _ ho cs ie z I.und hie hz (by rw [hsz]; omega) (by rw [hsz]; omega) ?_ h
  rw [hsz]
  have hv1 : ∀ v ∈ [Value.agg cs], v.cells.size = s := by
    intro v hv
    obtain rfl : v = .agg cs := by simpa using hv
    exact hcs
  have hw := Great.fill_whole hs [Value.agg cs] ((Array.range (1 * s)).map (z.cells[· % z.cells.size]!)) hv1 (by simp)
  have e1 : ([Value.agg cs].flatMap fun v => v.cells.toList).toArray = cs := by simp [Value.cells]
  rw [e1] at hw
  have e2 : ((#[(0, x)] : Array (Nat × Operand)).map fun (i, x) => (i, a.eval x)).toList = (([Value.agg cs].zipIdx 0).map fun x => (x.2, x.1)) := by simp [hx]
  rw [e2]
  exact hw
theorem step_load_mid {P : Program} {ops : Array Oper} {op : Oper} {a : Act} {w : World} {K : Act → World → Prop} {Q : Exit → Act → World → Prop} {R : Prop} (hgd : op.guard = none) (ty : TypeId) (x : Operand) (ho : op.op = .load ty x)
    (b o : Nat) (hx : a.eval x = .pointer (some ⟨b, o, none⟩)) (cs : List Value) (d : TypeDesc) (hc : w.rangeAt b o cs)
    (hu : P.underlying ty = some d) (hd : d.isRow = true) (hi : (P.info? ty).map (·.size) = some cs.length)
    (h : K (a.put op.dst (.agg cs.toArray)) w) : if Region.wanted op (yielded ops a.tmps) = true then Oper.wp P op a w K Q else R := by
  have hw : Region.wanted op (yielded ops a.tmps) = true := by simp [Region.wanted, hgd]
  rw [if_pos hw]
  exact wp_load_mid ty x ho b o hx cs d hc hu hd hi h
theorem step_store_mid {P : Program} {ops : Array Oper} {op : Oper} {a : Act} {w : World} {K : Act → World → Prop} {Q : Exit → Act → World → Prop} {R : Prop} (hgd : op.guard = none) (ty : TypeId) (x y : Operand) (ho : op.op = .store ty x y)
    (b o : Nat) (cells : Array Value) (hx : a.eval x = .pointer (some ⟨b, o, none⟩)) (hy : a.eval y = .agg cells)
    (ht : w.there b o cells.size) (hi : (P.info? ty).map (·.size) = some cells.size) (h1 : cells.all (·.oneCell') = true)
    (h : K (a.put op.dst undef) (w.setCells b o cells.toList)) : if Region.wanted op (yielded ops a.tmps) = true then Oper.wp P op a w K Q else R := by
  have hw : Region.wanted op (yielded ops a.tmps) = true := by simp [Region.wanted, hgd]
  rw [if_pos hw]
  exact wp_store_mid ty x y ho b o cells hx hy ht hi h1 h
theorem rowOne {w : World} (e : En) : Rd encEn 35 (w.alloc (.cells e.cells.toArray 24)) (w.alloc (.cells e.cells.toArray 24)).heap.size (some ⟨w.heap.size, 0, none⟩) [e] :=
  .inr ⟨w.heap.size, 0, rfl, by simp, fun i hi r u hu => by
    obtain rfl : i = 0 := by simpa using hi
    rw [Nat.zero_mul, Nat.zero_add]
    exact (Bk.new w 24 e.cells.toArray).cell r u (by rw [List.toList_toArray]; exact hu)⟩
theorem Tk.place {X w : World} {b o : Nat} {l : List En} {e : En} (h : Tk X w (some ⟨b, o, none⟩) l e) (t : Nat) (ht : t < l.length) : X.rangeAt b (o + t * 35) (l[t]).cells := by
  obtain ⟨b', o', he, _, hr⟩ := h.ens.at t ht
  cases he
  exact hr
theorem run_neT (e f : En) (ev : Operand → Value) (o : Oper) (w : World) (h1 : o.op = .binOp .neq 24 (.tmp 111) (.tmp 115) 24) (h2 : ev (.tmp 111) = .agg e.cells.toArray ∧ ev (.tmp 115) = .agg f.cells.toArray) :
    (execOp ev o).run Tryd.prog w = .ok (.value (.bool (!(eqE e f)))) w := by
  have hm : Tryd.prog.eqGuardType Tryd.prog.depth 24 = false := by kernel_rfl
  unfold execOp
  simp only [h1, h2.1, h2.2]
  simp only [Sem.run_bind, run_eqGuard_agg _ _ _ _ _ _ _ hm, run_neq_struct, run_eqE, Result.andThen_ok, Sem.run_pure]
/-- all that is kept: the entries, their head, and what was made of them -/
structure Tv (X w : World) (q : Option Addr) (l : List En) (e : En) (q5 : Option Addr) (H : List UInt8) (p10 : Option Addr) (M10 : List En) (p12 : Option Addr) (M12 : List En) (p13 : Option Addr) (M13 : List En) (p14 : Option Addr) (M14 : List En) : Prop where
  tk : Tk X w q l e
  rd : Rd0 X q5 H
  e10 : Ens X p10 M10
  e12 : Ens X p12 M12
  e13 : Ens X p13 M13
  e14 : Ens X p14 M14
theorem Tv.on {X X' w : World} {q : Option Addr} {l : List En} {e : En} {q5 : Option Addr} {H : List UInt8} {p10 : Option Addr} {M10 : List En} {p12 : Option Addr} {M12 : List En} {p13 : Option Addr} {M13 : List En} {p14 : Option Addr} {M14 : List En}
    (h : Tv X w q l e q5 H p10 M10 p12 M12 p13 M13 p14 M14) (hb : Below X.heap.size X X') : Tv X' w q l e q5 H p10 M10 p12 M12 p13 M13 p14 M14 :=
  ⟨h.tk.on hb, h.rd.on hb, h.e10.on hb, h.e12.on hb, h.e13.on hb, h.e14.on hb⟩
theorem bound_n (q : Option Addr) (l : List En) (c : Nat) (e : En) (q5 : Option Addr) (c5 : Nat) (w : World) (hE : Env3 w) (h0 : 0 < l.length) (hl : l.length ≤ 20) (ho : okS 32 l = true) (p : Option Addr) (m : List En) (n d : Nat) (hn : n = m.length) (hm : m.length ≤ 21) (hg : m.all goodB = true)
    (X : World) (hX : Tk X w q l e) (hR : Rd0 X q5 (headS 32 l)) (hM : Ens X p m) :
    Calls Tryd.prog 30 #[.slice q l.length c, .slice p n d, .slice q5 (headS 32 l).length c5] X fun r w' => r = .returned (.bool true) ∧ Below X.heap.size X w' := by
  subst hn
  exact bound_any q l c p m d q5 c5 X (hE.on hX.bel).env hX.ens hM hR h0 ho (okS_of ho hg) (by omega) (by omega)
/-- the place that k says -/
theorem place_of (k : Int) (n : Nat) (h0 : 0 < n) (hn : n ≤ 1000) : ∃ t : Nat, t < n ∧ IntKind.i64.wrap ((IntKind.u64.wrap k).tmod (IntKind.u64.wrap (n : Int))) = (t : Int) := by
  have u1 : IntKind.u64.wrap (n : Int) = (n : Int) := IntWalk.u64_in _ (by omega)
  have h0' : 0 ≤ IntKind.u64.wrap k := by
    rw [show IntKind.u64.wrap k = k % 18446744073709551616 by simp [IntKind.wrap, IntKind.bits, IntKind.signed]]
    omega
  rw [u1]
  have h1 := Int.tmod_nonneg (n : Int) h0'
  have h2 := Int.tmod_lt_of_pos (IntKind.u64.wrap k) (show (0 : Int) < (n : Int) by omega)
  refine ⟨((IntKind.u64.wrap k).tmod (n : Int)).toNat, by omega, ?_⟩
  rw [IntWalk.i64_in _ (by omega)]
  omega

set_option maxRecDepth 100000 in
set_option maxHeartbeats 8000000 in
theorem turned_small (q : Option Addr) (l : List En) (c : Nat) (k : Int) (e : En) (w : World) (hE : Env3 w) (hA : Ens w q l) (he : e.Ok) (h : 20 < l.length ∨ l.length = 0) :
    Calls Tryd.prog 8 #[.slice q l.length c, .int .i64 k, .agg e.cells.toArray] w fun r w' => r = .returned (.bool true) ∧ Below w.heap.size w w' := by
  have HE := Lib.hid hE
  have HT := Lib.hid (Tk.start e hA)
  have HE1 := Lib.hid (hE.on (below1 w (.cells e.cells.toArray 24)))
  have hz : (20 : Int) < (l.length : Int) ∨ (decide ((20 : Int) < (l.length : Int)) = false ∧ (l.length : Int) ≤ 20 ∧ ((l.length : Int) == 0) = true) := by
    rcases h with h | h
    · exact .inl (by omega)
    · exact .inr ⟨by simp; omega, by omega, by rw [beq_iff_eq]; omega⟩
  clear hE hA h he
  go_enter Tryd.func8, Tryd.ntmps8
  go_upto_region 3 with (go_at_call 13; refine (fixed_any _ HE1.out).mono ?_; rintro r w1 ⟨rfl, hb⟩; have HT1 := Lib.hid (HT.out.on hb); clear hb)
  rcases hz with z | ⟨z1, z0, z2⟩
  · go_wp2_with fail
    go_ret
    exact ⟨by rfl, HT1.out.bel⟩
  · go_wp2_with fail
    go_ret
    exact ⟨by rfl, HT1.out.bel⟩
set_option maxRecDepth 100000 in
set_option maxHeartbeats 8000000 in
theorem turned_bad (q : Option Addr) (l : List En) (c : Nat) (k : Int) (e : En) (w : World) (hE : Env3 w) (hA : Ens w q l) (he : e.Ok) (h0 : 0 < l.length) (hn : l.length ≤ 20) (h : okS 32 l = false ∨ goodB e = false) :
    Calls Tryd.prog 8 #[.slice q l.length c, .int .i64 k, .agg e.cells.toArray] w fun r w' => r = .returned (.bool true) ∧ Below w.heap.size w w' := by
  have HE := Lib.hid hE
  have HT := Lib.hid (Tk.start e hA)
  have HE1 := Lib.hid (hE.on (below1 w (.cells e.cells.toArray 24)))
  have HK := Lib.hid he
  have z1 : decide ((20 : Int) < (l.length : Int)) = false := by simp; omega
  have z0 : (l.length : Int) ≤ 20 := by omega
  have z2 : ((l.length : Int) == 0) = false := by rw [beq_eq_false_iff_ne]; omega
  have HN := Lib.hid hn
  have hez : headE 32 l = 1 ∨ (headE 32 l = 0 ∧ goodB e = false) := by
    unfold headE
    cases ho : okS 32 l with
    | false => exact .inl (by simp)
    | true =>
      rcases h with h | h
      · rw [ho] at h; cases h
      · exact .inr ⟨by simp, h⟩
  have C1 := Lib.hid (fun X (h0 : Env X) (h1 : Ens X q l) => chead_both 32 q l c X h0 h1 (by have := HN.out; omega))
  have C2 := Lib.hid (fun X => good_any e he X)
  clear hE hA h he h0 hn
  generalize headS 32 l = H at *
  generalize headE 32 l = eh at *
  generalize goodB e = ge at *
  go_enter Tryd.func8, Tryd.ntmps8
  go_upto_region 3 with (go_at_call 13; refine (fixed_any _ HE1.out).mono ?_; rintro r w1 ⟨rfl, hb⟩; have HT1 := Lib.hid (HT.out.on hb); clear hb)
  go_upto_region 6 with (go_at_call 16; refine (C1.out _ (HE.out.on HT1.out.bel).env HT1.out.ens).mono ?_; rintro r w5 ⟨q5, c5, rfl, hr, hb⟩; have HT5 := Lib.hid (HT1.out.on hb); clear hr hb)
  rcases hez with rfl | ⟨rfl, rfl⟩
  · go_wp2_with fail
    go_ret
    exact ⟨by rfl, HT5.out.bel⟩
  · go_wp2_with (first
      | (refine wpList_load_rowg rfl 24 _ rfl w.heap.size rfl _ _ _ _ HT5.out.bx Tryd.underlying24 rfl (by rw [En.asize]; kernel_rfl) ?_)
      | (go_at_call 14; refine (C2.out _).mono ?_; rintro r w6 ⟨rfl, hb⟩; have HT6 := Lib.hid (HT5.out.on hb); clear hb))
    go_ret
    exact ⟨by rfl, HT6.out.bel⟩

set_option maxRecDepth 100000 in
set_option maxHeartbeats 8000000 in
theorem turned_main (q : Option Addr) (l : List En) (c : Nat) (k : Int) (e : En) (w : World) (hE : Env3 w) (hA : Ens w q l) (he : e.Ok) (hc : l.length ≤ c) (h0 : 0 < l.length) (hn : l.length ≤ 20) (ho : okS 32 l = true) (hg : goodB e = true) :
    Calls Tryd.prog 8 #[.slice q l.length c, .int .i64 k, .agg e.cells.toArray] w fun r w' => r = .returned (.bool true) ∧ Below w.heap.size w w' := by
  obtain ⟨t, ht, hk⟩ := place_of k l.length h0 (by omega)
  have HE := Lib.hid hE
  have HT := Lib.hid (Tk.start e hA)
  have HE1 := Lib.hid (hE.on (below1 w (.cells e.cells.toArray 24)))
  have HK := Lib.hid he
  have z1 : decide ((20 : Int) < (l.length : Int)) = false := by simp; omega
  have z0 : (l.length : Int) ≤ 20 := by omega
  have z2 : ((l.length : Int) == 0) = false := by rw [beq_eq_false_iff_ne]; omega
  have z3 : ¬ ((l.length : Int) = 0) := by omega
  have u1 : IntKind.u64.wrap (l.length : Int) = (l.length : Int) := IntWalk.u64_in _ (by omega)
  rw [u1] at hk
  have k0 : (0 : Int) ≤ (t : Int) := by omega
  have k1 : (t : Int) < (l.length : Int) := by omega
  have HN := Lib.hid (And.intro hn (And.intro h0 hc))
  have HTL := Lib.hid ht
  have HG := Lib.hid (And.intro ho hg)
  have eh : headE 32 l = 0 := by unfold headE; rw [if_pos ho]
  have C1 := Lib.hid (fun X (h0 : Env X) (h1 : Ens X q l) => chead_both 32 q l c X h0 h1 (by have := HN.out; omega))
  have C2 := Lib.hid (fun X => good_any e he X)
  rw [eh] at C1
  rw [hg] at C2
  clear hE hA he h0 hn ho hg hc eh ht
  have HI35 := Lib.hid ITn
  go_enter Tryd.func8, Tryd.ntmps8
  go_upto_region 3 with (go_at_call 13; refine (fixed_any _ HE1.out).mono ?_; rintro r w1 ⟨rfl, hb⟩; have HT1 := Lib.hid (HT.out.on hb); clear hb)
  go_upto_region 6 with (go_at_call 16; refine (C1.out _ (HE.out.on HT1.out.bel).env HT1.out.ens).mono ?_; rintro r w5 ⟨q5, c5, rfl, hr, hb⟩; have HT5 := Lib.hid (HT1.out.on hb); have HR5 := Lib.hid hr; clear hr hb)
  go_upto_region 8 with (first
      | (refine wpList_load_rowg rfl 24 _ rfl w.heap.size rfl _ _ _ _ HT5.out.bx Tryd.underlying24 rfl (by rw [En.asize]; kernel_rfl) ?_)
      | (go_at_call 14; refine (C2.out _).mono ?_; rintro r w6 ⟨rfl, hb⟩; have HT6 := Lib.hid (HT5.out.on hb); have HR6 := Lib.hid (HR5.out.on hb); clear hb))
  clear HT HT1 HT5 HR5 HE1 C1 C2
  go_upto_region 10 with (refine wpList_appE EE ITn rfl _ _ rfl w6.heap.size _ [] rfl (accE_made (w := w6) (Nat.le_refl _)) q l _ _ rfl rfl (rd_of_ens (HT6.out.on (below1 _ _)).ens) (by have := HN.out; unfold maxLen; simp; omega) (by have := HN.out; simp; omega) (by simp) ?_; intro v9 w9 hacc hb9; obtain ⟨g9, d9, rfl, hge9, hgl9, hd9, hown9⟩ := hacc.owns (by simpa using HN.out.2.1); simp only [List.nil_append] at hown9 hd9 ⊢; have HT9 := Lib.hid (HT6.out.on ((below1 w6 (.cells #[] 24)).trans (hb9.mono (Nat.le_refl _)))); have HR9 := Lib.hid (HR6.out.on ((below1 w6 (.cells #[] 24)).trans (hb9.mono (Nat.le_refl _)))); have HO9 := Lib.hid (show (Eo w9 g9 l ∧ w6.heap.size ≤ g9) ∧ Below w6.heap.size w6 w9 from ⟨eo_of_owns hown9, (below1 w6 (.cells #[] 24)).trans (hb9.mono (Nat.le_refl _))⟩); clear hacc hb9 hown9 hge9 hgl9 hd9)
  go_upto_region 11 with (first
    | (refine wpList_load_row rfl 24 _ rfl w.heap.size rfl _ _ _ _ HT9.out.bx Tryd.underlying24 rfl (by rw [En.asize]; kernel_rfl) ?_)
    | (refine wpList_store_mid rfl 24 _ _ rfl g9 (t * 35) e.cells.toArray (by first | rfl | simp) rfl (by rw [En.asize]; exact HO9.out.1.1.there t HTL.out) (by rw [En.asize]; kernel_rfl) e.one ?_))
  have HB10 := Lib.hid (bel_only HO9.out.2 (Only.cells g9 (t * 35) w9 e) HO9.out.1.2 HO9.out.2.size)
  have HT10 := Lib.hid (show (Tk (w9.setCells g9 (t * 35) e.cells) w q l e ∧ Rd0 (w9.setCells g9 (t * 35) e.cells) q5 (headS 32 l)) ∧ Ens (w9.setCells g9 (t * 35) e.cells) (some ⟨g9, 0, none⟩) (l.set t e) from ⟨⟨HT6.out.on HB10.out, HR6.out.on HB10.out⟩, (HO9.out.1.1.put t HTL.out e).ens (En.all_ok HT6.out.ens.ok HK.out t)⟩)
  clear HT6 HR6 HT9 HR9 HO9 HB10
  generalize w9.setCells g9 (t * 35) e.cells = w10 at *
  have s1 : IntKind.i64.wrap ((t : Int) + 1) = (t : Int) + 1 := IntWalk.i64_in _ (by have := HN.out.1; omega)
  have s2 : wrap64 ((t : Int) + 1) = (t : Int) + 1 := IntWalk.wrap64_in _ (by have := HN.out.1; omega)
  have sl1 := fun wx => run_slice_toE (P := Tryd.prog) 34 24 Tryd.underlying34 (by kernel_rfl) q l.length c .i64 (t : Int) t rfl (by have := HN.out.2.2; omega) wx
  have sl2 := fun wx => run_slice_fromE (P := Tryd.prog) 34 24 35 Tryd.underlying34 (by kernel_rfl) q l.length c .i64 ((t : Int) + 1) (t + 1) (by simp) (by have := HTL.out; omega) wx
  have HL1 := Lib.hid (show t = (l.take t).length by rw [List.length_take]; have := HTL.out; omega)
  have HL2 := Lib.hid (show l.length - (t + 1) = (l.drop (t + 1)).length by rw [List.length_drop])
  clear z1 z0 z2 z3 u1
  go_region_held3 (fun _ => True) (exact True.intro)
    (first
      | (refine step_appE EE ITn rfl _ _ rfl w10.heap.size v11 _ rfl (HA11.out.1.on (by have := HA11.out.2.size; omega) (Below.refl _ _)) _ (l.drop (t + 1)) _ _ rfl HL2.out ((rd_of_ens (HT10.out.1.1.ens.on HA11.out.2)).drop (t + 1) c HN.out.2.2) (by have := HN.out; unfold maxLen; simp; omega) (by have := HN.out; simp; omega) (by have := HA11.out.2.size; omega) ?_; intro v12 w12 hacc12 hb12; have HA12 := Lib.hid (And.intro hacc12 (HA11.out.2.trans hb12)); clear hacc12 hb12)
      | (refine step_appE EE ITn rfl _ _ rfl w10.heap.size _ [] rfl (accE_made (by simp)) _ (l.take t) _ _ rfl HL1.out ((rd_of_ens (HT10.out.1.1.ens.on (below1d w10 (.cells #[] 24)))).take t) (by have := HN.out; unfold maxLen; simp; omega) (by have := HN.out; simp; omega) (by simp) ?_; intro v11 w11 hacc hb11; have HA11 := Lib.hid (And.intro hacc ((below1d w10 (.cells #[] 24)).trans hb11)); clear hacc hb11))
  clear sl1 sl2 HL1 HL2 HA11 s1 s2
  obtain ⟨p12, d12, rfl, hd12, hr12⟩ := HA12.out.1.rd EE
  have HT12 := Lib.hid (show ((Tk w12 w q l e ∧ Rd0 w12 q5 (headS 32 l)) ∧ Ens w12 (some ⟨g9, 0, none⟩) (l.set t e)) ∧ Ens w12 p12 (l.take t ++ l.drop (t + 1)) from ⟨⟨⟨HT10.out.1.1.on HA12.out.2, HT10.out.1.2.on HA12.out.2⟩, HT10.out.2.on HA12.out.2⟩, ens_of_rd hr12 (fun x hx => HT10.out.1.1.ens.ok x (by exact (List.mem_append.1 hx).elim List.mem_of_mem_take List.mem_of_mem_drop))⟩)
  have HML := Lib.hid (show ([] ++ l.take t ++ l.drop (t + 1)).length ≤ 20 ∧ ([] ++ l.take t ++ l.drop (t + 1)).all goodB = true from ⟨by have := HN.out.1; simp; omega, by
    rw [List.nil_append, List.all_append, Bool.and_eq_true]
    have hga := (okS_parts HG.out.1).2.2
    exact ⟨List.all_eq_true.2 fun x hx => List.all_eq_true.1 hga x (List.mem_of_mem_take hx), List.all_eq_true.2 fun x hx => List.all_eq_true.1 hga x (List.mem_of_mem_drop hx)⟩⟩)
  clear hr12 hd12 HA12 HT10
  rw [← List.nil_append (l.take t)] at HT12
  generalize ([] ++ l.take t ++ l.drop (t + 1)) = M12 at *
  have HMX := Lib.hid (show ((l.set t e).length = l.length ∧ (l.set t e).all goodB = true) ∧ (e = l.getD t enZ → l.set t e = l) from ⟨⟨List.length_set .., all_set (okS_parts HG.out.1).2.2 HG.out.2 t⟩, fun h => by
    rw [List.getD_eq_getElem?_getD, List.getElem?_eq_getElem HTL.out, Option.getD_some] at h
    rw [h, List.set_getElem_self]⟩)
  generalize l.set t e = M10 at *
  go_upto_region 12 with fail
  go_cut [11] (fun s11 wx => ∃ p d, s11 = .slice p (l.length + 1) d ∧ Hid (Below w12.heap.size w12 wx ∧ Ens wx p (l ++ [e])))
  case first =>
    have HB0 := Lib.hid (show Below w12.heap.size w12 w12.drew from (Below.refl _ _).drew)
    refine wp_region_held_drew (S := fun X => X.rangeAt w.heap.size 0 e.cells) (by kernel_rfl) ((HT12.out.1.1.1.on HB0.out).range) (fun hHeld => ?_)
    refine wpAnyH_take (i := 1) (v := ?_) rfl (by kernel_rfl) (by kernel_rfl) (by kernel_rfl) (fun _ _ _ h => h) (Or.inl ⟨by rfl, ?hy⟩) (by assumption) ?_
    case hy =>
      intro w hSw
      go_simp
      all_goals with_reducible rfl
    (try simp only [Act.put, List.getElem_toArray, List.getElem_cons_succ, List.getElem_cons_zero, List.setIfInBounds_toArray, List.set_cons_zero, List.set_cons_succ])
    refine wpAnyH_take (i := 3) (v := .agg e.cells.toArray) rfl (by kernel_rfl) (by kernel_rfl) (by kernel_rfl) (fun _ _ _ h => h) (yieldsIf_load_mid (by rfl) 24 (.tmp 5) rfl w.heap.size 0 (by rfl) _ _ (fun _ h => h) Tryd.underlying24 rfl (by rw [En.length]; kernel_rfl)) (by assumption) ?_
    (try simp only [Act.put, List.getElem_toArray, List.getElem_cons_succ, List.getElem_cons_zero, List.setIfInBounds_toArray, List.set_cons_zero, List.set_cons_succ])
    refine wpAnyH_ready (rs := [0, 4]) (by kernel_rfl) (by simp) ?_
    refine (AllReadyH.cons rfl (fun K hK => ?_) (AllReadyH.cons rfl (fun K hK => ?_) AllReadyH.nil))
    · go_simp
      have HB1 := Lib.hid (HB0.out.trans ((below1 w12.drew (.cells #[] 24)).mono HB0.out.size))
      have HA1 := Lib.hid (accE_zero (enc := encEn) (k := 35) (T := 24) (w := (w12.drew.alloc (.cells #[] 24))) (base := w12.heap.size) (some ⟨w12.drew.heap.size, 0, none⟩))
      refine hK.out _ _ ((HT12.out.1.1.1.on HB1.out).range) (fun hHeld => ?_)
      clear hK K
      (try simp only [Act.put, List.getElem_toArray, List.getElem_cons_succ, List.getElem_cons_zero, List.setIfInBounds_toArray, List.set_cons_zero, List.set_cons_succ])
      refine wpAnyH_ready (rs := [2, 4]) (by kernel_rfl) (by simp) ?_
      refine (AllReadyH.cons rfl (fun K hK => ?_) (AllReadyH.cons rfl (fun K hK => ?_) AllReadyH.nil))
      · refine step_appE EE ITn rfl _ _ rfl (w12.drew.alloc (.cells #[] 24)).heap.size _ [] rfl (accE_zero _) q l _ _ rfl rfl (rd_of_ens (HT12.out.1.1.1.on HB1.out).ens) (by have := HN.out; unfold maxLen; simp; omega) (by have := HN.out; simp; omega) (Nat.le_refl _) ?_
        intro v2 w22 ha2 hb2
        have HA2 := Lib.hid (ha2.low HB1.out.size)
        have HB2 := Lib.hid (HB1.out.trans (hb2.mono HB1.out.size))
        clear ha2 hb2
        refine hK.out _ _ ((HT12.out.1.1.1.on HB2.out).range) (fun hHeld => ?_)
        clear hK K
        (try simp only [Act.put, List.getElem_toArray, List.getElem_cons_succ, List.getElem_cons_zero, List.setIfInBounds_toArray, List.set_cons_zero, List.set_cons_succ])
        refine wpAnyH_ready (rs := [4]) (by kernel_rfl) (by simp) ?_
        refine (AllReadyH.cons rfl (fun K hK => ?_) AllReadyH.nil)
        refine step_one_row rfl 34 24 _ rfl e.cells.toArray 35 rfl En.asizeT (by decide) (by decide) HI35.out ?_
        have HB3 := Lib.hid (HB2.out.trans ((below1 w22 (.cells e.cells.toArray 24)).mono HB2.out.size))
        have HR3 := Lib.hid (rowOne (w := w22) e)
        have HA3 := Lib.hid (HA2.out.on HB2.out.size (below1 w22 (.cells e.cells.toArray 24)))
        refine hK.out _ _ ((HT12.out.1.1.1.on HB3.out).range) (fun hHeld => ?_)
        clear hK K
        (try simp only [Act.put, List.getElem_toArray, List.getElem_cons_succ, List.getElem_cons_zero, List.setIfInBounds_toArray, List.set_cons_zero, List.set_cons_succ])
        refine wpAnyH_ready (rs := [5]) (by kernel_rfl) (by simp) ?_
        refine (AllReadyH.cons rfl (fun K hK => ?_) AllReadyH.nil)
        refine step_appE EE ITn rfl _ _ rfl w12.heap.size v2 _ rfl HA3.out _ [e] _ _ rfl rfl HR3.out (by have := HN.out; unfold maxLen; simp; omega) (by have := HN.out; simp; omega) HB3.out.size ?_
        intro v4 w24 ha4 hb4
        have HA4 := Lib.hid ha4
        have HB4 := Lib.hid (HB3.out.trans hb4)
        clear ha4 hb4
        refine hK.out _ _ ((HT12.out.1.1.1.on HB4.out).range) (fun hHeld => ?_)
        clear hK K
        (try simp only [Act.put, List.getElem_toArray, List.getElem_cons_succ, List.getElem_cons_zero, List.setIfInBounds_toArray, List.set_cons_zero, List.set_cons_succ])
        refine wpAnyH_take (i := 6) (v := ?_) rfl (by kernel_rfl) (by kernel_rfl) (by kernel_rfl) (fun _ _ _ h => h) (Or.inl ⟨by rfl, ?hy⟩) (by assumption) ?_
        case hy =>
          intro w hSw
          go_simp
          all_goals with_reducible rfl
        (try simp only [Act.put, List.getElem_toArray, List.getElem_cons_succ, List.getElem_cons_zero, List.setIfInBounds_toArray, List.set_cons_zero, List.set_cons_succ])
        refine wpAnyH_done (by kernel_rfl) ?_ _
        obtain ⟨pz, dz, rfl, hdz, hrz⟩ := HA4.out.rd EE
        go_wp2_with fail
        go_meet
        case rel => exact ⟨pz, dz, by simp, Lib.hid ⟨HB4.out, ens_of_rd hrz (snoc_ok HT12.out.1.1.1.ens.ok HK.out)⟩⟩
      · refine step_one_row rfl 34 24 _ rfl e.cells.toArray 35 rfl En.asizeT (by decide) (by decide) HI35.out ?_
        have HB2 := Lib.hid (HB1.out.trans ((below1 (w12.drew.alloc (.cells #[] 24)) (.cells e.cells.toArray 24)).mono HB1.out.size))
        have HR2 := Lib.hid (rowOne (w := (w12.drew.alloc (.cells #[] 24))) e)
        have HA2 := Lib.hid (HA1.out.on HB1.out.size (below1 (w12.drew.alloc (.cells #[] 24)) (.cells e.cells.toArray 24)))
        refine hK.out _ _ ((HT12.out.1.1.1.on HB2.out).range) (fun hHeld => ?_)
        clear hK K
        (try simp only [Act.put, List.getElem_toArray, List.getElem_cons_succ, List.getElem_cons_zero, List.setIfInBounds_toArray, List.set_cons_zero, List.set_cons_succ])
        refine wpAnyH_ready (rs := [2]) (by kernel_rfl) (by simp) ?_
        refine (AllReadyH.cons rfl (fun K hK => ?_) AllReadyH.nil)
        refine step_appE EE ITn rfl _ _ rfl ((w12.drew.alloc (.cells #[] 24)).alloc (.cells e.cells.toArray 24)).heap.size _ [] rfl (accE_zero _) q l _ _ rfl rfl (rd_of_ens (HT12.out.1.1.1.on HB2.out).ens) (by have := HN.out; unfold maxLen; simp; omega) (by have := HN.out; simp; omega) (Nat.le_refl _) ?_
        intro v3 w23 ha3 hb3
        have HA3 := Lib.hid (ha3.low HB2.out.size)
        have HB3 := Lib.hid (HB2.out.trans (hb3.mono HB2.out.size))
        have HR3 := Lib.hid (HR2.out.grow hb3)
        clear ha3 hb3
        refine hK.out _ _ ((HT12.out.1.1.1.on HB3.out).range) (fun hHeld => ?_)
        clear hK K
        (try simp only [Act.put, List.getElem_toArray, List.getElem_cons_succ, List.getElem_cons_zero, List.setIfInBounds_toArray, List.set_cons_zero, List.set_cons_succ])
        refine wpAnyH_ready (rs := [5]) (by kernel_rfl) (by simp) ?_
        refine (AllReadyH.cons rfl (fun K hK => ?_) AllReadyH.nil)
        refine step_appE EE ITn rfl _ _ rfl w12.heap.size v3 _ rfl HA3.out _ [e] _ _ rfl rfl HR3.out (by have := HN.out; unfold maxLen; simp; omega) (by have := HN.out; simp; omega) HB3.out.size ?_
        intro v4 w24 ha4 hb4
        have HA4 := Lib.hid ha4
        have HB4 := Lib.hid (HB3.out.trans hb4)
        clear ha4 hb4
        refine hK.out _ _ ((HT12.out.1.1.1.on HB4.out).range) (fun hHeld => ?_)
        clear hK K
        (try simp only [Act.put, List.getElem_toArray, List.getElem_cons_succ, List.getElem_cons_zero, List.setIfInBounds_toArray, List.set_cons_zero, List.set_cons_succ])
        refine wpAnyH_take (i := 6) (v := ?_) rfl (by kernel_rfl) (by kernel_rfl) (by kernel_rfl) (fun _ _ _ h => h) (Or.inl ⟨by rfl, ?hy⟩) (by assumption) ?_
        case hy =>
          intro w hSw
          go_simp
          all_goals with_reducible rfl
        (try simp only [Act.put, List.getElem_toArray, List.getElem_cons_succ, List.getElem_cons_zero, List.setIfInBounds_toArray, List.set_cons_zero, List.set_cons_succ])
        refine wpAnyH_done (by kernel_rfl) ?_ _
        obtain ⟨pz, dz, rfl, hdz, hrz⟩ := HA4.out.rd EE
        go_wp2_with fail
        go_meet
        case rel => exact ⟨pz, dz, by simp, Lib.hid ⟨HB4.out, ens_of_rd hrz (snoc_ok HT12.out.1.1.1.ens.ok HK.out)⟩⟩
    · refine step_one_row rfl 34 24 _ rfl e.cells.toArray 35 rfl En.asizeT (by decide) (by decide) HI35.out ?_
      have HB1 := Lib.hid (HB0.out.trans ((below1 w12.drew (.cells e.cells.toArray 24)).mono HB0.out.size))
      have HR1 := Lib.hid (rowOne (w := w12.drew) e)
      refine hK.out _ _ ((HT12.out.1.1.1.on HB1.out).range) (fun hHeld => ?_)
      clear hK K
      (try simp only [Act.put, List.getElem_toArray, List.getElem_cons_succ, List.getElem_cons_zero, List.setIfInBounds_toArray, List.set_cons_zero, List.set_cons_succ])
      refine wpAnyH_ready (rs := [0]) (by kernel_rfl) (by simp) ?_
      refine (AllReadyH.cons rfl (fun K hK => ?_) AllReadyH.nil)
      go_simp
      have HB2 := Lib.hid (HB1.out.trans ((below1 (w12.drew.alloc (.cells e.cells.toArray 24)) (.cells #[] 24)).mono HB1.out.size))
      have HA2 := Lib.hid (accE_zero (enc := encEn) (k := 35) (T := 24) (w := ((w12.drew.alloc (.cells e.cells.toArray 24)).alloc (.cells #[] 24))) (base := w12.heap.size) (some ⟨(w12.drew.alloc (.cells e.cells.toArray 24)).heap.size, 0, none⟩))
      have HR2 := Lib.hid (HR1.out.grow (below1 (w12.drew.alloc (.cells e.cells.toArray 24)) (.cells #[] 24)))
      refine hK.out _ _ ((HT12.out.1.1.1.on HB2.out).range) (fun hHeld => ?_)
      clear hK K
      (try simp only [Act.put, List.getElem_toArray, List.getElem_cons_succ, List.getElem_cons_zero, List.setIfInBounds_toArray, List.set_cons_zero, List.set_cons_succ])
      refine wpAnyH_ready (rs := [2]) (by kernel_rfl) (by simp) ?_
      refine (AllReadyH.cons rfl (fun K hK => ?_) AllReadyH.nil)
      refine step_appE EE ITn rfl _ _ rfl ((w12.drew.alloc (.cells e.cells.toArray 24)).alloc (.cells #[] 24)).heap.size _ [] rfl (accE_zero _) q l _ _ rfl rfl (rd_of_ens (HT12.out.1.1.1.on HB2.out).ens) (by have := HN.out; unfold maxLen; simp; omega) (by have := HN.out; simp; omega) (Nat.le_refl _) ?_
      intro v3 w23 ha3 hb3
      have HA3 := Lib.hid (ha3.low HB2.out.size)
      have HB3 := Lib.hid (HB2.out.trans (hb3.mono HB2.out.size))
      have HR3 := Lib.hid (HR2.out.grow hb3)
      clear ha3 hb3
      refine hK.out _ _ ((HT12.out.1.1.1.on HB3.out).range) (fun hHeld => ?_)
      clear hK K
      (try simp only [Act.put, List.getElem_toArray, List.getElem_cons_succ, List.getElem_cons_zero, List.setIfInBounds_toArray, List.set_cons_zero, List.set_cons_succ])
      refine wpAnyH_ready (rs := [5]) (by kernel_rfl) (by simp) ?_
      refine (AllReadyH.cons rfl (fun K hK => ?_) AllReadyH.nil)
      refine step_appE EE ITn rfl _ _ rfl w12.heap.size v3 _ rfl HA3.out _ [e] _ _ rfl rfl HR3.out (by have := HN.out; unfold maxLen; simp; omega) (by have := HN.out; simp; omega) HB3.out.size ?_
      intro v4 w24 ha4 hb4
      have HA4 := Lib.hid ha4
      have HB4 := Lib.hid (HB3.out.trans hb4)
      clear ha4 hb4
      refine hK.out _ _ ((HT12.out.1.1.1.on HB4.out).range) (fun hHeld => ?_)
      clear hK K
      (try simp only [Act.put, List.getElem_toArray, List.getElem_cons_succ, List.getElem_cons_zero, List.setIfInBounds_toArray, List.set_cons_zero, List.set_cons_succ])
      refine wpAnyH_take (i := 6) (v := ?_) rfl (by kernel_rfl) (by kernel_rfl) (by kernel_rfl) (fun _ _ _ h => h) (Or.inl ⟨by rfl, ?hy⟩) (by assumption) ?_
      case hy =>
        intro w hSw
        go_simp
        all_goals with_reducible rfl
      (try simp only [Act.put, List.getElem_toArray, List.getElem_cons_succ, List.getElem_cons_zero, List.setIfInBounds_toArray, List.set_cons_zero, List.set_cons_succ])
      refine wpAnyH_done (by kernel_rfl) ?_ _
      obtain ⟨pz, dz, rfl, hdz, hrz⟩ := HA4.out.rd EE
      go_wp2_with fail
      go_meet
      case rel => exact ⟨pz, dz, by simp, Lib.hid ⟨HB4.out, ens_of_rd hrz (snoc_ok HT12.out.1.1.1.ens.ok HK.out)⟩⟩
  case rest =>
    obtain ⟨p13, d13, rfl, hc13⟩ := hcut
    have HT13 := Lib.hid (show (((Tk wc w q l e ∧ Rd0 wc q5 (headS 32 l)) ∧ Ens wc (some ⟨g9, 0, none⟩) M10) ∧ Ens wc p12 M12) ∧ Ens wc p13 (l ++ [e]) from ⟨⟨⟨⟨HT12.out.1.1.1.on hc13.out.1, HT12.out.1.1.2.on hc13.out.1⟩, HT12.out.1.2.on hc13.out.1⟩, HT12.out.2.on hc13.out.1⟩, hc13.out.2⟩)
    clear hc13 HT12
    go_upto_region 14 with (refine wpList_appE EE ITn rfl _ _ rfl wc.heap.size _ [] rfl (accE_made (w := wc) (Nat.le_refl _)) q l _ _ rfl rfl (rd_of_ens (HT13.out.1.1.1.1.on (below1 _ _)).ens) (by have := HN.out; unfold maxLen; simp; omega) (by have := HN.out; simp; omega) (by simp) ?_; intro v14 w14 hacc hb14; obtain ⟨g14, d14, rfl, hge14, hgl14, hd14, hown14⟩ := hacc.owns (by simpa using HN.out.2.1); simp only [List.nil_append] at hown14 hd14 ⊢; have HO14 := Lib.hid (show (Eo w14 g14 l ∧ wc.heap.size ≤ g14) ∧ Below wc.heap.size wc w14 from ⟨eo_of_owns hown14, (below1 wc (.cells #[] 24)).trans (hb14.mono (Nat.le_refl _))⟩); clear hacc hb14 hown14 hge14 hgl14 hd14)
    have HI35' := HI35
    go_cut [12] (fun s12 wx => Hid (Eo wx g14 ((l.set 0 (l[t]'HTL.out)).set t (l[0]'HN.out.2.1)) ∧ Below wc.heap.size wc wx) ∧ s12 = .slice (some ⟨g14, 0, none⟩) l.length d14)
    case first =>
      have kN : 0 < l.length := HN.out.2.1
      have HD14 := Lib.hid (show (∀ i (h : i < l.length), w14.drew.rangeAt g14 (i * 35) (l[i]).cells) ∧ Eo w14.drew g14 l from ⟨(HO14.out.1.1.on (Below.refl _ _).drew).range, HO14.out.1.1.on (Below.refl _ _).drew⟩)
      have HD15 := Lib.hid (HD14.out.2.put 0 HN.out.2.1 (l[t]'HTL.out))
      have HD16 := Lib.hid (show Eo _ g14 _ ∧ Below wc.heap.size wc _ from ⟨HD15.out.put t (by rw [List.length_set]; exact HTL.out) (l[0]'HN.out.2.1), bel_only (bel_only (HO14.out.2.drew) (Only.cells g14 (0 * 35) w14.drew (l[t]'HTL.out)) HO14.out.1.2 (by have := HO14.out.2.size; simpa using this)) (Only.cells g14 (t * 35) _ (l[0]'HN.out.2.1)) HO14.out.1.2 (Nat.le_trans HO14.out.2.size (Only.cells g14 (0 * 35) w14.drew (l[t]'HTL.out)).size)⟩)
      refine wp_region_held_drew (S := fun _ => True) (by kernel_rfl) trivial (fun hHeld => ?_)
      refine wpAnyH_take (i := 0) (v := ?_) rfl (by kernel_rfl) (by kernel_rfl) (by kernel_rfl) (fun _ _ _ h => h) (Or.inl ⟨by rfl, ?hy⟩) (by assumption) ?_
      case hy =>
        intro w hSw
        go_simp
        all_goals with_reducible rfl
      (try simp only [Act.put, List.getElem_toArray, List.getElem_cons_succ, List.getElem_cons_zero, List.setIfInBounds_toArray, List.set_cons_zero, List.set_cons_succ])
      refine wpAnyH_take (i := 1) (v := ?_) rfl (by kernel_rfl) (by kernel_rfl) (by kernel_rfl) (fun _ _ _ h => h) (Or.inl ⟨by rfl, ?hy⟩) (by assumption) ?_
      case hy =>
        intro w hSw
        go_simp
        all_goals with_reducible rfl
      (try simp only [Act.put, List.getElem_toArray, List.getElem_cons_succ, List.getElem_cons_zero, List.setIfInBounds_toArray, List.set_cons_zero, List.set_cons_succ])
      refine wpAnyH_take (i := 2) (v := ?_) rfl (by kernel_rfl) (by kernel_rfl) (by kernel_rfl) (fun _ _ _ h => h) (Or.inl ⟨by rfl, ?hy⟩) (by assumption) ?_
      case hy =>
        intro w hSw
        go_simp
        all_goals with_reducible rfl
      (try simp only [Act.put, List.getElem_toArray, List.getElem_cons_succ, List.getElem_cons_zero, List.setIfInBounds_toArray, List.set_cons_zero, List.set_cons_succ])
      refine wpAnyH_take (i := 3) (v := ?_) rfl (by kernel_rfl) (by kernel_rfl) (by kernel_rfl) (fun _ _ _ h => h) (Or.inl ⟨by rfl, ?hy⟩) (by assumption) ?_
      case hy =>
        intro w hSw
        go_simp
        all_goals with_reducible rfl
      (try simp only [Act.put, List.getElem_toArray, List.getElem_cons_succ, List.getElem_cons_zero, List.setIfInBounds_toArray, List.set_cons_zero, List.set_cons_succ])
      refine wpAnyH_take (i := 4) (v := ?_) rfl (by kernel_rfl) (by kernel_rfl) (by kernel_rfl) (fun _ _ _ h => h) (Or.inl ⟨by rfl, ?hy⟩) (by assumption) ?_
      case hy =>
        intro w hSw
        go_simp
        all_goals with_reducible rfl
      (try simp only [Act.put, List.getElem_toArray, List.getElem_cons_succ, List.getElem_cons_zero, List.setIfInBounds_toArray, List.set_cons_zero, List.set_cons_succ])
      refine wpAnyH_take (i := 7) (v := ?_) rfl (by kernel_rfl) (by kernel_rfl) (by kernel_rfl) (fun _ _ _ h => h) (Or.inl ⟨by rfl, ?hy⟩) (by assumption) ?_
      case hy =>
        intro w hSw
        go_simp
        all_goals with_reducible rfl
      (try simp only [Act.put, List.getElem_toArray, List.getElem_cons_succ, List.getElem_cons_zero, List.setIfInBounds_toArray, List.set_cons_zero, List.set_cons_succ])
      refine wpAnyH_take (i := 5) (v := ?_) rfl (by kernel_rfl) (by kernel_rfl) (by kernel_rfl) (fun _ _ _ h => h) (Or.inl ⟨by rfl, ?hy⟩) (by assumption) ?_
      case hy =>
        intro w hSw
        go_simp
        all_goals with_reducible rfl
      (try simp only [Act.put, List.getElem_toArray, List.getElem_cons_succ, List.getElem_cons_zero, List.setIfInBounds_toArray, List.set_cons_zero, List.set_cons_succ])
      refine wpAnyH_take (i := 8) (v := ?_) rfl (by kernel_rfl) (by kernel_rfl) (by kernel_rfl) (fun _ _ _ h => h) (Or.inl ⟨by rfl, ?hy⟩) (by assumption) ?_
      case hy =>
        intro w hSw
        go_simp
        all_goals with_reducible rfl
      (try simp only [Act.put, List.getElem_toArray, List.getElem_cons_succ, List.getElem_cons_zero, List.setIfInBounds_toArray, List.set_cons_zero, List.set_cons_succ])
      refine wpAnyH_ready (rs := [6, 9]) (by kernel_rfl) (by simp) ?_
      refine (AllReadyH.cons rfl (fun K hK => ?_) (AllReadyH.cons rfl (fun K hK => ?_) AllReadyH.nil))
      · refine step_load_mid rfl 24 (.tmp 73) rfl g14 (t * 35) (by rfl) _ _ (HD14.out.1 t HTL.out) Tryd.underlying24 rfl (by rw [En.length]; kernel_rfl) ?_
        refine hK.out _ _ trivial (fun hHeld => ?_)
        clear hK K
        (try simp only [Act.put, List.getElem_toArray, List.getElem_cons_succ, List.getElem_cons_zero, List.setIfInBounds_toArray, List.set_cons_zero, List.set_cons_succ])
        refine wpAnyH_ready (rs := [9]) (by kernel_rfl) (by simp) ?_
        refine (AllReadyH.cons rfl (fun K hK => ?_) AllReadyH.nil)
        refine step_load_mid rfl 24 (.tmp 76) rfl g14 (0 * 35) (by rfl) _ _ (HD14.out.1 0 HN.out.2.1) Tryd.underlying24 rfl (by rw [En.length]; kernel_rfl) ?_
        refine hK.out _ _ trivial (fun hHeld => ?_)
        clear hK K
        (try simp only [Act.put, List.getElem_toArray, List.getElem_cons_succ, List.getElem_cons_zero, List.setIfInBounds_toArray, List.set_cons_zero, List.set_cons_succ])
        refine wpAnyH_take (i := 10) (v := ?_) rfl (by kernel_rfl) (by kernel_rfl) (by kernel_rfl) (fun _ _ _ h => h) (Or.inl ⟨by rfl, ?hy⟩) (by assumption) ?_
        case hy =>
          intro w hSw
          go_simp
          all_goals with_reducible rfl
        (try simp only [Act.put, List.getElem_toArray, List.getElem_cons_succ, List.getElem_cons_zero, List.setIfInBounds_toArray, List.set_cons_zero, List.set_cons_succ])
        refine wpAnyH_ready (rs := [11]) (by kernel_rfl) (by simp) ?_
        refine (AllReadyH.cons rfl (fun K hK => ?_) AllReadyH.nil)
        refine step_store_mid rfl 24 _ _ rfl g14 (0 * 35) (l[t]'HTL.out).cells.toArray (by rfl) (by rfl) (by rw [En.asize]; exact HD14.out.2.there 0 HN.out.2.1) (by rw [En.asize]; kernel_rfl) (En.one _) ?_
        refine hK.out _ _ trivial (fun hHeld => ?_)
        clear hK K
        (try simp only [Act.put, List.getElem_toArray, List.getElem_cons_succ, List.getElem_cons_zero, List.setIfInBounds_toArray, List.set_cons_zero, List.set_cons_succ])
        refine wpAnyH_take (i := 12) (v := ?_) rfl (by kernel_rfl) (by kernel_rfl) (by kernel_rfl) (fun _ _ _ h => h) (Or.inl ⟨by rfl, ?hy⟩) (by assumption) ?_
        case hy =>
          intro w hSw
          go_simp
          all_goals with_reducible rfl
        (try simp only [Act.put, List.getElem_toArray, List.getElem_cons_succ, List.getElem_cons_zero, List.setIfInBounds_toArray, List.set_cons_zero, List.set_cons_succ])
        refine wpAnyH_ready (rs := [13]) (by kernel_rfl) (by simp) ?_
        refine (AllReadyH.cons rfl (fun K hK => ?_) AllReadyH.nil)
        refine step_store_mid rfl 24 _ _ rfl g14 (t * 35) (l[0]'HN.out.2.1).cells.toArray (by rfl) (by rfl) (by rw [En.asize]; exact HD15.out.there t (by rw [List.length_set]; exact HTL.out)) (by rw [En.asize]; kernel_rfl) (En.one _) ?_
        refine hK.out _ _ trivial (fun hHeld => ?_)
        clear hK K
        (try simp only [Act.put, List.getElem_toArray, List.getElem_cons_succ, List.getElem_cons_zero, List.setIfInBounds_toArray, List.set_cons_zero, List.set_cons_succ])
        refine wpAnyH_done (by kernel_rfl) ?_ _
        go_wp2_with fail
        go_meet
        case rel => exact ⟨HD16, rfl⟩
      · refine step_load_mid rfl 24 (.tmp 76) rfl g14 (0 * 35) (by rfl) _ _ (HD14.out.1 0 HN.out.2.1) Tryd.underlying24 rfl (by rw [En.length]; kernel_rfl) ?_
        refine hK.out _ _ trivial (fun hHeld => ?_)
        clear hK K
        (try simp only [Act.put, List.getElem_toArray, List.getElem_cons_succ, List.getElem_cons_zero, List.setIfInBounds_toArray, List.set_cons_zero, List.set_cons_succ])
        refine wpAnyH_ready (rs := [6]) (by kernel_rfl) (by simp) ?_
        refine (AllReadyH.cons rfl (fun K hK => ?_) AllReadyH.nil)
        refine step_load_mid rfl 24 (.tmp 73) rfl g14 (t * 35) (by rfl) _ _ (HD14.out.1 t HTL.out) Tryd.underlying24 rfl (by rw [En.length]; kernel_rfl) ?_
        refine hK.out _ _ trivial (fun hHeld => ?_)
        clear hK K
        (try simp only [Act.put, List.getElem_toArray, List.getElem_cons_succ, List.getElem_cons_zero, List.setIfInBounds_toArray, List.set_cons_zero, List.set_cons_succ])
        refine wpAnyH_take (i := 10) (v := ?_) rfl (by kernel_rfl) (by kernel_rfl) (by kernel_rfl) (fun _ _ _ h => h) (Or.inl ⟨by rfl, ?hy⟩) (by assumption) ?_
        case hy =>
          intro w hSw
          go_simp
          all_goals with_reducible rfl
        (try simp only [Act.put, List.getElem_toArray, List.getElem_cons_succ, List.getElem_cons_zero, List.setIfInBounds_toArray, List.set_cons_zero, List.set_cons_succ])
        refine wpAnyH_ready (rs := [11]) (by kernel_rfl) (by simp) ?_
        refine (AllReadyH.cons rfl (fun K hK => ?_) AllReadyH.nil)
        refine step_store_mid rfl 24 _ _ rfl g14 (0 * 35) (l[t]'HTL.out).cells.toArray (by rfl) (by rfl) (by rw [En.asize]; exact HD14.out.2.there 0 HN.out.2.1) (by rw [En.asize]; kernel_rfl) (En.one _) ?_
        refine hK.out _ _ trivial (fun hHeld => ?_)
        clear hK K
        (try simp only [Act.put, List.getElem_toArray, List.getElem_cons_succ, List.getElem_cons_zero, List.setIfInBounds_toArray, List.set_cons_zero, List.set_cons_succ])
        refine wpAnyH_take (i := 12) (v := ?_) rfl (by kernel_rfl) (by kernel_rfl) (by kernel_rfl) (fun _ _ _ h => h) (Or.inl ⟨by rfl, ?hy⟩) (by assumption) ?_
        case hy =>
          intro w hSw
          go_simp
          all_goals with_reducible rfl
        (try simp only [Act.put, List.getElem_toArray, List.getElem_cons_succ, List.getElem_cons_zero, List.setIfInBounds_toArray, List.set_cons_zero, List.set_cons_succ])
        refine wpAnyH_ready (rs := [13]) (by kernel_rfl) (by simp) ?_
        refine (AllReadyH.cons rfl (fun K hK => ?_) AllReadyH.nil)
        refine step_store_mid rfl 24 _ _ rfl g14 (t * 35) (l[0]'HN.out.2.1).cells.toArray (by rfl) (by rfl) (by rw [En.asize]; exact HD15.out.there t (by rw [List.length_set]; exact HTL.out)) (by rw [En.asize]; kernel_rfl) (En.one _) ?_
        refine hK.out _ _ trivial (fun hHeld => ?_)
        clear hK K
        (try simp only [Act.put, List.getElem_toArray, List.getElem_cons_succ, List.getElem_cons_zero, List.setIfInBounds_toArray, List.set_cons_zero, List.set_cons_succ])
        refine wpAnyH_done (by kernel_rfl) ?_ _
        go_wp2_with fail
        go_meet
        case rel => exact ⟨HD16, rfl⟩
    case rest =>
      obtain ⟨hc15, rfl⟩ := hcut
      have hg15 : ((l.set 0 (l[t]'HTL.out)).set t (l[0]'HN.out.2.1)).all goodB = true := by
        have hga := (okS_parts HG.out.1).2.2
        exact all_set (all_set hga (List.all_eq_true.1 hga _ (List.getElem_mem _)) 0) (List.all_eq_true.1 hga _ (List.getElem_mem _)) t
      have hk15 : ∀ x ∈ (l.set 0 (l[t]'HTL.out)).set t (l[0]'HN.out.2.1), x.Ok :=
        En.all_ok (En.all_ok HT13.out.1.1.1.1.ens.ok (HT13.out.1.1.1.1.ens.ok _ (List.getElem_mem _)) 0) (HT13.out.1.1.1.1.ens.ok _ (List.getElem_mem _)) t
      have HV := Lib.hid (show Tv wc w q l e q5 (headS 32 l) (some ⟨g9, 0, none⟩) M10 p12 M12 p13 (l ++ [e]) (some ⟨g14, 0, none⟩) ((l.set 0 (l[t]'HTL.out)).set t (l[0]'HN.out.2.1)) from
        ⟨HT13.out.1.1.1.1.on hc15.out.2, HT13.out.1.1.1.2.on hc15.out.2, HT13.out.1.1.2.on hc15.out.2, HT13.out.1.2.on hc15.out.2, HT13.out.2.on hc15.out.2, hc15.out.1.ens hk15⟩)
      have HM14 := Lib.hid (show ((l.set 0 (l[t]'HTL.out)).set t (l[0]'HN.out.2.1)).length = l.length ∧ ((l.set 0 (l[t]'HTL.out)).set t (l[0]'HN.out.2.1)).all goodB = true from ⟨by rw [List.length_set, List.length_set], hg15⟩)
      have HM13 := Lib.hid (show (l ++ [e]).length = l.length + 1 ∧ (l ++ [e]).all goodB = true from ⟨by simp, by rw [List.all_append, Bool.and_eq_true]; exact ⟨(okS_parts HG.out.1).2.2, by simp [HG.out.2]⟩⟩)
      clear hc15 hg15 hk15 HT13 HO14
      generalize (l.set 0 (l[t]'HTL.out)).set t (l[0]'HN.out.2.1) = M14 at *
      generalize l ++ [e] = M13 at *
      have CB := Lib.hid (bound_n q l c e q5 c5 w HE.out HN.out.2.1 HN.out.1 HG.out.1)
      go_upto_region 17 with (first
        | (go_at_call 30; refine (CB.out (some ⟨g14, 0, none⟩) M14 _ _ HM14.out.1.symm (by have := HM14.out.1; have := HN.out.1; omega) HM14.out.2 _ HV3.out.tk HV3.out.rd HV3.out.e14).mono ?_; rintro r w23 ⟨rfl, hb⟩; have HV4 := Lib.hid (HV3.out.on hb); clear hb)
        | (go_at_call 30; refine (CB.out p13 M13 _ _ HM13.out.1.symm (by have := HM13.out.1; have := HN.out.1; omega) HM13.out.2 _ HV2.out.tk HV2.out.rd HV2.out.e13).mono ?_; rintro r w22 ⟨rfl, hb⟩; have HV3 := Lib.hid (HV2.out.on hb); clear hb)
        | (go_at_call 30; refine (CB.out p12 M12 _ _ rfl (by have := HML.out.1; omega) HML.out.2 _ HV1.out.tk HV1.out.rd HV1.out.e12).mono ?_; rintro r w21 ⟨rfl, hb⟩; have HV2 := Lib.hid (HV1.out.on hb); clear hb)
        | (go_at_call 30; refine (CB.out (some ⟨g9, 0, none⟩) M10 _ _ HMX.out.1.1.symm (by have := HMX.out.1.1; have := HN.out.1; omega) HMX.out.1.2 _ HV.out.tk HV.out.rd HV.out.e10).mono ?_; rintro r w20 ⟨rfl, hb⟩; have HV1 := Lib.hid (HV.out.on hb); clear hb))
      obtain ⟨bq, oq, rfl, _, _⟩ := HV4.out.tk.ens.at t HTL.out
      have HVD := Lib.hid (HV4.out.on (Below.refl _ _).drew)
      have HH := Lib.hid (verS_self 32 l)
      have HEZ := Lib.hid (show headE 32 l = 0 by unfold headE; rw [if_pos HG.out.1])
      have HEQ := Lib.hid (show eqE e (l[t]'HTL.out) = true → M10 = l from fun h => HMX.out.2 (by rw [eqE_iff.1 h, List.getD_eq_getElem?_getD, List.getElem?_eq_getElem HTL.out]; rfl))
      have CV := Lib.hid (fun X (h0 : Env X) (h1 : Ens X (some ⟨bq, oq, none⟩) l) (h2 : Rd0 X q5 (headS 32 l)) => cverify_any 32 _ l c q5 (headS 32 l) c5 X h0 h1 (by have := HN.out.1; omega) h2)
      rw [HH.out, HEZ.out] at CV
      have CW := Lib.hid (fun (hm : M10 = l) X (h0 : Env X) (h1 : Ens X (some ⟨g9, 0, none⟩) M10) (h2 : Rd0 X q5 (headS 32 l)) => (show Calls Tryd.prog 18 #[.int .i64 32, .slice (some ⟨g9, 0, none⟩) l.length d9, .slice q5 (headS 32 l).length c5] X fun r w' => r = .returned (.int .i64 0) ∧ Below X.heap.size X w' by
        subst hm
        have h := cverify_any 32 (some ⟨g9, 0, none⟩) M10 d9 q5 (headS 32 M10) c5 X h0 h1 (by have := HN.out.1; omega) h2
        rw [HH.out, HEZ.out] at h
        exact h))
      clear HV HV1 HV2 HV3 CB
      refine wp_region_held_drew (S := fun X => Tk X w (some ⟨bq, oq, none⟩) l e) (by kernel_rfl) HVD.out.tk (fun hHeld => ?_)
      refine wpAnyH_take (i := 0) (v := ?_) rfl (by kernel_rfl) (by kernel_rfl) (by kernel_rfl) (fun _ _ _ h => h) (Or.inl ⟨by rfl, ?hy⟩) (by assumption) ?_
      case hy =>
        intro w hSw
        go_simp
        all_goals with_reducible rfl
      (try simp only [Act.put, List.getElem_toArray, List.getElem_cons_succ, List.getElem_cons_zero, List.setIfInBounds_toArray, List.set_cons_zero, List.set_cons_succ])
      refine wpAnyH_take (i := 1) (v := ?_) rfl (by kernel_rfl) (by kernel_rfl) (by kernel_rfl) (fun _ _ _ h => h) (Or.inl ⟨by rfl, ?hy⟩) (by assumption) ?_
      case hy =>
        intro w hSw
        go_simp
        all_goals with_reducible rfl
      (try simp only [Act.put, List.getElem_toArray, List.getElem_cons_succ, List.getElem_cons_zero, List.setIfInBounds_toArray, List.set_cons_zero, List.set_cons_succ])
      refine wpAnyH_ready (rs := [2]) (by kernel_rfl) (by simp) ?_
      refine (AllReadyH.cons rfl (fun K hK => ?_) AllReadyH.nil)
      go_simp
      go_at_call 18
      refine (CV.out _ (HE.out.on HVD.out.tk.bel).env HVD.out.tk.ens HVD.out.rd).mono ?_
      rintro r w24 ⟨rfl, hb⟩
      have HV5 := Lib.hid (HVD.out.on hb)
      clear hb
      refine hK.out _ _ HV5.out.tk (fun hHeld => ?_)
      clear hK K
      (try simp only [Act.put, List.getElem_toArray, List.getElem_cons_succ, List.getElem_cons_zero, List.setIfInBounds_toArray, List.set_cons_zero, List.set_cons_succ])
      refine wpAnyH_take (i := 3) (v := ?_) rfl (by kernel_rfl) (by kernel_rfl) (by kernel_rfl) (fun _ _ _ h => h) (Or.inl ⟨by rfl, ?hy⟩) (by assumption) ?_
      case hy =>
        intro w hSw
        go_simp
        all_goals with_reducible rfl
      (try simp only [Act.put, List.getElem_toArray, List.getElem_cons_succ, List.getElem_cons_zero, List.setIfInBounds_toArray, List.set_cons_zero, List.set_cons_succ])
      refine wpAnyH_take (i := 4) (v := ?_) rfl (by kernel_rfl) (by kernel_rfl) (by kernel_rfl) (fun _ _ _ h => h) (Or.inl ⟨by rfl, ?hy⟩) (by assumption) ?_
      case hy =>
        intro w hSw
        go_simp
        all_goals with_reducible rfl
      (try simp only [Act.put, List.getElem_toArray, List.getElem_cons_succ, List.getElem_cons_zero, List.setIfInBounds_toArray, List.set_cons_zero, List.set_cons_succ])
      refine wpAnyH_take (i := 6) (v := ?_) rfl (by kernel_rfl) (by kernel_rfl) (by kernel_rfl) (fun _ _ _ h => h) (Or.inl ⟨by rfl, ?hy⟩) (by assumption) ?_
      case hy =>
        intro w hSw
        go_simp
        all_goals with_reducible rfl
      (try simp only [Act.put, List.getElem_toArray, List.getElem_cons_succ, List.getElem_cons_zero, List.setIfInBounds_toArray, List.set_cons_zero, List.set_cons_succ])
      refine wpAnyH_take (i := 7) (v := ?_) rfl (by kernel_rfl) (by kernel_rfl) (by kernel_rfl) (fun _ _ _ h => h) (Or.inl ⟨by rfl, ?hy⟩) (by assumption) ?_
      case hy =>
        intro w hSw
        go_simp
        all_goals with_reducible rfl
      (try simp only [Act.put, List.getElem_toArray, List.getElem_cons_succ, List.getElem_cons_zero, List.setIfInBounds_toArray, List.set_cons_zero, List.set_cons_succ])
      refine wpAnyH_take (i := 8) (v := ?_) rfl (by kernel_rfl) (by kernel_rfl) (by kernel_rfl) (fun _ _ _ h => h) (Or.inl ⟨by rfl, ?hy⟩) (by assumption) ?_
      case hy =>
        intro w hSw
        go_simp
        all_goals with_reducible rfl
      (try simp only [Act.put, List.getElem_toArray, List.getElem_cons_succ, List.getElem_cons_zero, List.setIfInBounds_toArray, List.set_cons_zero, List.set_cons_succ])
      refine wpAnyH_take (i := 5) (v := .agg e.cells.toArray) rfl (by kernel_rfl) (by kernel_rfl) (by kernel_rfl) (fun _ _ _ h => h) (yieldsIf_load_mid (by rfl) 24 (.tmp 5) rfl w.heap.size 0 (by rfl) _ _ (fun _ h => h.range) Tryd.underlying24 rfl (by rw [En.length]; kernel_rfl)) (by assumption) ?_
      (try simp only [Act.put, List.getElem_toArray, List.getElem_cons_succ, List.getElem_cons_zero, List.setIfInBounds_toArray, List.set_cons_zero, List.set_cons_succ])
      refine wpAnyH_take (i := 9) (v := (.agg (l[t]'HTL.out).cells.toArray)) rfl (by kernel_rfl) (by kernel_rfl) (by kernel_rfl) (fun _ _ _ h => h) (yieldsIf_load_mid (by rfl) 24 (.tmp 114) rfl bq (oq + t * 35) (by rfl) _ _ (fun _ h => h.place t HTL.out) Tryd.underlying24 rfl (by rw [En.length]; kernel_rfl)) (by assumption) ?_
      (try simp only [Act.put, List.getElem_toArray, List.getElem_cons_succ, List.getElem_cons_zero, List.setIfInBounds_toArray, List.set_cons_zero, List.set_cons_succ])
      refine wpAnyH_take (i := 10) (v := (.bool (!(eqE e (l[t]'HTL.out))))) rfl (by kernel_rfl) (by kernel_rfl) (by kernel_rfl) (fun _ _ _ h => h) (Or.inl ⟨by rfl, ?hy⟩) (by assumption) ?_
      case hy =>
        intro wx hSw
        exact run_neT e _ _ _ wx rfl ⟨rfl, rfl⟩
      (try simp only [Act.put, List.getElem_toArray, List.getElem_cons_succ, List.getElem_cons_zero, List.setIfInBounds_toArray, List.set_cons_zero, List.set_cons_succ])
      refine wpAnyH_take (i := 11) (v := ?_) rfl (by kernel_rfl) (by kernel_rfl) (by kernel_rfl) (fun _ _ _ h => h) (Or.inl ⟨by rfl, ?hy⟩) (by assumption) ?_
      case hy =>
        intro w hSw
        go_simp
        all_goals with_reducible rfl
      (try simp only [Act.put, List.getElem_toArray, List.getElem_cons_succ, List.getElem_cons_zero, List.setIfInBounds_toArray, List.set_cons_zero, List.set_cons_succ])
      rcases Bool.eq_false_or_eq_true (eqE e (l[t]'HTL.out)) with hq | hq
      · rw [hq]
        refine wpAnyH_take (i := 12) (v := ?_) rfl (by kernel_rfl) (by kernel_rfl) (by kernel_rfl) (fun _ _ _ h => h) (Or.inl ⟨by rfl, ?hy⟩) (by assumption) ?_
        case hy =>
          intro w hSw
          go_simp
          all_goals with_reducible rfl
        (try simp only [Act.put, List.getElem_toArray, List.getElem_cons_succ, List.getElem_cons_zero, List.setIfInBounds_toArray, List.set_cons_zero, List.set_cons_succ])
        refine wpAnyH_take (i := 13) (v := ?_) rfl (by kernel_rfl) (by kernel_rfl) (by kernel_rfl) (fun _ _ _ h => h) (Or.inl ⟨by rfl, ?hy⟩) (by assumption) ?_
        case hy =>
          intro w hSw
          go_simp
          all_goals with_reducible rfl
        (try simp only [Act.put, List.getElem_toArray, List.getElem_cons_succ, List.getElem_cons_zero, List.setIfInBounds_toArray, List.set_cons_zero, List.set_cons_succ])
        refine wpAnyH_ready (rs := [14]) (by kernel_rfl) (by simp) ?_
        refine (AllReadyH.cons rfl (fun K hK => ?_) AllReadyH.nil)
        go_simp
        go_at_call 18
        refine (CW.out (HEQ.out hq) _ (HE.out.on HV5.out.tk.bel).env HV5.out.e10 HV5.out.rd).mono ?_
        rintro r w25 ⟨rfl, hb⟩
        have HV6 := Lib.hid (HV5.out.on hb)
        clear hb
        refine hK.out _ _ HV6.out.tk (fun hHeld => ?_)
        clear hK K
        (try simp only [Act.put, List.getElem_toArray, List.getElem_cons_succ, List.getElem_cons_zero, List.setIfInBounds_toArray, List.set_cons_zero, List.set_cons_succ])
        refine wpAnyH_take (i := 15) (v := ?_) rfl (by kernel_rfl) (by kernel_rfl) (by kernel_rfl) (fun _ _ _ h => h) (Or.inl ⟨by rfl, ?hy⟩) (by assumption) ?_
        case hy =>
          intro w hSw
          go_simp
          all_goals with_reducible rfl
        (try simp only [Act.put, List.getElem_toArray, List.getElem_cons_succ, List.getElem_cons_zero, List.setIfInBounds_toArray, List.set_cons_zero, List.set_cons_succ])
        refine wpAnyH_take (i := 16) (v := ?_) rfl (by kernel_rfl) (by kernel_rfl) (by kernel_rfl) (fun _ _ _ h => h) (Or.inl ⟨by rfl, ?hy⟩) (by assumption) ?_
        case hy =>
          intro w hSw
          go_simp
          all_goals with_reducible rfl
        (try simp only [Act.put, List.getElem_toArray, List.getElem_cons_succ, List.getElem_cons_zero, List.setIfInBounds_toArray, List.set_cons_zero, List.set_cons_succ])
        refine wpAnyH_take (i := 17) (v := ?_) rfl (by kernel_rfl) (by kernel_rfl) (by kernel_rfl) (fun _ _ _ h => h) (Or.inl ⟨by rfl, ?hy⟩) (by assumption) ?_
        case hy =>
          intro w hSw
          go_simp
          all_goals with_reducible rfl
        (try simp only [Act.put, List.getElem_toArray, List.getElem_cons_succ, List.getElem_cons_zero, List.setIfInBounds_toArray, List.set_cons_zero, List.set_cons_succ])
        refine wpAnyH_take (i := 18) (v := ?_) rfl (by kernel_rfl) (by kernel_rfl) (by kernel_rfl) (fun _ _ _ h => h) (Or.inl ⟨by rfl, ?hy⟩) (by assumption) ?_
        case hy =>
          intro w hSw
          go_simp
          all_goals with_reducible rfl
        (try simp only [Act.put, List.getElem_toArray, List.getElem_cons_succ, List.getElem_cons_zero, List.setIfInBounds_toArray, List.set_cons_zero, List.set_cons_succ])
        refine wpAnyH_done (by kernel_rfl) ?_ _
        go_wp2_with fail
        go_ret
        exact ⟨by rfl, HV6.out.tk.bel⟩
      · rw [hq]
        refine wpAnyH_take (i := 12) (v := undef) rfl (by kernel_rfl) (by kernel_rfl) (by kernel_rfl) (fun _ _ _ h => h) (Or.inr ⟨by rfl, rfl⟩) (by assumption) ?_
        (try simp only [Act.put, List.getElem_toArray, List.getElem_cons_succ, List.getElem_cons_zero, List.setIfInBounds_toArray, List.set_cons_zero, List.set_cons_succ])
        refine wpAnyH_take (i := 13) (v := undef) rfl (by kernel_rfl) (by kernel_rfl) (by kernel_rfl) (fun _ _ _ h => h) (Or.inr ⟨by rfl, rfl⟩) (by assumption) ?_
        (try simp only [Act.put, List.getElem_toArray, List.getElem_cons_succ, List.getElem_cons_zero, List.setIfInBounds_toArray, List.set_cons_zero, List.set_cons_succ])
        refine wpAnyH_take (i := 14) (v := undef) rfl (by kernel_rfl) (by kernel_rfl) (by kernel_rfl) (fun _ _ _ h => h) (Or.inr ⟨by rfl, rfl⟩) (by assumption) ?_
        (try simp only [Act.put, List.getElem_toArray, List.getElem_cons_succ, List.getElem_cons_zero, List.setIfInBounds_toArray, List.set_cons_zero, List.set_cons_succ])
        refine wpAnyH_take (i := 15) (v := undef) rfl (by kernel_rfl) (by kernel_rfl) (by kernel_rfl) (fun _ _ _ h => h) (Or.inr ⟨by rfl, rfl⟩) (by assumption) ?_
        (try simp only [Act.put, List.getElem_toArray, List.getElem_cons_succ, List.getElem_cons_zero, List.setIfInBounds_toArray, List.set_cons_zero, List.set_cons_succ])
        refine wpAnyH_take (i := 16) (v := ?_) rfl (by kernel_rfl) (by kernel_rfl) (by kernel_rfl) (fun _ _ _ h => h) (Or.inl ⟨by rfl, ?hy⟩) (by assumption) ?_
        case hy =>
          intro w hSw
          go_simp
          all_goals with_reducible rfl
        (try simp only [Act.put, List.getElem_toArray, List.getElem_cons_succ, List.getElem_cons_zero, List.setIfInBounds_toArray, List.set_cons_zero, List.set_cons_succ])
        refine wpAnyH_take (i := 17) (v := ?_) rfl (by kernel_rfl) (by kernel_rfl) (by kernel_rfl) (fun _ _ _ h => h) (Or.inl ⟨by rfl, ?hy⟩) (by assumption) ?_
        case hy =>
          intro w hSw
          go_simp
          all_goals with_reducible rfl
        (try simp only [Act.put, List.getElem_toArray, List.getElem_cons_succ, List.getElem_cons_zero, List.setIfInBounds_toArray, List.set_cons_zero, List.set_cons_succ])
        refine wpAnyH_take (i := 18) (v := ?_) rfl (by kernel_rfl) (by kernel_rfl) (by kernel_rfl) (fun _ _ _ h => h) (Or.inl ⟨by rfl, ?hy⟩) (by assumption) ?_
        case hy =>
          intro w hSw
          go_simp
          all_goals with_reducible rfl
        (try simp only [Act.put, List.getElem_toArray, List.getElem_cons_succ, List.getElem_cons_zero, List.setIfInBounds_toArray, List.set_cons_zero, List.set_cons_succ])
        refine wpAnyH_done (by kernel_rfl) ?_ _
        go_wp2_with fail
        go_ret
        exact ⟨by rfl, HV5.out.tk.bel⟩
theorem turned_walk (q : Option Addr) (l : List En) (c : Nat) (k : Int) (e : En) (w : World) (hE : Env3 w) (hA : Ens w q l) (he : e.Ok) (hc : l.length ≤ c) :
    Calls Tryd.prog 8 #[.slice q l.length c, .int .i64 k, .agg e.cells.toArray] w fun r w' => r = .returned (.bool true) ∧ Below w.heap.size w w' := by
  by_cases h : 20 < l.length ∨ l.length = 0
  · exact turned_small q l c k e w hE hA he h
  · by_cases h2 : okS 32 l = false ∨ goodB e = false
    · exact turned_bad q l c k e w hE hA he (by omega) (by omega) h2
    · exact turned_main q l c k e w hE hA he hc (by omega) (by omega) (by rw [not_or] at h2; simpa using h2.1) (by rw [not_or] at h2; simpa using h2.2)
end Go.Proofs.YtammglimobninaaDoor
