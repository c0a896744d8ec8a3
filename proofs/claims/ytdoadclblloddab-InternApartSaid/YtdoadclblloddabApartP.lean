/-
  PROVED: mandatelaw02.InternApart answers true for every input, and each argument reads afterwards as before. No condition.
-/
import Derived.Test.YtdoadclblloddabApartW
import Derived.Test.YtdoadclblloddabOpen
namespace Go.Proofs.Ytdoadclblloddab
open Go.ChangeShapes Go.WideShapes Go.ChangeAt Go.WideMaps Go.WideElems Go.RowKit Go.Joins Go.Deep
namespace ApartP

theorem open26v {H : Type} {enc : TypeId × Value → H} {W : World} {base : Nat} {v : Value} {d : DataW H} {p : List MemPlace} (hv : Value.okWide Try.prog W .any base 26 v) (h : DataW.Trod enc Try.prog W 0 (fun _ => true) true 26 v d p) :
    ∃ (q : Option Addr) (l : List Vl) (c : Nat), v = .slice q l.length c ∧ Vals W W.heap.size q l ∧ OkAll l ∧ l.length ≤ maxLen := by
  obtain ⟨fuel, hf⟩ := h
  have hc : v.cells.toList = [v] := by
    simp only [Value.okWide, Try.underlying26, Cell.okWide] at hv
    cases v <;> simp_all [Cell.ok, Value.cells]
  rw [hc] at hf
  obtain ⟨q, l, c, h1, h2, h3, h4, _⟩ := open26 hf
  exact ⟨q, l, c, h1, h2, h3, h4⟩

theorem walk_all (q r : Option Addr) (l more : List Vl) (c d : Nat) (w : World) (hv : Vals w w.heap.size q l) (hv2 : Vals w w.heap.size r more) (ho : OkAll l) (ho2 : OkAll more) (hm : l.length ≤ maxLen) (hm2 : more.length ≤ maxLen) :
    Calls Try.prog 4 #[.slice q l.length c, .slice r more.length d] w fun e w' => e = .returned (.bool true) ∧ Below w.heap.size w w' := by
  by_cases h : 200 < l.length ∨ 200 < more.length
  · exact ApartLaw.walk_long q r l more c d w hm hm2 h
  · cases hg : goodAll l
    · exact ApartLaw.walk_bad q r l more c d w hv hv2 ho ho2 (by omega) (by omega) hg
    · exact ApartLaw.walk_good q r l more c d w hv hv2 ho ho2 (by omega) (by omega) hg

set_option maxRecDepth 100000 in
theorem lifted (os : Os) (started : os.Started) (H : Type) (enc : TypeId × Value → H) :
    ReturnsInHanded {} Try.checked os 4 .any (Rows.internApartSpec.pre6 enc Try.prog Try.f4 Rows.internApartRow.domain false) (Rows.internApartSpec.post enc Try.prog Try.f4 false true false false) := by
  refine returnsInHanded_of_change (C := Try.checked) own started (by kernel_rfl) Try.func4
    (ChangeSpec.witness6 (enc := enc) (C := Try.checked) false ⟨#[], #[.slice none 0 0, .slice none 0 0], []⟩ 8 (by kernel_rfl) (by kernel_rfl) (by kernel_rfl) (by kernel_rfl)) ?_
  intro W base args ds gs before hval0 hW _ _
  have hval : ∀ (j : Nat) t v, Try.f4.params[j]? = some t → args[j]? = some v → Value.okWide Try.prog W .any base t v := hval0
  have hW' := hW
  obtain ⟨p, q, hA0, hV, rfl, hfz, hnd⟩ := hW
  have hA : DataW.TrodAll enc Try.prog W 0 (fun _ => true) true Try.f4.params.toList args.toList ds p := hA0
  rw [Try.params4] at hA hval
  obtain ⟨v0, v1, d0, d1, p0, p1, rfl, rfl, rfl, h0, h1⟩ := trodAll_two hA
  obtain ⟨rfl, rfl⟩ := trodVars_none hV
  have k0 := h0
  have lt0 : ∀ x ∈ p0, x.block < W.heap.size := by obtain ⟨m, hm⟩ := k0; exact DataW.trod_lt m _ _ _ hm
  have k1 := h1
  have lt1 : ∀ x ∈ p1, x.block < W.heap.size := by obtain ⟨m, hm⟩ := k1; exact DataW.trod_lt m _ _ _ hm
  obtain ⟨q, l, c, rfl, hv1, ho1, hm1⟩ := open26v (hval 0 26 v0 rfl rfl) h0
  obtain ⟨r, more, d, rfl, hv2, ho2, hm2⟩ := open26v (hval 1 26 v1 rfl rfl) h1
  clear hA0 hval0
  refine (walk_all q r l more c d W hv1 hv2 ho1 ho2 hm1 hm2).mono fun e W' ⟨he, hb⟩ => ?_
  subst he
  exact ⟨_, rfl, _, _, _, [], _, [], hW', trodAll_mk1 (shut_bool Try.underlying4 _), trodAll_mk2 (Below.trod laidOut (by kernel_rfl) (of_decide_eq_true (by kernel_rfl)) k0 hb lt0) (Below.trod laidOut (by kernel_rfl) (of_decide_eq_true (by kernel_rfl)) k1 hb lt1), rfl, hb.frame _, fun h => by cases h⟩
end ApartP

theorem apart_holds : Rows.InternApartSaid :=
  OpenClaim.holds_of_wide 4 Try.f4 rfl rfl rfl rfl rfl rfl rfl ⟨rfl, rfl, rfl, rfl, rfl⟩ rfl rfl rfl rfl rfl (by kernel_rfl) Try.func4 (by kernel_rfl)
    (of_decide_eq_true (by kernel_rfl)) (by unfold Func.isWrapper; first | (rw [if_pos (by decide +kernel)]; kernel_rfl) | (rw [if_neg (by decide +kernel)]; exact ⟨rfl, rfl⟩))
    (fun os started H enc _ => ApartP.lifted os started H enc)
end Go.Proofs.Ytdoadclblloddab
