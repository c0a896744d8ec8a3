/-
  PROVED: mandatelaw19.DiskNil answers true for every input, and each argument reads afterwards as before. No condition.
-/
import Derived.Test.YtcganjggdkcfhaaGe21
import Derived.Test.YtcganjggdkcfhaaRows
import Derived.ProofKit
import Derived.OpenShut
import Derived.ShutString
import Derived.Stop.Joined
import Derived.SevenTiedAt
import Derived.Lib.SmallJoins
import Derived.Deep.Slices
import Derived.SizedLaws
set_option linter.unusedVariables false
set_option linter.unusedSimpArgs false
namespace Go.Proofs.Ytcganjggdkcfhaa
open Go.ChangeShapes Go.WideShapes Go.ChangeAt Go.WideMaps Go.WideElems Go.RowKit Go.Joins Go.Deep

theorem laidOut : laidOutB Try.prog = true := by kernel_rfl
theorem own : ownKnob Try.prog.godebug = none := by kernel_rfl
theorem oneCell_of_okWide {P : Program} {w : World} {base : Nat} {t : TypeId} {v : Value} (h : Cell.okWide P w .any base t v) : v.oneCell' = true := by
  cases v <;> first | rfl | (exfalso; unfold Cell.okWide at h; split at h <;> first | (rename_i h1 h2; cases h2) | (unfold Cell.ok at h; split at h <;> simp_all))

theorem nil_true : Ge.saysTrue ((Ge.lev Try.prog (Ge.drawF Try.prog) 30).call 7 [.agg #[.chan (some 70000), .chan (some 70001), .chan (some 70002), .chan (some 70003), .chan (some 70004)]] ⟨.leaf, 0⟩) = true := by kernel_rfl
theorem nil_walk (a b c d e : Value) (ha : a.oneCell' = true) (hb : b.oneCell' = true) (hc : c.oneCell' = true) (hd : d.oneCell' = true) (he : e.oneCell' = true) (W : World) :
    Calls Try.prog 7 #[.agg #[a, b, c, d, e]] W fun e W' => e = .returned (.bool true) ∧ Below W.heap.size W W' := by
  refine Ge.groundA (n := 0) [] (by decide +kernel) (by decide) [a, b, c, d, e] nil_true ?_ W ?_
  · exact .cons (.agg (.cons (Ge.opq_at 0 rfl ha) (.cons (Ge.opq_at 1 rfl hb) (.cons (Ge.opq_at 2 rfl hc) (.cons (Ge.opq_at 3 rfl hd) (.cons (Ge.opq_at 4 rfl he) .nil)))))) .nil
  · intro g cs hm
    cases hm
theorem cells32 : Try.prog.cellsOf 32 = 5 := by kernel_rfl
theorem five_of {P : Program} {W : World} {base : Nat} {t : TypeId} {v : Value} {fs : Array Field} (hu : P.underlying t = some (.struct fs)) (h2 : P.cellsOf t = 5) (hv : Value.okWide P W .any base t v) : ∃ c0 c1 c2 c3 c4, v = .agg #[c0, c1, c2, c3, c4] ∧ c0.oneCell' = true ∧ c1.oneCell' = true ∧ c2.oneCell' = true ∧ c3.oneCell' = true ∧ c4.oneCell' = true := by
  simp only [Value.okWide, hu] at hv
  obtain ⟨cs, rfl, hcs, _, _, _, hr⟩ := hv
  rw [h2] at hcs
  have hsz : ∃ c0 c1 c2 c3 c4, cs = #[c0, c1, c2, c3, c4] := by
    obtain ⟨l⟩ := cs
    match l, hcs with
    | [a, b, c, d, e], _ => exact ⟨a, b, c, d, e, rfl⟩
  obtain ⟨c0, c1, c2, c3, c4, rfl⟩ := hsz
  have one : ∀ (i : Nat) (c : Value), (#[c0, c1, c2, c3, c4] : Array Value)[i]? = some c → c.oneCell' = true := fun i c hc => by
    obtain ⟨_, _, h0⟩ := hr i c hc
    exact oneCell_of_okWide h0
  exact ⟨c0, c1, c2, c3, c4, rfl, one 0 c0 rfl, one 1 c1 rfl, one 2 c2 rfl, one 3 c3 rfl, one 4 c4 rfl⟩
set_option maxRecDepth 100000 in
theorem open_five {W : World} {base : Nat} {v : Value} (hv : Value.okWide Try.prog W .any base 32 v) : ∃ c0 c1 c2 c3 c4, v = .agg #[c0, c1, c2, c3, c4] ∧ c0.oneCell' = true ∧ c1.oneCell' = true ∧ c2.oneCell' = true ∧ c3.oneCell' = true ∧ c4.oneCell' = true := five_of Try.underlying32 cells32 hv
namespace NilP

set_option maxRecDepth 100000 in
theorem lifted (os : Os) (started : os.Started) (H : Type) (enc : TypeId × Value → H) :
    ReturnsInHanded {} Try.checked os 7 .any (Rows.diskNilSpec.pre6 enc Try.prog Try.f7 Rows.diskNilRow.domain false) (Rows.diskNilSpec.post enc Try.prog Try.f7 false true false false) := by
  refine returnsInHanded_of_change (C := Try.checked) own started (by kernel_rfl) Try.func7
    (ChangeSpec.witness6 (enc := enc) (C := Try.checked) false ⟨#[], #[.agg #[.int .i64 0, .int .i64 0, .string ByteArray.empty, .string ByteArray.empty, .slice none 0 0]], []⟩ 8 (by kernel_rfl) (by kernel_rfl) (by kernel_rfl) (by kernel_rfl)) ?_
  intro W base args ds gs before hval0 hW _ _
  have hval : ∀ (j : Nat) t v, Try.f7.params[j]? = some t → args[j]? = some v → Value.okWide Try.prog W .any base t v := hval0
  have hW' := hW
  obtain ⟨p, q, hA0, hV, rfl, hfz, hnd⟩ := hW
  have hA : DataW.TrodAll enc Try.prog W 0 (fun _ => true) true Try.f7.params.toList args.toList ds p := hA0
  rw [Try.params7] at hA hval
  obtain ⟨v0, d0, rfl, rfl, h0⟩ := trodAll_one hA
  obtain ⟨rfl, rfl⟩ := trodVars_none hV
  have k0 := h0
  have lt0 : ∀ x ∈ p, x.block < W.heap.size := by obtain ⟨m, hm⟩ := k0; exact DataW.trod_lt m _ _ _ hm
  obtain ⟨c0, c1, c2, c3, c4, rfl, o0, o1, o2, o3, o4⟩ := open_five (hval 0 32 v0 rfl rfl)
  clear hA0 hval0
  refine (nil_walk c0 c1 c2 c3 c4 o0 o1 o2 o3 o4 W).mono fun e W' ⟨he, hb⟩ => ?_
  subst he
  exact ⟨_, rfl, _, _, _, [], _, [], hW', trodAll_mk1 (shut_bool Try.underlying4 _), trodAll_mk1 (Below.trod laidOut (by kernel_rfl) (of_decide_eq_true (by kernel_rfl)) k0 hb lt0), rfl, hb.frame _, fun h => by cases h⟩
end NilP

theorem nil_holds : Rows.DiskNilSaid :=
  OpenClaim.holds_of_wide 7 Try.f7 rfl rfl rfl rfl rfl rfl rfl ⟨rfl, rfl, rfl, rfl, rfl⟩ rfl rfl rfl rfl rfl (by kernel_rfl) Try.func7 (by kernel_rfl)
    (of_decide_eq_true (by kernel_rfl)) (by unfold Func.isWrapper; first | (rw [if_pos (by decide +kernel)]; kernel_rfl) | (rw [if_neg (by decide +kernel)]; exact ⟨rfl, rfl⟩))
    (fun os started H enc _ => NilP.lifted os started H enc)
end Go.Proofs.Ytcganjggdkcfhaa
