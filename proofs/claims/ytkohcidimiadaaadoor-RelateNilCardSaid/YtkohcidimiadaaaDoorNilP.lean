/-
  PROVED: mandatelaw12.RelateNil answers true for every input, and each argument reads afterwards as before (the tied card: the listed package-level variable starts as the program's text lays it). No further condition.
-/
import Derived.Test.YtkohcidimiadaaaDoorGe21
import Derived.Test.YtkohcidimiadaaaDoorTie
import Derived.Test.YtkohcidimiadaaaDoorCards
import Derived.ProofKit
import Derived.LaidMore
import Derived.OpenShut
import Derived.ShutString
import Derived.Stop.Joined
import Derived.Stop.LaidErr
import Derived.SevenTiedAt
import Derived.Lib.LaidTab
import Derived.Lib.SmallJoins
import Derived.Lib.TrailingZeros
import Derived.Deep.Slices
import Derived.SizedLaws
namespace Go.Proofs.YtkohcidimiadaaaDoor
open Go.ChangeShapes Go.WideShapes Go.ChangeAt Go.WideMaps Go.WideElems Go.RowKit Go.Joins Go.Deep

theorem laidOut : laidOutB Tryd.prog = true := by kernel_rfl
theorem own : ownKnob Tryd.prog.godebug = none := by kernel_rfl
def laid1 : List (String × DataW Unit) := [("math/bits.deBruijn64tab", Rows.laid_math_bits_deBruijn64tab)]
def deB : List Value := Lib.deBruijn64tab.map fun n : Nat => .int .u8 (n : Int)
theorem tab_of_laid {W : World} (h : laidMetH Tryd.prog laid1 W) : ∀ (i : Nat) v, deB[i]? = some v → W.cell? ⟨0, i, none⟩ = some v := by
  rw [MakeChecks.laidMetH_plain _ _ _ (by kernel_rfl)] at h
  have ht : Lib.TabIs Tryd.prog W "math/bits.deBruijn64tab" .u8 (Lib.deBruijn64tab.map fun n : Nat => (n : Int)) := Lib.tabIs_of_head (g := 0) (t := 84) (e := 5) (n := 64) (rest := []) (by kernel_rfl) (by kernel_rfl) Tryd.underlying84 Tryd.underlying5 (by kernel_rfl) (by kernel_rfl) h
  intro j v hv
  obtain ⟨hj, rfl⟩ := List.getElem?_eq_some_iff.1 hv
  have hj' : j < Lib.deBruijn64tab.length := by simpa [deB] using hj
  rw [ht.cell (g := 0) (by kernel_rfl) j (by rw [List.length_map]; exact hj')]
  simp [deB, List.getD_eq_getElem?_getD, List.getElem?_map, List.getElem?_eq_getElem hj']
theorem door_met (os : Os) (args : Array Value) : laidMetH Tryd.prog laid1 ((World.doorLaid Tryd.prog 400 os).forCall (fun _ _ => 0) ⟨#[], args, []⟩).memory :=
  laidMetH_of_parts3 (fuel := 8) (laidMet_of_run' 8 (by kernel_rfl) (by kernel_rfl)) (by kernel_rfl) (by kernel_rfl)
theorem oneCell_of_okWide {P : Program} {w : World} {base : Nat} {t : TypeId} {v : Value} (h : Cell.okWide P w .any base t v) : v.oneCell' = true := by
  cases v <;> first | rfl | (exfalso; unfold Cell.okWide at h; split at h <;> first | (rename_i h1 h2; cases h2) | (unfold Cell.ok at h; split at h <;> simp_all))

theorem nil_true : Ge.saysTrue ((Ge.lev Tryd.prog (Ge.drawF Tryd.prog) 30).call 3 [.agg #[.chan (some 70000), .chan (some 70001)], .chan (some 70002), .chan (some 70003)] ⟨Ge.tabsH [(0, deB)], 1⟩) = true := by kernel_rfl
theorem nil_walk (a b c d : Value) (ha : a.oneCell' = true) (hb : b.oneCell' = true) (hc : c.oneCell' = true) (hd : d.oneCell' = true) (W : World) (hT : ∀ (i : Nat) v, deB[i]? = some v → W.cell? ⟨0, i, none⟩ = some v) :
    Calls Tryd.prog 3 #[.agg #[a, b], c, d] W fun e W' => e = .returned (.bool true) ∧ Below W.heap.size W W' := by
  refine Ge.groundA [(0, deB)] (by decide +kernel) (by decide) [a, b, c, d] nil_true ?_ W ?_
  · exact .cons (.agg (.cons (Ge.opq_at 0 rfl ha) (.cons (Ge.opq_at 1 rfl hb) .nil))) (.cons (Ge.opq_at 2 rfl hc) (.cons (Ge.opq_at 3 rfl hd) .nil))
  · intro g cs hm i v hv
    obtain ⟨rfl, rfl⟩ : g = 0 ∧ cs = deB := by simpa using hm
    exact hT i v hv
theorem cells24 : Tryd.prog.cellsOf 24 = 2 := by kernel_rfl
theorem two_of {P : Program} {W : World} {base : Nat} {t : TypeId} {v : Value} {fs : Array Field} (hu : P.underlying t = some (.struct fs)) (h2 : P.cellsOf t = 2) (hv : Value.okWide P W .any base t v) : ∃ c0 c1, v = .agg #[c0, c1] ∧ c0.oneCell' = true ∧ c1.oneCell' = true := by
  simp only [Value.okWide, hu] at hv
  obtain ⟨cs, rfl, hcs, _, _, _, hr⟩ := hv
  rw [h2] at hcs
  obtain ⟨c0, c1, rfl⟩ := array2 hcs
  obtain ⟨_, _, h0⟩ := hr 0 c0 rfl
  obtain ⟨_, _, h1⟩ := hr 1 c1 rfl
  exact ⟨c0, c1, rfl, oneCell_of_okWide h0, oneCell_of_okWide h1⟩
theorem open_two {W : World} {base : Nat} {v : Value} (hv : Value.okWide Tryd.prog W .any base 24 v) : ∃ c0 c1, v = .agg #[c0, c1] ∧ c0.oneCell' = true ∧ c1.oneCell' = true := two_of Tryd.underlying24 cells24 hv
namespace NilP

set_option maxRecDepth 100000 in
theorem lifted (os : Os) (started : os.Started) (H : Type) (enc : TypeId × Value → H) :
    ReturnsInHanded {} Tryd.checked os 3 .any (fun w args => (Rows.relateNilSpec.pre enc Tryd.prog Tryd.f3 [] false w args ∧ laidMetH Tryd.prog laid1 w) ∧ sizedMet enc Tryd.prog Tryd.f3 (OpenSpec.ofChange Rows.relateNilSpec) false w args)
      (Rows.relateNilSpec.post enc Tryd.prog Tryd.f3 false true false false) := by
  refine returnsInHanded_of_change_and (C := Tryd.checked) (X := fun w _ => laidMetH Tryd.prog laid1 w) (fun _ _ _ hh h => h.of_heap hh) own started (by kernel_rfl) Tryd.func3
    (ChangeSpec.witness_shaped (enc := enc) (C := Tryd.checked) (os := os) (X := fun w _ => laidMetH Tryd.prog laid1 w) false (World.doorLaid Tryd.prog 400 os) #[.agg #[.string ByteArray.empty, .slice none 0 0], .int .u64 0, .int .i64 0] 8 rfl (World.shaped_of_RefB (by kernel_rfl) (by kernel_rfl)) (by kernel_rfl) (by kernel_rfl) (by kernel_rfl) (door_met os _)) ?_
  intro W base args ds gs before hval0 hW _ hsz hL _
  have hval : ∀ (j : Nat) t v, Tryd.f3.params[j]? = some t → args[j]? = some v → Value.okWide Tryd.prog W .any base t v := hval0
  have hW' := hW
  obtain ⟨p, q, hA0, hV, rfl, hfz, hnd⟩ := hW
  have hA : DataW.TrodAll enc Tryd.prog W 0 (fun _ => true) true Tryd.f3.params.toList args.toList ds p := hA0
  rw [Tryd.params3] at hA hval
  obtain ⟨v0, v1, v2, d0, d1, d2, p0, p1, p2, rfl, rfl, rfl, h0, h1, h2⟩ := trodAll_three hA
  obtain ⟨rfl, rfl⟩ := trodVars_none hV
  have k0 := h0
  have lt0 : ∀ x ∈ p0, x.block < W.heap.size := by obtain ⟨m, hm⟩ := k0; exact DataW.trod_lt m _ _ _ hm
  have k1 := h1
  have lt1 : ∀ x ∈ p1, x.block < W.heap.size := by obtain ⟨m, hm⟩ := k1; exact DataW.trod_lt m _ _ _ hm
  have k2 := h2
  have lt2 : ∀ x ∈ p2, x.block < W.heap.size := by obtain ⟨m, hm⟩ := k2; exact DataW.trod_lt m _ _ _ hm
  obtain ⟨c0, c1, rfl, o0, o1⟩ := open_two (hval 0 24 v0 rfl rfl)
  obtain ⟨a, rfl, rfl, rfl, _⟩ := open_int Tryd.underlying25 (hval 1 25 v1 rfl rfl) h1
  obtain ⟨b, rfl, rfl, rfl, _⟩ := open_int Tryd.underlying3 (hval 2 3 v2 rfl rfl) h2
  clear hA0 hval0
  refine (nil_walk c0 c1 _ _ o0 o1 rfl rfl W (tab_of_laid hL)).mono fun e W' ⟨he, hb⟩ => ?_
  subst he
  exact ⟨_, rfl, _, _, _, [], _, [], hW', trodAll_mk1 (shut_bool Tryd.underlying4 _), trodAll_mk3 (Below.trod laidOut (by kernel_rfl) (of_decide_eq_true (by kernel_rfl)) k0 hb lt0) (Below.trod laidOut (by kernel_rfl) (of_decide_eq_true (by kernel_rfl)) k1 hb lt1) (Below.trod laidOut (by kernel_rfl) (of_decide_eq_true (by kernel_rfl)) k2 hb lt2), rfl, hb.frame _, fun h => by cases h⟩
end NilP

theorem relateNil_holds : Rows.RelateNilSaid :=
  OpenClaim.holds_of_wide 3 Tryd.f3 rfl rfl rfl rfl rfl rfl rfl ⟨rfl, rfl, rfl, rfl, rfl⟩ rfl rfl rfl rfl rfl (by kernel_rfl) Tryd.func3 (by kernel_rfl)
    (of_decide_eq_true (by kernel_rfl)) (by unfold Func.isWrapper; rw [if_neg (of_decide_eq_false (by kernel_rfl))]; exact ⟨rfl, rfl⟩)
    (fun os started H enc _ => NilP.lifted os started H enc)

theorem nil_card : Rows.RelateNilCardSaid :=
  Claim7.holds_tied_plain_at .later [] [.data] true (true, "ed91012eca8004951d6bdb05160ce2dd0822095d4c1b81990e538a597ad252a4") false
    relateNil_holds (fun _ h => by cases h) (by kernel_rfl) (fun _ h => by cases h) relateNil_row_tie rfl ⟨rfl, rfl⟩ (by kernel_rfl) rfl
    (fun f fn hf hfn => by
      obtain rfl : f = 3 := Option.some.inj ((show Tryd.prog.funcNamed Rows.relateNilRow.func = some 3 by kernel_rfl).symm.trans hf) |>.symm
      obtain rfl : fn = Tryd.f3 := (Option.some.inj (Tryd.func3.symm.trans hfn)).symm
      exact ⟨by kernel_rfl, fun j t ht => by
        rw [Tryd.params3] at ht
        have hm : t ∈ [24, 25, 3] := by simpa using Array.mem_of_getElem? ht
        have hall : ([24, 25, 3].all fun u => !Tryd.prog.wantsStandIn u) = true := by kernel_rfl
        exact (show Tryd.prog.wantsStandIn t = false by simpa using List.all_eq_true.1 hall t hm)⟩)
    (by kernel_rfl)
end Go.Proofs.YtkohcidimiadaaaDoor
