/-
  PROVED: mandatelaw04.PosetOrder answers true for every input, and each argument reads afterwards as before (the tied card: the listed package-level variables start as the program's text lays them). No further condition.
-/
import Derived.Test.YtkgcloggnnjioaaDoorFrame
import Derived.Test.YtkgcloggnnjioaaDoorOrderW
namespace Go.Proofs.YtkgcloggnnjioaaDoor
open Go.ChangeShapes Go.WideShapes Go.ChangeAt Go.WideMaps Go.WideElems Go.RowKit Go.Joins Go.Deep
namespace OrderP

set_option maxRecDepth 100000 in
theorem lifted (os : Os) (started : os.Started) (H : Type) (enc : TypeId × Value → H) :
    ReturnsInHanded {} Tryd.checked os 9 .any (fun w args => (Rows.posetOrderSpec.pre enc Tryd.prog Tryd.f9 [] false w args ∧ laidMetH Tryd.prog laid1 w) ∧ sizedMet enc Tryd.prog Tryd.f9 (OpenSpec.ofChange Rows.posetOrderSpec) false w args)
      (Rows.posetOrderSpec.post enc Tryd.prog Tryd.f9 false true false false) := by
  refine returnsInHanded_of_change_and (C := Tryd.checked) (X := fun w _ => laidMetH Tryd.prog laid1 w) (fun _ _ _ hh h => h.of_heap hh) own started (by kernel_rfl) Tryd.func9
    (ChangeSpec.witness_shaped (enc := enc) (C := Tryd.checked) (os := os) (X := fun w _ => laidMetH Tryd.prog laid1 w) false (World.doorLaid Tryd.prog 400 os) #[.agg #[.slice none 0 0, .int .i64 0, .int .i64 0, .int .i64 0]] 8 rfl (World.shaped_of_RefB (by kernel_rfl) (by kernel_rfl)) (by kernel_rfl) (by kernel_rfl) (by kernel_rfl) (door_met os _)) ?_
  intro W base args ds gs before hval0 hW _ hsz hL _
  have hval : ∀ (j : Nat) t v, Tryd.f9.params[j]? = some t → args[j]? = some v → Value.okWide Tryd.prog W .any base t v := hval0
  have hW' := hW
  obtain ⟨p, q, hA0, hV, rfl, hfz, hnd⟩ := hW
  have hA : DataW.TrodAll enc Tryd.prog W 0 (fun _ => true) true Tryd.f9.params.toList args.toList ds p := hA0
  rw [Tryd.params9] at hA hval
  obtain ⟨v0, d0, rfl, rfl, h0⟩ := trodAll_one hA
  obtain ⟨rfl, rfl⟩ := trodVars_none hV
  have k0 := h0
  have lt0 : ∀ x ∈ p, x.block < W.heap.size := by obtain ⟨m, hm⟩ := k0; exact DataW.trod_lt m _ _ _ hm
  obtain ⟨v00, v01, v02, v03, ⟨dy0, py0⟩, y1, y2, y3, n0, rfl, rfl, _, t0, t1, t2, t3⟩ := open_agg4 Tryd.underlying46 (by kernel_rfl) (by kernel_rfl) (hval 0 46 v0 rfl rfl) h0
  obtain ⟨q0, ms0, c0, rfl, hus0, hsm0, hlc0, hd0⟩ := open24 t0
  obtain ⟨a, ea, _, wa⟩ := DataW.trod_int Tryd.underlying3 t1
  simp at ea; subst ea
  obtain ⟨b, eb, _, wb⟩ := DataW.trod_int Tryd.underlying3 t2
  simp at eb; subst eb
  obtain ⟨d, ed, _, wd⟩ := DataW.trod_int Tryd.underlying3 t3
  simp at ed; subst ed
  have ba := bounds_i64 wa
  have bb := bounds_i64 wb
  have hz0 : ms0.length * 8 ≤ 140737488355328 := by
    rcases hd0 with ⟨_, e⟩ | ⟨e, s, he, hel⟩
    · rw [e]; simp
    · dsimp only at he
      subst he
      have := List.all_eq_true.1 hsz _ (DataW.weights_mem_each (P := Tryd.prog) (j := 0) (t := 46) rfl rfl ((e.length + s.length) * Tryd.prog.bytesOf 36) (by simp [DataW.weights, DataW.weightsEach, Tryd.underlying46, Tryd.underlying24]))
      rw [bytes36] at this
      have h2 := of_decide_eq_true this
      simp only [reachBytes] at h2
      omega
  clear hA0 hval0
  refine (order_walk ms0 q0 c0 a b d W hz0 hsm0 hus0 (tab_of_laid hL).1 (tab_of_laid hL).2 ba.1 ba.2 bb.1 bb.2).mono fun e W' ⟨he, hb⟩ => ?_
  subst he
  exact ⟨_, rfl, _, _, _, [], _, [], hW', trodAll_mk1 (shut_bool Tryd.underlying4 _), trodAll_mk1 (Below.trod laidOut (by kernel_rfl) (of_decide_eq_true (by kernel_rfl)) k0 hb lt0), rfl, hb.frame _, fun h => by cases h⟩
end OrderP

theorem posetOrder_holds : Rows.PosetOrderSaid :=
  OpenClaim.holds_of_wide 9 Tryd.f9 rfl rfl rfl rfl rfl rfl rfl ⟨rfl, rfl, rfl, rfl, rfl⟩ rfl rfl rfl rfl rfl (by kernel_rfl) Tryd.func9 (by kernel_rfl)
    (of_decide_eq_true (by kernel_rfl)) (by unfold Func.isWrapper; rw [if_neg (of_decide_eq_false (by kernel_rfl))]; exact ⟨rfl, rfl⟩)
    (fun os started H enc _ => OrderP.lifted os started H enc)

theorem order_card : Rows.PosetOrderCardSaid :=
  Claim7.holds_tied_plain_at .later [] [.data] true (true, "d030b83a5fc0319f021b8e7981622abb023448ecbd6994d060d70ab6b636a8b4") false
    posetOrder_holds (fun _ h => by cases h) (by kernel_rfl) (fun _ h => by cases h) posetOrder_row_tie rfl ⟨rfl, rfl⟩ (by kernel_rfl) rfl
    (fun f fn hf hfn => by
      obtain rfl : f = 9 := Option.some.inj ((show Tryd.prog.funcNamed Rows.posetOrderRow.func = some 9 by kernel_rfl).symm.trans hf) |>.symm
      obtain rfl : fn = Tryd.f9 := (Option.some.inj (Tryd.func9.symm.trans hfn)).symm
      exact ⟨by kernel_rfl, fun j t ht => by
        rw [Tryd.params9] at ht
        have hm : t ∈ [46] := by simpa using Array.mem_of_getElem? ht
        have hall : ([46].all fun u => !Tryd.prog.wantsStandIn u) = true := by kernel_rfl
        exact (show Tryd.prog.wantsStandIn t = false by simpa using List.all_eq_true.1 hall t hm)⟩)
    (by kernel_rfl)
end Go.Proofs.YtkgcloggnnjioaaDoor
