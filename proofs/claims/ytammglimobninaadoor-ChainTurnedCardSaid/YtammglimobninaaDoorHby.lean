/-
  Contract: chain.Bytes.
-/
import Derived.Test.YtammglimobninaaDoorHwr
set_option linter.unusedVariables false
set_option linter.unusedSimpArgs false
namespace Go.Proofs.YtammglimobninaaDoor
open Go.RowKit Nm

theorem En.size {e : En} (h : e.Ok) : e.cells.toArray.size = 35 := by simp [En.cells, cells8_len, h.dig]
theorem good_parts {e : En} (h : goodB e = true) : e.user.size ≤ 16 ∧ 0 ≤ e.tick ∧ e.tick ≤ 1099511627776 ∧ e.text.size ≤ 4096 := by
  simp only [goodB, Bool.and_eq_true, decide_eq_true_eq] at h
  refine ⟨?_, h.2.1, h.2.2.1, h.2.2.2⟩
  have := h.1
  simp only [nameB, Bool.and_eq_true, decide_eq_true_eq] at this
  omega
/-- a whole struct is loaded by an operation that has a guard -/
theorem wpList_load_rowg {P : Program} {ops : Array Oper} {rest : List Oper} {o : Oper} {a : Act} {w : World} {Q : Exit → Act → World → Prop} (hw : Region.wanted o (yielded ops a.tmps) = true) (ty : TypeId) (x : Operand) (ho : o.op = .load ty x)
    (g : Nat) (hx : a.eval x = .pointer (some ⟨g, 0, none⟩)) (t : TypeId) (cs : Array Value) (fr : Nat × Nat) (d : TypeDesc) (hg : w.heap[g]? = some (.cells cs t fr))
    (hu : P.underlying ty = some d) (hd : (match d with | .struct _ | .array _ _ => true | _ => false) = true) (hi : (P.info? ty).map (·.size) = some cs.size)
    (h : wpList P ops Q rest (a.put o.dst (.agg cs)) w) : wpList P ops Q (o :: rest) a w :=
  wpList_step fun K hK => by rw [if_pos hw]; exact wp_load_row ty x ho g hx t cs fr d hg hu hd hi (hK _ _ h)

set_option maxRecDepth 100000 in
set_option maxHeartbeats 1000000 in
theorem bytes_good (i : Nat) (e : En) (hk : e.Ok) (w : World) (hi : i < 9223372036854775808) (hg : goodB e = true) :
    Calls Tryd.prog 11 #[.int .i64 i, .agg e.cells.toArray] w fun r w' => ∃ v' base, r = .returned (.tuple #[v', .int .i64 0]) ∧ w.heap.size ≤ base ∧ Acc w' base v' (bytesS i e) ∧ Below w.heap.size w w' := by
  have hp := good_parts hg
  have HP := Lib.hid hp
  have HS := Lib.hid (En.size hk)
  have HK := Lib.hid hk
  have HG := Lib.hid hg
  have HE := Lib.hid (Eb.start w e)
  have w0 : (0 : Int) ≤ (i : Int) := by omega
  clear hk hg hp
  go_enter Tryd.func11, Tryd.ntmps11
  go_upto_region 1 with (fail)
  generalize w.alloc (.cells e.cells.toArray 24) = WA at *
  go_upto_region 3 with (first
    | (refine wpList_load_rowg (by rfl) 24 _ rfl _ rfl _ _ _ _ HE.out.bk Tryd.underlying24 rfl (by rw [HS.out]; kernel_rfl) ?_)
    | (go_at_call 14; refine (good_any e HK.out _).mono ?_; rw [HG.out]; rintro r w1 ⟨rfl, hb⟩; have HE1 := Lib.hid (HE.out.on (hb.mono HE.out.size)); clear hb))
  go_wp2_with (first
    | (refine wpList_load_row rfl 24 _ rfl _ rfl _ _ _ _ HE1.out.bk Tryd.underlying24 rfl (by rw [HS.out]; kernel_rfl) ?_)
    | (go_at_call 32; refine (written_any i e HK.out _ hi HP.out.2.1 HP.out.2.2.1 (by have := HP.out.1; omega) (by have := HP.out.2.2.2; omega)).mono ?_; rintro r w2 ⟨v2, rfl, hA, hb⟩; have HA := Lib.hid hA; have HE2 := Lib.hid (HE1.out.on (hb.mono HE1.out.size)); clear hA hb))
  refine bodyPost_ret (results_tmp2 rfl _ _ _) rfl ?_
  exact ⟨_, _, rfl, by have := HE1.out.size; omega, HA.out, HE2.out.bel⟩

set_option maxRecDepth 100000 in
set_option maxHeartbeats 1000000 in
theorem bytes_bad (i : Int) (e : En) (hk : e.Ok) (w : World) (h : i < 0 ∨ goodB e = false) :
    Calls Tryd.prog 11 #[.int .i64 i, .agg e.cells.toArray] w fun r w' => r = .returned (.tuple #[.slice none 0 0, .int .i64 1]) ∧ Below w.heap.size w w' := by
  have HS := Lib.hid (En.size hk)
  have HK := Lib.hid hk
  have HE := Lib.hid (Eb.start w e)
  have h2 : i < 0 ∨ (0 ≤ i ∧ goodB e = false) := by
    rcases h with h | h
    · exact .inl h
    · by_cases h0 : i < 0
      · exact .inl h0
      · exact .inr ⟨by omega, h⟩
  clear hk h
  go_enter Tryd.func11, Tryd.ntmps11
  go_upto_region 1 with (fail)
  generalize w.alloc (.cells e.cells.toArray 24) = WA at *
  rcases h2 with h2 | ⟨h2, hg⟩
  · go_wp2_with fail
    exact bodyPost_ret (results_tmp2 rfl _ _ _) rfl ⟨rfl, HE.out.bel⟩
  · have HG := Lib.hid hg
    clear hg
    go_wp2_with (first
      | (refine wpList_load_rowg (by rfl) 24 _ rfl _ rfl _ _ _ _ HE.out.bk Tryd.underlying24 rfl (by rw [HS.out]; kernel_rfl) ?_)
      | (go_at_call 14; refine (good_any e HK.out _).mono ?_; rw [HG.out]; rintro r w1 ⟨rfl, hb⟩; have HE1 := Lib.hid (HE.out.on (hb.mono HE.out.size)); clear hb))
    exact bodyPost_ret (results_tmp2 rfl _ _ _) rfl ⟨rfl, HE1.out.bel⟩
end Go.Proofs.YtammglimobninaaDoor
