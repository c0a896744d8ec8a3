/-
  Contract: (*links).summed.
-/
import Derived.Test.YtammglimobninaaDoorHlk
import Derived.Deep.RegionHeld3
import Derived.Deep.MidRow
set_option linter.unusedVariables false
set_option linter.unusedSimpArgs false
namespace Go.Proofs.YtammglimobninaaDoor
open Go.RowKit Nm

theorem wp_app8 {w : World} {o : Oper} {a : Act} {K : Act → World → Prop} {Q : Exit → Act → World → Prop} (s x : Operand)
    (ho : o.op = .call { callee := .builtin .append, args := #[s, x], argTypes := #[25, 25] }) (hty : o.type = 25)
    (base : Nat) (v : Value) (xs : List UInt8) (hs : a.eval s = v) (hA : Acc w base v xs) (q : Option Addr) (m : List UInt8) (n c : Nat) (hx : a.eval x = .slice q n c) (hn : n = m.length) (hR : Rd0 w q m) (hz : xs.length + m.length ≤ 100000000000000) (hbase : base ≤ w.heap.size)
    (h : ∀ v' w', Acc w' base v' (xs ++ m) → Below base w w' → K (a.put o.dst v') w') : Oper.wp Tryd.prog o a w K Q := by
  subst hn
  obtain ⟨v', w', hr, h1, h2⟩ := run_app8 w base v xs hA q m c hR hz hbase
  unfold Oper.wp execOp
  simp only [ho, hty, resolve, invoke, builtin, Sem.run_bind, Sem.run_pure, Result.andThen_ok, List.map_toArray, List.map_cons, List.map_nil, hs, hx, hr]
  exact h v' w' h1 h2
theorem Lk.below {X X' : World} {b o cut count B : Nat} {sum : List UInt8} (h : Lk X b o cut count sum) (hb : Below B X X') (hB : b < B) : Lk X' b o cut count sum :=
  ⟨by rw [hb.cell (p := ⟨b, o, none⟩) hB]; exact h.cut, by rw [hb.cell (p := ⟨b, o + 1, none⟩) hB]; exact h.count, fun j v hv => by rw [hb.cell (p := ⟨b, o + 2 + j, none⟩) hB]; exact h.lies j v hv, h.len⟩

set_option maxRecDepth 100000 in
set_option maxHeartbeats 2000000 in
theorem summed_any (b o cut count : Nat) (sum : List UInt8) (e : En) (hk : e.Ok) (hg : goodB e = true) (w : World) (h : Lk w b o cut count sum) (hcut : cut ≤ 32) (hct : count < 9223372036854775808) :
    Calls Tryd.prog 44 #[.pointer (some ⟨b, o, none⟩), .agg e.cells.toArray] w fun r w' => ∃ v', r = .returned v' ∧ Acc w' w.heap.size v' (sum.take cut ++ bytesS count e) ∧ Below w.heap.size w w' := by
  have HP := Lib.hid (good_parts hg)
  have HSZ := Lib.hid (En.size hk)
  have HLC := Lib.hid (show e.cells.length = 35 by have := HSZ.out; rwa [List.size_toArray] at this)
  have HK := Lib.hid hk
  have HL := Lib.hid h.len
  have HD0 := Lib.hid (⟨h.on (below1 w (.cells e.cells.toArray 24)), Eb.start w e⟩ : Lk (w.alloc (.cells e.cells.toArray 24)) b o cut count sum ∧ Eb (w.alloc (.cells e.cells.toArray 24)) w e)
  have HWA := Lib.hid (show b < (w.alloc (.cells e.cells.toArray 24)).heap.size by have := h.lt; simp; omega)
  have HWA2 := Lib.hid (show w.heap.size + 1 ≤ (w.alloc (.cells e.cells.toArray 24)).heap.size by simp)
  clear hk hg h
  go_enter Tryd.func44, Tryd.ntmps44
  go_upto_region 1 with (fail)
  generalize w.alloc (.cells e.cells.toArray 24) = WA at *
  have HD := Lib.hid (⟨HD0.out.1.on (Below.refl _ _).drew, HD0.out.2.on (Below.refl _ _).drew⟩ : Lk WA.drew b o cut count sum ∧ Eb WA.drew w e)
  have HRG := Lib.hid (show ∀ X, Lk X b o cut count sum → Eb X w e → (X.cell? ⟨b, o + 1, none⟩ = some (.int .i64 count) ∧ X.rangeAt w.heap.size 0 e.cells) from fun X h1 h2 => ⟨h1.count, fun j v hv => by rw [Nat.zero_add]; exact h2.bk.cell j v (by rw [List.toList_toArray]; exact hv)⟩)
  clear HD0
  refine wp_region_held_drew (S := fun X => X.cell? ⟨b, o + 1, none⟩ = some (.int .i64 count) ∧ X.rangeAt w.heap.size 0 e.cells) (by kernel_rfl) (HRG.out _ HD.out.1 HD.out.2) (fun hHeld => ?_)
  refine wpAnyH_take (i := 0) (v := ?_) rfl (by kernel_rfl) (by kernel_rfl) (by kernel_rfl) (fun _ _ _ h => h) (Or.inl ⟨by rfl, ?hy⟩) (by assumption) ?_
  case hy =>
    intro w hSw
    go_simp
    all_goals with_reducible rfl
  (try simp only [Act.put, List.setIfInBounds_toArray, List.set_cons_zero, List.set_cons_succ])
  refine wpAnyH_take (i := 2) (v := ?_) rfl (by kernel_rfl) (by kernel_rfl) (by kernel_rfl) (fun _ _ _ h => h) (Or.inl ⟨by rfl, ?hy⟩) (by assumption) ?_
  case hy =>
    intro w hSw
    go_simp
    all_goals with_reducible rfl
  (try simp only [Act.put, List.setIfInBounds_toArray, List.set_cons_zero, List.set_cons_succ])
  refine wpAnyH_take (i := 3) (v := ?_) rfl (by kernel_rfl) (by kernel_rfl) (by kernel_rfl) (fun _ _ _ h => h) (Or.inl ⟨by rfl, ?hy⟩) (by assumption) ?_
  case hy =>
    intro w hSw
    obtain ⟨hs1, hs2⟩ := hSw
    go_simp
    all_goals with_reducible rfl
  (try simp only [Act.put, List.setIfInBounds_toArray, List.set_cons_zero, List.set_cons_succ])
  refine wpAnyH_take (i := 4) (v := ?_) rfl (by kernel_rfl) (by kernel_rfl) (by kernel_rfl) (fun _ _ _ h => h) (Or.inl ⟨by rfl, ?hy⟩) (by assumption) ?_
  case hy =>
    intro w hSw
    obtain ⟨hs1, hs2⟩ := hSw
    go_simp
    all_goals with_reducible rfl
  (try simp only [Act.put, List.setIfInBounds_toArray, List.set_cons_zero, List.set_cons_succ])
  refine wpAnyH_take (i := 5) (v := ?_) rfl (by kernel_rfl) (by kernel_rfl) (by kernel_rfl) (fun _ _ _ h => h) (Or.inl ⟨by rfl, ?hy⟩) (by assumption) ?_
  case hy =>
    intro w hSw
    obtain ⟨hs1, hs2⟩ := hSw
    go_simp
    all_goals with_reducible rfl
  (try simp only [Act.put, List.setIfInBounds_toArray, List.set_cons_zero, List.set_cons_succ])
  refine wpAnyH_take (i := 6) (v := .agg e.cells.toArray) rfl (by kernel_rfl) (by kernel_rfl) (by kernel_rfl) (fun _ _ _ h => h) (yieldsIf_load_mid (by rfl) 24 (.tmp 3) rfl w.heap.size 0 (by rfl) _ _ (fun _ h => h.2) Tryd.underlying24 rfl (by rw [HLC.out]; kernel_rfl)) (by assumption) ?_
  (try simp only [Act.put, List.setIfInBounds_toArray, List.set_cons_zero, List.set_cons_succ])
  refine wpAnyH_ready (rs := [1]) (by kernel_rfl) (by simp) ?_
  refine AllReadyH.cons rfl (fun K hK => ?_) AllReadyH.nil
  go_simp
  go_at_call 39
  refine (lhead_any b o cut count sum _ HD.out.1 hcut).mono ?_
  rintro r w2 ⟨v2, rfl, hA, hb⟩
  have HA := Lib.hid hA
  have HB := Lib.hid hb.size
  have HD2 := Lib.hid (⟨HD.out.1.on hb, HD.out.2.on (hb.mono HD.out.2.size)⟩ : Lk w2 b o cut count sum ∧ Eb w2 w e)
  clear hA hb
  refine hK.out _ _ (HRG.out _ HD2.out.1 HD2.out.2) (fun hHeld => ?_)
  clear hK K
  (try simp only [Act.put, List.setIfInBounds_toArray, List.set_cons_zero, List.set_cons_succ])
  refine wpAnyH_ready (rs := [7]) (by kernel_rfl) (by simp) ?_
  refine AllReadyH.cons rfl (fun K hK => ?_) AllReadyH.nil
  go_simp
  go_at_call 32
  refine (written_any count e HK.out _ hct HP.out.2.1 HP.out.2.2.1 (by have := HP.out.1; omega) (by have := HP.out.2.2.2; omega)).mono ?_
  rintro r w3 ⟨v3, rfl, hA, hb⟩
  have HA2 := Lib.hid (HA.out.on HB.out hb)
  have HB2 := Lib.hid (Nat.le_trans HB.out hb.size)
  have HD3 := Lib.hid (⟨HD2.out.1.on hb, HD2.out.2.on (hb.mono HD2.out.2.size)⟩ : Lk w3 b o cut count sum ∧ Eb w3 w e)
  obtain ⟨q3, c3, rfl, hd3, hR3⟩ := hA.rd
  have HR3 := Lib.hid hR3
  clear hA hb hd3 hR3
  refine hK.out _ _ (HRG.out _ HD3.out.1 HD3.out.2) (fun hHeld => ?_)
  clear hK K
  (try simp only [Act.put, List.setIfInBounds_toArray, List.set_cons_zero, List.set_cons_succ])
  refine wpAnyH_ready (rs := [8]) (by kernel_rfl) (by simp) ?_
  refine AllReadyH.cons rfl (fun K hK => ?_) AllReadyH.nil
  rw [if_pos (by rfl)]
  refine wp_app8 _ _ rfl rfl WA.heap.size v2 _ rfl HA2.out q3 (bytesS count e) _ c3 rfl rfl HR3.out (by have := HP.out.1; have := HP.out.2.2.2; have := HK.out.dig; have := HL.out; rw [List.length_take]; simp [bytesS, numS_len]; omega) HB2.out ?_
  intro v4 w4 hA hb
  have HA4 := Lib.hid hA
  have HD4 := Lib.hid (⟨HD3.out.1.below hb (by have := HWA.out; omega), HD3.out.2.on (hb.mono HWA2.out)⟩ : Lk w4 b o cut count sum ∧ Eb w4 w e)
  clear hA hb
  refine hK.out _ _ (HRG.out _ HD4.out.1 HD4.out.2) (fun hHeld => ?_)
  clear hK K
  (try simp only [Act.put, List.setIfInBounds_toArray, List.set_cons_zero, List.set_cons_succ])
  refine wpAnyH_ready (rs := [9]) (by kernel_rfl) (by simp) ?_
  refine AllReadyH.cons rfl (fun K hK => ?_) AllReadyH.nil
  go_simp
  skip
  refine hK.out _ _ (HRG.out _ HD4.out.1 HD4.out.2) (fun hHeld => ?_)
  clear hK K
  (try simp only [Act.put, List.setIfInBounds_toArray, List.set_cons_zero, List.set_cons_succ])
  refine wpAnyH_done (by kernel_rfl) ?_ _
  go_wp2_with fail
  go_ret
  exact ⟨_, rfl, HA4.out.low (Nat.le_of_succ_le HWA2.out), HD4.out.2.bel⟩
end Go.Proofs.YtammglimobninaaDoor
