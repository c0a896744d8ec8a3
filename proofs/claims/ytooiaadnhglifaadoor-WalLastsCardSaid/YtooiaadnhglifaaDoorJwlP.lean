/-
  PROVED: mandatelaw20.WalLasts answers true for every input, and each argument reads afterwards as before (the tied card: the listed package-level variables start as the program's text lays them). No further condition.
-/
import Derived.Test.YtooiaadnhglifaaDoorFrw
import Derived.Test.YtooiaadnhglifaaDoorOpw
import Derived.Test.YtooiaadnhglifaaDoorJwg
namespace Go.Proofs.YtooiaadnhglifaaDoor
section
set_option linter.unusedVariables false
set_option linter.unusedSimpArgs false
set_option maxRecDepth 100000
open Go.ChangeShapes Go.WideShapes Go.ChangeAt Go.WideMaps Go.WideElems Go.RowKit Go.Joins Go.Deep
theorem array8 {α : Type} {cs : Array α} (h : cs.size = 8) : ∃ a b c d e f g i, cs = #[a, b, c, d, e, f, g, i] := by
  obtain ⟨l⟩ := cs
  match l, h with
  | [a, b, c, d, e, f, g, i], _ => exact ⟨a, b, c, d, e, f, g, i, rfl⟩
theorem list8 {α : Type} {l : List α} (h : l.length = 8) : ∃ a b c d e f g i, l = [a, b, c, d, e, f, g, i] := by
  match l, h with
  | [a, b, c, d, e, f, g, i], _ => exact ⟨a, b, c, d, e, f, g, i, rfl⟩
def encI (z : Int) : List Value := [.int .i64 z]
theorem EI : Enc encI 1 := ⟨fun _ => rfl, by decide, fun a u hu => by simp only [encI, List.mem_cons, List.not_mem_nil, or_false] at hu; subst hu; rfl⟩
theorem cellsInt : Tryd.prog.cellsOf 3 = 1 := by kernel_rfl
theorem cellsB : Tryd.prog.cellsOf 4 = 1 := by kernel_rfl
theorem cellsSl : Tryd.prog.cellsOf 22 = 1 := by kernel_rfl
theorem cellsSsl : Tryd.prog.cellsOf 30 = 1 := by kernel_rfl
theorem cellsSI : Tryd.prog.cellsOf 39 = 1 := by kernel_rfl
theorem cellsLife : Tryd.prog.cellsOf 41 = 8 := by kernel_rfl
section
variable {H : Type} {enc : TypeId × Value → H} {W : World}
theorem open_life {base : Nat} {v : Value} {d : DataW H} {p : List MemPlace} (hv : Value.okWide Tryd.prog W .any base 41 v) (h : DataW.Trod enc Tryd.prog W 0 (fun _ => true) true 41 v d p) :
    ∃ (p0 : Option Addr) (l : List SlA) (c0 : Nat) (chk : Bool) (p2 : Option Addr) (m2 : List UInt8) (c2 : Nat) (kind units keep : Int) (p6 : Option Addr) (n6 c6 : Nat) (p7 : Option Addr) (m7 : List UInt8) (c7 : Nat),
      v = .agg (lifeV p0 l.length c0 chk p2 m2.length c2 kind units keep p6 n6 c6 p7 m7.length c7) ∧ units ≤ 9223372036854775807 ∧ keep ≤ 9223372036854775807 ∧ Lsa W p0 l ∧ Rd0 W p2 m2 ∧ m2.length ≤ c2 ∧ Rd0 W p7 m7 ∧ m7.length ≤ c7 ∧
      (∀ k, k < n6 → ∃ b off z, p6 = some ⟨b, off, none⟩ ∧ b < W.heap.size ∧ z ≤ 9223372036854775807 ∧ W.cell? ⟨b, off + k, none⟩ = some (.int .i64 z)) := by
  obtain ⟨cs, rfl, hsz⟩ := okWide_struct Tryd.underlying41 hv
  obtain ⟨z0, z1, z2, z3, z4, z5, z6, z7, rfl⟩ := array8 (hsz.trans cellsLife)
  obtain ⟨fuel, hf⟩ := h
  obtain ⟨xs, n, _, hx, hl, hlen, hf⟩ := DataW.trod_struct Tryd.underlying41 hf
  obtain ⟨y0, y1, y2, y3, y4, y5, y6, y7, rfl⟩ := list8 (show xs.length = 8 from hlen)
  have h0 : DataW.trod enc Tryd.prog W 0 (fun _ => true) true n 30 (([z0, z1, z2, z3, z4, z5, z6, z7].drop 0).take (Tryd.prog.cellsOf 30)) = some y0 := hf 0 _ rfl
  have h1 : DataW.trod enc Tryd.prog W 0 (fun _ => true) true n 4 (([z0, z1, z2, z3, z4, z5, z6, z7].drop 1).take (Tryd.prog.cellsOf 4)) = some y1 := hf 1 _ rfl
  have h2 : DataW.trod enc Tryd.prog W 0 (fun _ => true) true n 22 (([z0, z1, z2, z3, z4, z5, z6, z7].drop 2).take (Tryd.prog.cellsOf 22)) = some y2 := hf 2 _ rfl
  have h3 : DataW.trod enc Tryd.prog W 0 (fun _ => true) true n 3 (([z0, z1, z2, z3, z4, z5, z6, z7].drop 3).take (Tryd.prog.cellsOf 3)) = some y3 := hf 3 _ rfl
  have h4 : DataW.trod enc Tryd.prog W 0 (fun _ => true) true n 3 (([z0, z1, z2, z3, z4, z5, z6, z7].drop 4).take (Tryd.prog.cellsOf 3)) = some y4 := hf 4 _ rfl
  have h5 : DataW.trod enc Tryd.prog W 0 (fun _ => true) true n 3 (([z0, z1, z2, z3, z4, z5, z6, z7].drop 5).take (Tryd.prog.cellsOf 3)) = some y5 := hf 5 _ rfl
  have h6 : DataW.trod enc Tryd.prog W 0 (fun _ => true) true n 39 (([z0, z1, z2, z3, z4, z5, z6, z7].drop 6).take (Tryd.prog.cellsOf 39)) = some y6 := hf 6 _ rfl
  have h7 : DataW.trod enc Tryd.prog W 0 (fun _ => true) true n 22 (([z0, z1, z2, z3, z4, z5, z6, z7].drop 7).take (Tryd.prog.cellsOf 22)) = some y7 := hf 7 _ rfl
  simp only [Value.cells, cellsInt, cellsB, cellsSl, cellsSsl, cellsSI, List.drop_succ_cons, List.drop_zero, List.take_succ_cons, List.take_zero, List.getElem?_cons_zero, List.getElem?_cons_succ] at h0 h1 h2 h3 h4 h5 h6 h7
  clear hf
  obtain ⟨q0, l, c0, e0, hL, hL1, hcL⟩ := open_rd ES (G := fun x : SlA => Rd0 W x.q x.m ∧ x.m.length ≤ x.c) Tryd.underlying30 cellssU8 (fun h hl => by
    rename_i cs _
    match cs, hl with
    | [a], _ =>
      obtain ⟨q, m, c, rfl, h1, h2⟩ := bytes_in h
      exact ⟨⟨q, c, m⟩, rfl, h1, h2⟩) h0
  have hLs : Lsa W q0 l := ⟨by
    rcases hL with h2 | ⟨b, off, e1, e2, e3⟩
    · exact .inl h2
    · refine .inr ⟨b, off, e1, e2, fun i hi => ?_⟩
      have := e3 i hi 0 _ rfl
      rw [Nat.mul_one, Nat.add_zero] at this
      exact this, hL1⟩
  obtain ⟨chk, e1, _⟩ := DataW.trod_bool Tryd.underlying4 h1
  obtain ⟨q2, m2, c2, e2, hR2, hc2⟩ := bytes_in h2
  obtain ⟨kind, e3, _, hk⟩ := DataW.trod_int Tryd.underlying3 h3
  obtain ⟨units, e4, _, hu⟩ := DataW.trod_int Tryd.underlying3 h4
  obtain ⟨keep, e5, _, hp⟩ := DataW.trod_int Tryd.underlying3 h5
  obtain ⟨q6, l6, c6, e6, hI, hI1, hcI⟩ := open_rd EI (G := fun z : Int => z ≤ 9223372036854775807) Tryd.underlying39 cellsInt (fun h hl => by
    rename_i cs _
    match cs, hl with
    | [a], _ =>
      obtain ⟨z, ez, _, hz⟩ := DataW.trod_int Tryd.underlying3 h
      simp at ez; subst ez
      exact ⟨z, rfl, (i64_range hz).2⟩) h6
  obtain ⟨q7, m7, c7, e7, hR7, hc7⟩ := bytes_in h7
  simp at e0 e1 e2 e3 e4 e5 e6 e7
  subst e0 e1 e2 e3 e4 e5 e6 e7
  refine ⟨q0, l, c0, chk, q2, m2, c2, kind, units, keep, q6, l6.length, c6, q7, m7, c7, rfl, (i64_range hu).2, (i64_range hp).2, hLs, hR2, hc2, hR7, hc7, fun k hk => ?_⟩
  rcases hI with h2 | ⟨b, off, r1, r2, r3⟩
  · rw [h2] at hk; simp at hk
  · have := r3 k hk 0 _ rfl
    rw [Nat.mul_one, Nat.add_zero] at this
    exact ⟨b, off, l6[k], r1, r2, hI1 _ (List.getElem_mem hk), this⟩
end
end
section
set_option linter.unusedVariables false
set_option linter.unusedSimpArgs false
open Go.ChangeShapes Go.WideShapes Go.ChangeAt Go.WideMaps Go.WideElems Go.RowKit
open Go.ChangeMaps (open_string shut_string)
namespace WlastP

set_option maxRecDepth 100000 in
theorem lifted (os : Os) (started : os.Started) (H : Type) (enc : TypeId × Value → H) :
    ReturnsInHanded {} Tryd.checked os 6 .any (fun w args => (Rows.walLastsSpec.pre enc Tryd.prog Tryd.f6 [] false w args ∧ laidMetH Tryd.prog laid2 w) ∧ sizedMet enc Tryd.prog Tryd.f6 (OpenSpec.ofChange Rows.walLastsSpec) false w args)
      (Rows.walLastsSpec.post enc Tryd.prog Tryd.f6 false true false false) := by
  refine returnsInHanded_of_change_and (C := Tryd.checked) (X := fun w _ => laidMetH Tryd.prog laid2 w) (fun _ _ _ hh h => h.of_heap hh) own started (by kernel_rfl) Tryd.func6
    (ChangeSpec.witness_shaped (enc := enc) (C := Tryd.checked) (os := os) (X := fun w _ => laidMetH Tryd.prog laid2 w) false (World.doorLaid Tryd.prog 400 os) #[.agg #[.slice none 0 0, .bool false, .slice none 0 0, .int .i64 0, .int .i64 0, .int .i64 0, .slice none 0 0, .slice none 0 0]] 8 rfl (World.shaped_of_RefB (by kernel_rfl) (by kernel_rfl)) (by kernel_rfl) (by kernel_rfl) (by kernel_rfl) (door_met os _)) ?_
  intro W base args ds gs before hval0 hW _ hsz hL _
  have hval : ∀ (j : Nat) t v, Tryd.f6.params[j]? = some t → args[j]? = some v → Value.okWide Tryd.prog W .any base t v := hval0
  have hW' := hW
  obtain ⟨p, q, hA0, hV, rfl, hfz, hnd⟩ := hW
  have hA : DataW.TrodAll enc Tryd.prog W 0 (fun _ => true) true Tryd.f6.params.toList args.toList ds p := hA0
  rw [Tryd.params6] at hA hval
  obtain ⟨v0, d0, rfl, rfl, h0⟩ := trodAll_one hA
  obtain ⟨rfl, rfl⟩ := trodVars_none hV
  have k0 := h0
  have lt0 : ∀ x ∈ p, x.block < W.heap.size := by obtain ⟨m, hm⟩ := k0; exact DataW.trod_lt m _ _ _ hm
  obtain ⟨p0, l, c0, chk, p2, m2, c2, kind, units, keep, p6, n6, c6, p7, m7, c7, rfl, hu, hk, hL0, hR2, hc2, hR7, hc7, hA6⟩ := open_life (hval 0 41 v0 rfl rfl) h0
  clear hA0 hval0
  refine (wlasts_walk p0 _ c0 l rfl chk p2 _ c2 m2 rfl hc2 kind units keep hu hk p6 n6 c6 p7 _ c7 m7 rfl hc7 W (env_of_laid hL) hL0 hR2 hR7 hA6).mono fun e W' ⟨he, hb⟩ => ?_
  subst he
  exact ⟨_, rfl, _, _, _, [], _, [], hW', trodAll_mk1 (shut_bool Tryd.underlying4 _), trodAll_mk1 (Below.trod laidOut (by kernel_rfl) (of_decide_eq_true (by kernel_rfl)) k0 hb lt0), rfl, hb.frame _, fun h => by cases h⟩
end WlastP

theorem walLasts_holds : Rows.WalLastsSaid :=
  OpenClaim.holds_of_wide 6 Tryd.f6 rfl rfl rfl rfl rfl rfl rfl ⟨rfl, rfl, rfl, rfl, rfl⟩ rfl rfl rfl rfl rfl (by kernel_rfl) Tryd.func6 (by kernel_rfl)
    (of_decide_eq_true (by kernel_rfl)) (by unfold Func.isWrapper; rw [if_neg (of_decide_eq_false (by kernel_rfl))]; exact ⟨rfl, rfl⟩)
    (fun os started H enc _ => WlastP.lifted os started H enc)

theorem wlasts_card : Rows.WalLastsCardSaid :=
  Claim7.holds_tied_plain_at .later [] [.data, .data] true (true, "631fbecb10c63daf3795fe4cef0e942ca02972add2266927e89507709eb5260e") false
    walLasts_holds (fun _ h => by cases h) (by kernel_rfl) (fun _ h => by cases h) walLasts_row_tie rfl ⟨rfl, rfl⟩ (by kernel_rfl) rfl
    (fun f fn hf hfn => by
      obtain rfl : f = 6 := Option.some.inj ((show Tryd.prog.funcNamed Rows.walLastsRow.func = some 6 by kernel_rfl).symm.trans hf) |>.symm
      obtain rfl : fn = Tryd.f6 := (Option.some.inj (Tryd.func6.symm.trans hfn)).symm
      exact ⟨by kernel_rfl, fun j t ht => by
        rw [Tryd.params6] at ht
        have hm : t ∈ [41] := by simpa using Array.mem_of_getElem? ht
        have hall : ([41].all fun u => !Tryd.prog.wantsStandIn u) = true := by kernel_rfl
        exact (show Tryd.prog.wantsStandIn t = false by simpa using List.all_eq_true.1 hall t hm)⟩)
    (by kernel_rfl)
end
end Go.Proofs.YtooiaadnhglifaaDoor
