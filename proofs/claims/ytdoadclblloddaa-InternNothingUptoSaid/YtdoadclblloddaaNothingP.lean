/-
  PROVED: mandatelaw02.InternNothing answers true for every input whose values and letters are together at most 1048576 (the second form: for numbers beyond some 10^13 the call would make a slice greater than any machine's memory), and each argument reads afterwards as before. No further condition.
-/
import Derived.Test.YtdoadclblloddaaOpen
import Derived.Test.YtdoadclblloddaaNothingW
import Derived.JoinedCond
namespace Go.Proofs.Ytdoadclblloddaa
open Go.ChangeShapes Go.WideShapes Go.ChangeAt Go.WideMaps Go.WideElems Go.RowKit Go.Joins Go.Deep
namespace NothingP

theorem cells51 : Try.prog.cellsOf 51 = 5 := by kernel_rfl
theorem cells26 : Try.prog.cellsOf 26 = 1 := by kernel_rfl
theorem cells27 : Try.prog.cellsOf 27 = 1 := by kernel_rfl

theorem length_le {H : Type} (l : List (DataW H)) : l.length ≤ Rows.uptoBulkAll l := by
  induction l with
  | nil => simp [Rows.uptoBulkAll]
  | cons x r ih =>
    have : 1 ≤ Rows.uptoBulk x := by
      cases x with
      | lit l => cases l <;> simp [Rows.uptoBulk]
      | nil => simp [Rows.uptoBulk]
      | ptr d => simp [Rows.uptoBulk]
      | slice elems spare => simp [Rows.uptoBulk]
      | agg parts => simp [Rows.uptoBulk]
      | iface t d => simp [Rows.uptoBulk]
      | map entries => simp [Rows.uptoBulk]
      | held h => simp [Rows.uptoBulk]
    simp only [Rows.uptoBulkAll, List.length_cons]; omega

set_option maxRecDepth 100000 in
theorem open51 {H : Type} {enc : TypeId × Value → H} {W : World} {base : Nat} {v : Value} {d : DataW H} {p : List MemPlace} (hv : Value.okWide Try.prog W .any base 51 v) (h : DataW.Trod enc Try.prog W 0 (fun _ => true) true 51 v d p) :
    ∃ (s : ByteArray) (n N : Int) (q : Option Addr) (vs : List Vl) (c : Nat) (r : Option Addr) (ns : List Int) (e : Nat), v = .agg #[.string s, .int .i64 n, .int .i64 N, .slice q vs.length c, .slice r ns.length e] ∧ Ok (s, n) ∧ Vals W W.heap.size q vs ∧ OkAll vs ∧ Ints W W.heap.size r ns ∧
      (Rows.uptoBulkAll [d] ≤ 1048576 → vs.length ≤ 1048576 ∧ ns.length ≤ 1048576) := by
  obtain ⟨cs, rfl, hsz⟩ := okWide_struct Try.underlying51 hv
  obtain ⟨l⟩ := cs
  match l, hsz.trans cells51 with
  | [c0, c1, c2, c3, c4], _ =>
    obtain ⟨fuel, hf⟩ := h
    obtain ⟨xs, n, _, hx, _, hlen, hg⟩ := DataW.trod_struct Try.underlying51 hf
    match xs, hlen with
    | [y0, y1, y2, y3], _ =>
      have g0 := hg 0 _ rfl
      have g1 := hg 1 _ rfl
      have g2 := hg 2 _ rfl
      have g3 := hg 3 _ rfl
      simp [Value.cells, cells31, cells3, cells26, cells27] at g0 g1 g2 g3
      obtain ⟨zs, n', _, hz, _, hlen2, hg2⟩ := DataW.trod_struct Try.underlying31 g0
      match zs, hlen2 with
      | [z0, z1], _ =>
        have k0 := hg2 0 _ rfl
        have k1 := hg2 1 _ rfl
        simp [cells9, cells2] at k0 k1
        obtain ⟨s, e0, _, hs⟩ := DataW.trod_string Try.underlying9 k0
        obtain ⟨m, e1, _, hm⟩ := DataW.trod_int Try.underlying2 k1
        obtain ⟨N, e2, _, _⟩ := DataW.trod_int Try.underlying3 g1
        obtain ⟨q, vs, c, e3, hq, ho, hl, hb⟩ := open26 g2
        obtain ⟨r, ns, e, e4, hr, hw, hl2, hb2⟩ := open27 g3
        cases e0; cases e1; cases e2; subst e3; subst e4
        refine ⟨s, m, N, q, vs, c, r, ns, e, rfl, ⟨hs, hm⟩, hq, ho, hr, fun hbd => ?_⟩
        have hd : d = .agg [y0.1, y1.1, y2.1, y3.1] := by simpa using congrArg Prod.fst hx
        subst hd
        simp only [Rows.uptoBulkAll, Rows.uptoBulk] at hbd
        constructor
        · rcases hb with ⟨_, h2⟩ | ⟨el, sp, h2, h3⟩
          · subst h2; simp
          · rw [h2] at hbd; simp only [Rows.uptoBulk] at hbd; have := length_le el; omega
        · rcases hb2 with ⟨_, h2⟩ | ⟨el, sp, h2, h3⟩
          · subst h2; simp
          · rw [h2] at hbd; simp only [Rows.uptoBulk] at hbd; have := length_le el; omega

theorem contract (H : Type) (enc : TypeId × Value → H) (W : World) (base : Nat) (args : Array Value) (ds gs : List (DataW H)) (before : List MemPlace)
    (hval : ∀ (j : Nat) t v, Try.f4.params[j]? = some t → args[j]? = some v → Value.okWide Try.prog W .any base t v)
    (hW : DataW.Whole enc Try.prog Try.f4.params.toList Rows.internNothingSpec.vars false W args.toList ds gs before) (hk : Rows.uptoSmall H (ds ++ gs) = true) :
    Calls Try.prog 4 args W fun e W' => ∃ v, e = .returned v ∧ Rows.internNothingSpec.post enc Try.prog Try.f4 false true false false W args v W' := by
  have hW' := hW
  obtain ⟨p, q, hA0, hV, rfl, hfz, hnd⟩ := hW
  have hA : DataW.TrodAll enc Try.prog W 0 (fun _ => true) true Try.f4.params.toList args.toList ds p := hA0
  rw [Try.params4] at hA hval
  obtain ⟨v0, d0, rfl, rfl, h0⟩ := trodAll_one hA
  obtain ⟨rfl, rfl⟩ := trodVars_none hV
  have k0 := h0
  have lt0 : ∀ x ∈ p, x.block < W.heap.size := by obtain ⟨m, hm⟩ := k0; exact DataW.trod_lt m _ _ _ hm
  obtain ⟨s, n, N, q, vs, c, r, ns, e, rfl, ho1, hv, ho, hi, hbd⟩ := open51 (hval 0 51 v0 rfl rfl) h0
  clear hA0
  have hk2 : Rows.uptoBulkAll [d0] ≤ 1048576 := of_decide_eq_true (by simpa [Rows.uptoSmall] using hk)
  obtain ⟨b1, b2⟩ := hbd hk2
  refine (NothingLaw.walk s n N q vs c r ns e W ho1 hv ho b1 hi b2).mono fun e W' ⟨he, hb⟩ => ?_
  subst he
  exact ⟨_, rfl, _, _, _, [], _, [], hW', trodAll_mk1 (shut_bool Try.underlying4 _), trodAll_mk1 (Below.trod laidOut (by kernel_rfl) (of_decide_eq_true (by kernel_rfl)) k0 hb lt0), rfl, hb.frame _, fun h => by cases h⟩

set_option maxRecDepth 100000 in
theorem lifted (os : Os) (started : os.Started) (H : Type) (enc : TypeId × Value → H) (F : Stop.Interp) :
    ReturnsInHanded {} Try.checked os 4 .any ((Rows.OpenSpec.upto Rows.internNothingSpec).pre6 enc Try.prog Try.f4 Rows.internNothingUptoRow.domain false) (((Rows.OpenSpec.upto Rows.internNothingSpec).at F).post enc Try.prog Try.f4 false true false false) := by
  refine returnsInHanded_of_cond (C := Try.checked) (s := Rows.OpenSpec.upto Rows.internNothingSpec) (k := Rows.uptoSmall) rfl own started (by kernel_rfl) Try.func4
    (OpenSpec.witness (enc := enc) (C := Try.checked) (s := Rows.OpenSpec.upto Rows.internNothingSpec) (k := Rows.uptoSmall) rfl false ⟨#[], #[.agg #[.string .empty, .int .i64 0, .int .i64 0, .slice none 0 0, .slice none 0 0]], []⟩ 8 (by kernel_rfl) (by kernel_rfl) (by kernel_rfl)
      (x := ([.agg [.agg [.lit (.string []), .lit (.int .i64 0)], .lit (.int .i64 0), .nil, .nil]], [], [])) (by kernel_rfl) rfl (by kernel_rfl)) ?_
  intro W base args ds gs before hval hW _ hk _
  exact contract H enc W base args ds gs before hval hW hk
end NothingP

theorem nothing_holds : Rows.InternNothingUptoSaid :=
  OpenClaim.holds_of_cond 4 Try.f4 rfl rfl rfl rfl rfl rfl rfl ⟨rfl, rfl, rfl, rfl, rfl⟩ rfl rfl rfl rfl rfl (by kernel_rfl) Try.func4 (by kernel_rfl)
    (of_decide_eq_true (by kernel_rfl)) (by unfold Func.isWrapper; first | (rw [if_pos (by decide +kernel)]; kernel_rfl) | (rw [if_neg (by decide +kernel)]; exact ⟨rfl, rfl⟩))
    (fun os started H enc _ F => NothingP.lifted os started H enc F)
end Go.Proofs.Ytdoadclblloddaa
