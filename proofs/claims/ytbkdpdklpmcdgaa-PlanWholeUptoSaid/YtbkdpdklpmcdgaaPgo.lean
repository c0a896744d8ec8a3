/-
  Contracts: the reference's Goes, From.
-/
import Derived.Test.YtbkdpdklpmcdgaaPnx
set_option linter.unusedVariables false
set_option linter.unusedSimpArgs false
namespace Go.Proofs.Ytbkdpdklpmcdgaa
open Go.Maps Go.ChangeMaps Go.WideMaps Go.RowKit

/-- the rule's box and the plan so far -/
structure GO (w : World) (r : Rl) (L : List Int) (v : Value) (X : World) : Prop where
  lx : LX w r X
  row : X.ownsRow (w.heap.size + 1) 3 1 v L.length (flatE encI L)
theorem LX.low {w X X' : World} {r : Rl} (h : LX w r X) (hb : Below (w.heap.size + 1) X X') : LX w r X' :=
  ⟨h.b.trans (hb.mono (Nat.le_succ _)), (hb.block w.heap.size (Nat.lt_succ_self _)).trans h.x⟩
theorem GO.on {w X X' : World} {r : Rl} {L : List Int} {v : Value} (h : GO w r L v X) (hb : Below X.heap.size X X') : GO w r L v X' := ⟨h.lx.on hb, own_below h.row hb⟩
def lenV : Value → Nat
  | .slice _ n _ => n
  | _ => 0
theorem goS_done {body : List Fl} {n : Nat} {L : List Int} (h : body.length ≤ L.length) : goS body n L = some L := by
  cases n <;> (unfold goS; rw [if_pos h])
theorem goS_stop {body : List Fl} {L : List Int} (h : L.length < body.length) (hn : nextS body (varsN (bindN body L)) L = none) : goS body (body.length - L.length) L = none := by
  obtain ⟨n, hn'⟩ : ∃ n, body.length - L.length = n + 1 := ⟨body.length - L.length - 1, by omega⟩
  rw [hn', goS, if_neg (by omega), hn]
theorem goS_step {body : List Fl} {L : List Int} {k : Nat} (h : L.length < body.length) (hn : nextS body (varsN (bindN body L)) L = some k) : goS body (body.length - (L ++ [(k : Int)]).length) (L ++ [(k : Int)]) = goS body (body.length - L.length) L := by
  obtain ⟨n, hn'⟩ : ∃ n, body.length - L.length = n + 1 := ⟨body.length - L.length - 1, by omega⟩
  rw [hn', goS, if_neg (by omega), hn]
  congr 1
  rw [List.length_append, List.length_singleton]
  omega
theorem kinds_no {body : List Fl} {k : Nat} (hk : k < body.length) (h : body[k].kind < 1 ∨ 4 < body[k].kind) : kindsB body = false := by
  unfold kindsB
  rw [List.all_eq_false]
  refine ⟨_, List.getElem_mem hk, ?_⟩
  rcases h with h | h
  · rw [decide_eq_false (by omega)]; simp
  · rw [decide_eq_false (show ¬ body[k].kind ≤ 4 by omega)]; simp
theorem kinds_yes {body : List Fl} (h : ∀ t (ht : t < body.length), 1 ≤ body[t].kind ∧ body[t].kind ≤ 4) : kindsB body = true := by
  unfold kindsB
  rw [List.all_eq_true]
  intro f hf
  obtain ⟨t, ht, rfl⟩ := List.mem_iff_getElem.1 hf
  have := h t ht
  rw [decide_eq_true this.1, decide_eq_true this.2]; rfl
/-- a plan, or nil and false -/
def PlanPost (o : Option (List Int)) (w : World) (e : Ending) (w' : World) : Prop :=
  ∃ q c, e = .returned (.tuple #[.slice q (o.getD []).length c, .bool o.isSome]) ∧ Rd encI 1 w' w'.heap.size q (o.getD []) ∧ Below w.heap.size w w'
set_option maxHeartbeats 16000000 in
set_option maxRecDepth 100000 in
theorem goes_any (N : Nat) (hN : N ≤ 1048576) (r : Rl) (q : Option Addr) (l : List Int) (c : Nat) (w : World) (hr : r.Arg w N) (hl : Rd encI 1 w w.heap.size q l) (h30 : r.body.length ≤ 30) (h100 : l.length ≤ 100) :
    Calls Try.prog 9 #[r.agg, .slice q l.length c] w fun e w' => PlanPost (goesS r.body l) w e w' := by
  obtain ⟨i0, hii, hz0, hz1, hzb⟩ := info_parts infoInt
  have HI := Lib.hid (show LX w r (w.alloc (.cells #[.int .u8 r.head.kind, .string r.head.pred, .slice r.head.ptr r.head.args.length r.head.cap, .slice r.ptr r.body.length r.cap] 27)) from ⟨below1 w _, Bk0.new w _ _⟩)
  have HNX := Lib.hid (fun (L : List Int) (qL : Option Addr) (cL : Nat) (X : World) (h : LX w r X) (hL : Rd encI 1 X X.heap.size qL L) (h2 : L.length ≤ 100) => next_any N hN r qL L cL X ⟨⟨hr.hd.tm.grow h.b, hr.hd.sz, hr.hd.len⟩, hr.rd.grow h.b, fun f hf => ⟨(hr.fl f hf).tm.grow h.b, (hr.fl f hf).sz, (hr.fl f hf).len⟩, hr.len⟩ hL h2)
  have HRB := Lib.hid hr.rd
  have HLI := Lib.hid hl
  have HL1 := Lib.hid h100
  clear hr hl h100
  unfold Rl.agg at HNX ⊢
  obtain ⟨⟨kd, pr, p, cp, args⟩, rq, rc, body⟩ := r
  simp only at HI HNX HRB h30 ⊢
  have hll : l.length ≤ 100 := HL1.out
  go_enter Try.func9, Try.ntmps9
  go_wp2_with fail
  go_loopw [6] (fun i wr => ∃ k : Nat, k ≤ body.length ∧ i = .int .i64 k ∧ Hid (LX w ⟨⟨kd, pr, p, cp, args⟩, rq, rc, body⟩ wr) ∧ Hid (∀ t (ht : t < body.length), t < k → 1 ≤ body[t].kind ∧ body[t].kind ≤ 4)) (fun i _ => body.length - (intOf i).toNat)
  case atStart => exact ⟨0, Nat.zero_le _, rfl, HI, Lib.hid (fun t ht h => by omega)⟩
  case round =>
    obtain ⟨k, hk, rfl, HW, HK⟩ := hrel
    obtain ⟨z0, z1, z2, z3⟩ := (Hid.out HW).x.four
    by_cases hlt : k < body.length
    · obtain ⟨b2, o2, rfl, hbb2, y0, y1, y2⟩ := rdF_at (HRB.out.below (Hid.out HW).b (Nat.le_refl _)) k hlt
      have hj0 : (0 : Int) ≤ (k : Int) := by omega
      have hj1 : (k : Int) < (body.length : Int) := by omega
      have HNO := Lib.hid (fun h => kinds_no hlt h)
      have HYE := Lib.hid (show (1 ≤ body[k].kind ∧ body[k].kind ≤ 4) → ∀ t (ht : t < body.length), t < k + 1 → 1 ≤ body[t].kind ∧ body[t].kind ≤ 4 from fun h t ht htk => by
        by_cases e : t = k
        · subst e; exact h
        · exact HK.out t ht (by omega))
      generalize body[k] = f at *
      obtain ⟨fk, fpr, fq, fc, fa⟩ := f
      simp only at y0 y1 y2 HNO HYE
      by_cases h1 : fk < 1
      · have HC := Lib.hid (show goesS body l = none by unfold goesS; rw [HNO.out (.inl h1)]; rfl)
        go_wp2_with fail
        refine bodyPost_ret (results_tmp2 rfl _ _ _) rfl ?_
        refine ⟨none, 0, ?_, by rw [HC.out]; exact .nil, (Hid.out HW).b⟩
        rw [HC.out]; rfl
      · by_cases h4 : 4 < fk
        · have HC := Lib.hid (show goesS body l = none by unfold goesS; rw [HNO.out (.inr h4)]; rfl)
          go_wp2_with fail
          refine bodyPost_ret (results_tmp2 rfl _ _ _) rfl ?_
          refine ⟨none, 0, ?_, by rw [HC.out]; exact .nil, (Hid.out HW).b⟩
          rw [HC.out]; rfl
        · have HK2 := Lib.hid (HYE.out ⟨by omega, by omega⟩)
          clear HYE HNO
          go_wp2_with fail
          go_roundw
          case rel => exact ⟨k + 1, by omega, by go_num, HW, HK2⟩
          case measure => simp [intOf]; omega
    · have HC := Lib.hid (show goesS body l = goS body (body.length - l.length) l by unfold goesS; rw [kinds_yes (fun t ht => HK.out t ht (by omega))]; rfl)
      have HLX := Lib.hid ((Hid.out HW).on (below1 wr (.cells #[] 3)))
      clear HK
      go_wp2_with (at_builtin; refine wpList_copyE EI rfl _ _ 29 rfl (w.heap.size + 1) 3 i0 (.int .i64 0) 8 underIs hii hz0 hz1 hzb rfl _ 0 rfl (grw_made (Hid.out HW).x.lt') q l c rfl (HLI.out.grow HLX.out.b) (by unfold maxLen; omega) (by omega) HLX.out.x.lt' ?_; intro q2 c2 w2 hg2 hr2 he2 hb2; have HG2 := Lib.hid hg2; have HE2 := Lib.hid he2; have HLX2 := Lib.hid (HLX.out.low hb2); clear hg2 hr2 he2 hb2)
      have HGO := Lib.hid (show GO w ⟨⟨kd, pr, p, cp, args⟩, rq, rc, body⟩ l (.slice q2 l.length c2) w2 from ⟨HLX2.out, by
        rcases HG2.out with h | h
        · exact h
        · obtain ⟨e1, e2, e3⟩ := HE2.out h
          subst e1 e2 e3 h
          exact World.ownsRow_made wr #[] 0 (Hid.out HW).x.lt' (by decide) (by simp)⟩)
      clear HG2 HE2 HLX HLX2
      go_wp2_with fail
      go_loopw [7] (fun v wr => ∃ L : List Int, l.length ≤ L.length ∧ L.length ≤ 100 ∧ Hid (goS body (body.length - L.length) L = goS body (body.length - l.length) l) ∧ Hid (GO w ⟨⟨kd, pr, p, cp, args⟩, rq, rc, body⟩ L v wr)) (fun v _ => body.length - lenV v)
      case atStart => exact ⟨l, Nat.le_refl _, HL1.out, Lib.hid rfl, HGO⟩
      case round =>
        clear HW z0 z1 z2 z3 hlt HGO
        obtain ⟨L, hL1, hL2, HE, HG⟩ := hrel
        obtain ⟨z0, z1, z2, z3⟩ := (Hid.out HG).lx.x.four
        have hbs : w.heap.size + 1 ≤ wr.heap.size := (Hid.out HG).lx.x.lt'
        have HROW := Lib.hid (Hid.out HG).row
        obtain ⟨q3, c3, rfl, hr3, _⟩ := grw_form EI (.inr HROW.out) hbs
        have HR3 := Lib.hid hr3
        clear hr3
        by_cases hlt : L.length < body.length
        · have hj1 : (L.length : Int) < (body.length : Int) := by omega
          have HCX := Lib.hid (HNX.out L q3 c3 wr (Hid.out HG).lx HR3.out hL2)
          cases hn : nextS body (varsN (bindN body L)) L with
          | none =>
            have HP := Lib.hid (show goesS body l = none by rw [HC.out, ← HE.out]; exact goS_stop hlt hn)
            rw [hn] at HCX
            simp only [optI] at HCX
            clear hn
            go_wp2_with (go_at_call 22; refine (HCX.out).mono ?_; rintro e w3 ⟨rfl, hb3⟩; have HG3 := Lib.hid ((Hid.out HG).on hb3); clear hb3)
            refine bodyPost_ret (results_tmp2 rfl _ _ _) rfl ?_
            refine ⟨none, 0, ?_, by rw [HP.out]; exact .nil, HG3.out.lx.b⟩
            rw [HP.out]; rfl
          | some k =>
            have HP := Lib.hid (goS_step hlt hn)
            rw [hn] at HCX
            simp only [optI] at HCX
            clear hn
            have hk0 : ¬ (k : Int) < 0 := by omega
            go_wp2_with (first
              | (at_builtin; refine wpList_append_lies _ rfl _ _ 29 rfl (w.heap.size + 1) 3 i0 (.int .i64 0) 1 8 underIs hii hz0 hz1 hzb rfl (by decide) _ _ _ rfl (own_below HG3.out.row (below1 _ _)) ⟨w3.heap.size, 0, none⟩ 1 1 [.int .i64 k] rfl rfl (news_alloc _ _ _) (EI.one k) (by decide) (by unfold maxLen; omega) (by omega) (Nat.le_trans HB3.out (below1 w3 _).size) _ rfl ?_; intro g cap w7 ho7 hg7 hat7 _; have HG7 := Lib.hid hg7; have HO7 := Lib.hid ho7; clear hg7 hat7 ho7)
              | (go_at_call 22; refine (HCX.out).mono ?_; rintro e w3 ⟨rfl, hb3⟩; have HG3 := Lib.hid ((Hid.out HG).on hb3); have HB3 := Lib.hid (show w.heap.size + 1 ≤ w3.heap.size from HG3.out.lx.x.lt'); clear hb3))
            have hb1 := (below1 w3 (.cells #[.int .i64 k] 3)).mono HB3.out
            have HN := Lib.hid (show GO w ⟨⟨kd, pr, p, cp, args⟩, rq, rc, body⟩ (L ++ [(k : Int)]) (.slice (some ⟨g, 0, none⟩) (L.length + 1) cap) w7 from ⟨HG3.out.lx.low (hb1.grown HG7.out (Nat.le_trans HB3.out hb1.size) (fun t ht => (HG3.out.row.lt t ht).1)), by rw [List.length_append, flatE_snoc]; exact HO7.out⟩)
            clear hb1
            go_roundw
            case rel => exact ⟨L ++ [(k : Int)], by rw [List.length_append]; omega, by rw [List.length_append, List.length_singleton]; omega, Lib.hid (HP.out.trans HE.out), HN⟩
            case measure => simp [lenV]; omega
        · have HP := Lib.hid (show goesS body l = some L by rw [HC.out, ← HE.out]; exact goS_done (by omega))
          have hj1 : ¬ (L.length : Int) < (body.length : Int) := by omega
          go_wp2_with fail
          refine bodyPost_ret (results_tmp2 rfl _ _ _) rfl ?_
          refine ⟨q3, c3, ?_, ?_, (Hid.out HG).lx.b⟩
          · rw [HP.out]; rfl
          · rw [HP.out]; exact HR3.out
end Go.Proofs.Ytbkdpdklpmcdgaa
