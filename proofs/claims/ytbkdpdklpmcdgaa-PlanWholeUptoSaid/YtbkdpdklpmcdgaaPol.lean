/-
  The walk of mandatelaw13.PlanOrders: it answers true.
-/
import Derived.Test.YtbkdpdklpmcdgaaPof
set_option linter.unusedVariables false
set_option linter.unusedSimpArgs false
namespace Go.Proofs.Ytbkdpdklpmcdgaa
open Go.Maps Go.ChangeMaps Go.WideMaps Go.RowKit

theorem get2 {a b : List Fl} (h : a.map Fl.bare = b.map Fl.bare) (k : Nat) : (a[k]? = none ∧ b[k]? = none) ∨ ∃ f g, a[k]? = some f ∧ b[k]? = some g ∧ f.bare = g.bare := by
  have e : (a[k]?).map Fl.bare = (b[k]?).map Fl.bare := by rw [← List.getElem?_map, h, List.getElem?_map]
  cases ha : a[k]? with
  | none =>
    cases hb : b[k]? with
    | none => exact .inl ⟨rfl, rfl⟩
    | some g => rw [ha, hb] at e; cases e
  | some f =>
    cases hb : b[k]? with
    | none => rw [ha, hb] at e; cases e
    | some g => rw [ha, hb] at e; exact .inr ⟨f, g, rfl, rfl, by simpa using e⟩
theorem bare_kind {f g : Fl} (h : f.bare = g.bare) : f.kind = g.kind := congrArg (fun x => x.1) h
theorem bare_args {f g : Fl} (h : f.bare = g.bare) : f.args = g.args := congrArg (fun x => x.2.2) h
theorem varsN_bare {a b : List Fl} (h : a.map Fl.bare = b.map Fl.bare) : varsN a = varsN b := by
  have e : ∀ l : List Fl, varsN l = (l.map Fl.bare).foldl (fun (acc : List ByteArray) (x : Int × ByteArray × List Tm) => x.2.2.foldl putT acc) [] := fun l => by
    rw [List.foldl_map]; rfl
  rw [e, e, h]
theorem bindS_bare {a b xs ys : List Fl} (h : a.map Fl.bare = b.map Fl.bare) (hx : xs.map Fl.bare = ys.map Fl.bare) (k : Int) : (bindS a xs k).map Fl.bare = (bindS b ys k).map Fl.bare := by
  unfold bindS
  split
  · rcases get2 h k.toNat with ⟨h1, h2⟩ | ⟨f, g, h1, h2, h3⟩
    · rw [h1, h2]; exact hx
    · rw [h1, h2]
      simp only
      rw [bare_kind h3]
      split
      · rw [List.map_append, List.map_append, hx]; simp [h3]
      · exact hx
  · exact hx
theorem bindN_bare {a b : List Fl} (h : a.map Fl.bare = b.map Fl.bare) : ∀ (l : List Int) {xs ys : List Fl}, xs.map Fl.bare = ys.map Fl.bare → (l.foldl (bindS a) xs).map Fl.bare = (l.foldl (bindS b) ys).map Fl.bare
  | [], _, _, hx => hx
  | k :: r, _, _, hx => bindN_bare h r (bindS_bare h hx k)
theorem fullB_bare {a b : List Fl} (h : a.map Fl.bare = b.map Fl.bare) (V : List ByteArray) (l : List Int) (k : Nat) : fullB a V l k = fullB b V l k := by
  unfold fullB
  rcases get2 h k with ⟨h1, h2⟩ | ⟨f, g, h1, h2, h3⟩
  · rw [h1, h2]
  · rw [h1, h2]
    simp only
    rw [bare_kind h3, bare_args h3]
theorem knD_bare {a b : List Fl} (h : a.map Fl.bare = b.map Fl.bare) (V : List ByteArray) (k : Nat) : knD a V k = knD b V k := by
  unfold knD
  rcases get2 h k with ⟨h1, h2⟩ | ⟨f, g, h1, h2, h3⟩
  · rw [h1, h2]
  · rw [h1, h2]
    simp only
    rw [bare_args h3]
theorem bestS_bare {a b : List Fl} (h : a.map Fl.bare = b.map Fl.bare) (V : List ByteArray) (l : List Int) : ∀ k, bestS a V l k = bestS b V l k
  | 0 => rfl
  | k + 1 => by
    rw [bestS, bestS, bestS_bare h V l k]
    rcases get2 h k with ⟨h1, h2⟩ | ⟨f, g, h1, h2, h3⟩
    · rw [h1, h2]
    · rw [h1, h2]
      simp only
      rw [bare_kind h3, bare_args h3]
      cases bestS b V l k with
      | none => rfl
      | some m => simp only [knD_bare h]
theorem len_bare {a b : List Fl} (h : a.map Fl.bare = b.map Fl.bare) : a.length = b.length := by
  have := congrArg List.length h
  simpa using this
theorem nextS_bare {a b : List Fl} (h : a.map Fl.bare = b.map Fl.bare) (V : List ByteArray) (l : List Int) : nextS a V l = nextS b V l := by
  unfold nextS
  rw [show fullB a V l = fullB b V l from funext (fullB_bare h V l), len_bare h, bestS_bare h]
theorem goS_bare {a b : List Fl} (h : a.map Fl.bare = b.map Fl.bare) : ∀ (n : Nat) (l : List Int), goS a n l = goS b n l
  | 0, l => by rw [goS, goS, len_bare h]
  | n + 1, l => by
    rw [goS, goS, len_bare h, show varsN (bindN a l) = varsN (bindN b l) from varsN_bare (bindN_bare h l rfl), nextS_bare h]
    split
    · rfl
    · cases nextS b (varsN (bindN b l)) l with
      | none => rfl
      | some k => exact goS_bare h n _
theorem kinds_bare {a b : List Fl} (h : a.map Fl.bare = b.map Fl.bare) : kindsB a = kindsB b := by
  have e : ∀ l : List Fl, kindsB l = (l.map Fl.bare).all fun x => decide (1 ≤ x.1) && decide (x.1 ≤ 4) := fun l => by
    unfold kindsB; rw [List.all_map]; rfl
  rw [e, e, h]
theorem goesS_bare {a b : List Fl} (h : a.map Fl.bare = b.map Fl.bare) (l : List Int) : goesS a l = goesS b l := by
  unfold goesS
  rw [kinds_bare h, len_bare h, goS_bare h]
theorem fromS_bare {a b : List Fl} (h : a.map Fl.bare = b.map Fl.bare) (k : Int) : fromS a k = fromS b k := by
  unfold fromS
  split
  · rcases get2 h k.toNat with ⟨h1, h2⟩ | ⟨f, g, h1, h2, h3⟩
    · rw [h1, h2]
    · rw [h1, h2]
      simp only
      rw [bare_kind h3, goesS_bare h]
  · rfl
theorem goS_len {body : List Fl} : ∀ {n : Nat} {l L : List Int}, goS body n l = some L → L.length ≤ l.length + n
  | 0, l, L, h => by
    rw [goS] at h
    split at h
    · cases h; omega
    · cases h
  | n + 1, l, L, h => by
    rw [goS] at h
    split at h
    · cases h; omega
    · cases hn : nextS body (varsN (bindN body l)) l with
      | none => rw [hn] at h; cases h
      | some k =>
        rw [hn] at h
        have := goS_len h
        rw [List.length_append, List.length_singleton] at this
        omega
theorem goes_len {body : List Fl} {l : List Int} (h30 : body.length ≤ 30) (hl : l.length ≤ 30) : ((goesS body l).getD []).length ≤ 100 := by
  unfold goesS
  split
  · cases hg : goS body (body.length - l.length) l with
    | none => simp
    | some L => have := goS_len hg; simp only [Option.getD_some]; omega
  · simp
theorem from_len {body : List Fl} {k : Int} (h30 : body.length ≤ 30) : ((fromS body k).getD []).length ≤ 100 := by
  unfold fromS
  split
  · split
    · split
      · exact goes_len h30 (by simp)
      · simp
    · simp
  · simp
set_option maxHeartbeats 16000000 in
set_option maxRecDepth 100000 in
theorem orders_walk (N : Nat) (hN : N ≤ 1048576) (r : Rl) (k : Int) (w : World) (hr : r.Arg w N) :
    Calls Try.prog 3 #[r.agg, .int .i64 k] w fun e w' => e = .returned (.bool true) ∧ Below w.heap.size w w' := by
  have HI := Lib.hid (show LX w r (w.alloc (.cells #[.int .u8 r.head.kind, .string r.head.pred, .slice r.head.ptr r.head.args.length r.head.cap, .slice r.ptr r.body.length r.cap] 27)) from ⟨below1 w _, Bk0.new w _ _⟩)
  have HF := Lib.hid (fun X => fixed_any X)
  have hbl : r.body.length ≤ 1048576 := Nat.le_trans hr.len hN
  have HCR := Lib.hid (fun X (h : LX w r X) => copyrule_any N hN r X (hr.grow h.b))
  have HPO := Lib.hid (fun (h30 : r.body.length ≤ 30) (d : Rl) (X : World) (hd : d.Arg X N) (he : d.body.map Fl.bare = r.body.map Fl.bare) => goesS_bare he [] ▸ porder_any N hN d X hd (by have := len_bare he; omega))
  have HPF := Lib.hid (fun (h30 : r.body.length ≤ 30) (d : Rl) (X : World) (hd : d.Arg X N) (he : d.body.map Fl.bare = r.body.map Fl.bare) => fromS_bare he k ▸ pfrom_any N hN d k X hd (by have := len_bare he; omega))
  have HGO := Lib.hid (fun (h30 : r.body.length ≤ 30) X (h : LX w r X) => goes_any N hN r none [] 0 X (hr.grow h.b) .nil h30 (by simp))
  have HGF := Lib.hid (fun (h30 : r.body.length ≤ 30) X (h : LX w r X) => rfrom_any N hN r k X (hr.grow h.b) h30)
  have HLG := Lib.hid (fun (h30 : r.body.length ≤ 30) => goes_len (l := []) h30 (by simp))
  have HLF := Lib.hid (fun (h30 : r.body.length ≤ 30) => from_len (k := k) h30)
  generalize goesS r.body [] = G at *
  generalize fromS r.body k = F at *
  clear hr
  unfold Rl.agg at HCR HGO HGF ⊢
  obtain ⟨⟨kd, pr, p, cp, args⟩, rq, rc, body⟩ := r
  simp only [List.length_nil] at HI HCR HPO HPF HGO HGF HLG HLF hbl ⊢
  go_enter Try.func3, Try.ntmps3
  go_wp2_with fail
  refine (HF.out _).mono ?_
  rintro e w1 ⟨rfl, hb1⟩
  have HI1 := Lib.hid (HI.out.on hb1)
  obtain ⟨z0, z1, z2, z3⟩ := HI1.out.x.four
  clear hb1 HF HI
  by_cases hA : 30 < body.length
  · have hA1 : (30 : Int) < (body.length : Int) := by omega
    go_wp2_with fail
    go_ret
    exact ⟨rfl, HI1.out.b⟩
  · have hA1 : ¬ (30 : Int) < (body.length : Int) := by omega
    have h30 : body.length ≤ 30 := by omega
    have HLG := Lib.hid (HLG.out h30)
    have HLF := Lib.hid (HLF.out h30)
    have HGO := Lib.hid (HGO.out h30)
    have HGF := Lib.hid (HGF.out h30)
    have HPO := Lib.hid (HPO.out h30)
    have HPF := Lib.hid (HPF.out h30)
    go_wp2_with fail
    refine (HCR.out _ HI1.out).mono ?_
    rintro e w2 ⟨d, rfl, hda, _, hdb, hb2⟩
    have HI2 := Lib.hid (HI1.out.on hb2)
    have HC := Lib.hid (HPO.out d w2 hda hdb)
    clear hda hdb hb2 z0 z1 z2 z3 HI1
    go_wp2_with fail
    refine (HC.out).mono ?_
    rintro e w3 ⟨qa, ca, rfl, ⟨_, hra⟩, hb3⟩
    have HI3 := Lib.hid (HI2.out.on hb3)
    have HRA := Lib.hid hra
    clear hra hb3 HC HI2
    obtain ⟨z0, z1, z2, z3⟩ := HI3.out.x.four
    go_wp2_with fail
    refine (HGO.out _ HI3.out).mono ?_
    rintro e w4 ⟨qb, cb, rfl, hrb, hb4⟩
    have HI4 := Lib.hid (HI3.out.on hb4)
    have HRB := Lib.hid hrb
    have HRA := Lib.hid (HRA.out.grow hb4)
    clear hrb hb4 z0 z1 z2 z3 HI3
    obtain ⟨z0, z1, z2, z3⟩ := HI4.out.x.four
    go_wp2_with fail
    refine (HCR.out _ HI4.out).mono ?_
    rintro e w5 ⟨d2, rfl, hda, _, hdb, hb5⟩
    have HI5 := Lib.hid (HI4.out.on hb5)
    have HC := Lib.hid (HPF.out d2 w5 hda hdb)
    have HRA := Lib.hid (HRA.out.grow hb5)
    have HRB := Lib.hid (HRB.out.grow hb5)
    clear hda hdb hb5 z0 z1 z2 z3 HI4
    go_wp2_with fail
    refine (HC.out).mono ?_
    rintro e w6 ⟨qc, cc, rfl, ⟨_, hrc⟩, hb6⟩
    have HI6 := Lib.hid (HI5.out.on hb6)
    have HRC := Lib.hid hrc
    have HRA := Lib.hid (HRA.out.grow hb6)
    have HRB := Lib.hid (HRB.out.grow hb6)
    clear hrc hb6 HC HI5
    obtain ⟨z0, z1, z2, z3⟩ := HI6.out.x.four
    go_wp2_with fail
    refine (HGF.out _ HI6.out).mono ?_
    rintro e w7 ⟨qd, cd, rfl, hrd, hb7⟩
    have HI7 := Lib.hid (HI6.out.on hb7)
    have HRD := Lib.hid hrd
    have HRA := Lib.hid (HRA.out.grow hb7)
    have HRB := Lib.hid (HRB.out.grow hb7)
    have HRC := Lib.hid (HRC.out.grow hb7)
    clear hrd hb7 z0 z1 z2 z3 HI6
    have hg : (G.isSome == G.isSome) = true := by simp
    have hf : (F.isSome == F.isSome) = true := by simp
    have HN1 := Lib.hid (numbers_any qa (G.getD []) ca qb (G.getD []) cb w7 HRA.out HRB.out (by have := HLG.out; omega) (by have := HLG.out; omega))
    rw [decide_eq_true (rfl : G.getD [] = G.getD [])] at HN1
    have HN2 := Lib.hid (fun X (h : Below w7.heap.size w7 X) => numbers_any qc (F.getD []) cc qd (F.getD []) cd X (HRC.out.grow h) (HRD.out.grow h) (by have := HLF.out; omega) (by have := HLF.out; omega))
    rw [decide_eq_true (rfl : F.getD [] = F.getD [])] at HN2
    go_wp2_with fail
    refine (HN1.out).mono ?_
    rintro e w8 ⟨rfl, hb8⟩
    have HC := Lib.hid (HN2.out _ hb8)
    have HI8 := Lib.hid (HI7.out.on hb8)
    clear hb8 HN1 HN2
    go_wp2_with fail
    refine (HC.out).mono ?_
    rintro e w9 ⟨rfl, hb9⟩
    have HI9 := Lib.hid (HI8.out.on hb9)
    clear hb9 HC
    go_wp2_with fail
    go_ret
    exact ⟨rfl, HI9.out.b⟩
end Go.Proofs.Ytbkdpdklpmcdgaa
