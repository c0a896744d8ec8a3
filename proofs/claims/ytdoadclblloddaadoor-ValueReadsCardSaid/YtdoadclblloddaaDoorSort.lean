/-
  Contract: value.Sort at two to twelve tuples that are all unlike and have arguments.
-/
import Derived.Test.YtdoadclblloddaaDoorFresh
import Derived.IntWalk
namespace Go.Proofs.YtdoadclblloddaaDoor
open Go.RowKit Go.Sort

/-- a tuple of the answer, in its own memory, apart from the answer's row -/
def ResOk (w : World) (v : Value) (x t : Tp) : Prop := x.pred = t.pred ∧ x.args = t.args ∧ ∃ b off, x.ptr = some ⟨b, off, none⟩ ∧ some b ≠ v.ownBlock ∧ b < w.heap.size ∧ Vals w w.heap.size x.ptr x.args
theorem ResOk.on {w w' : World} {v : Value} {x t : Tp} (h : ResOk w v x t) (hb : Below w.heap.size w w') : ResOk w' v x t := by
  obtain ⟨h1, h2, b, off, hp, hn, hl, hv⟩ := h
  exact ⟨h1, h2, b, off, hp, hn, Nat.lt_of_lt_of_le hl hb.size, vals_grow hv hb⟩
theorem vals_grown {w w' : World} {b off : Nat} {l : List Vl} {row : Option Nat} (h : Vals w w.heap.size (some ⟨b, off, none⟩) l) (hg : w.grownBy w' row) (hn : some b ≠ row) : Vals w' w'.heap.size (some ⟨b, off, none⟩) l := by
  rcases h with h | ⟨b', off', he, hl, hc⟩
  · exact .inl h
  · cases he
    refine .inr ⟨b, off, rfl, Nat.lt_of_lt_of_le hl hg.size, fun i hi => ?_⟩
    rw [hg.cell_far ⟨b, off + i * 2, none⟩ hl hn, hg.cell_far ⟨b, off + i * 2 + 1, none⟩ hl hn]
    exact hc i hi
theorem ResOk.grown {w w' : World} {v : Value} {x t : Tp} {g cap n H : Nat} (h : ResOk w v x t) (hg : w.grownBy w' v.ownBlock) (hH : w.heap.size = H) (hat : v.ownBlock = some g ∨ g = H) : ResOk w' (.slice (some ⟨g, 0, none⟩) n cap) x t := by
  obtain ⟨h1, h2, b, off, hp, hn, hl, hv⟩ := h
  refine ⟨h1, h2, b, off, hp, ?_, Nat.lt_of_lt_of_le hl hg.size, ?_⟩
  · show some b ≠ some g
    rcases hat with h | h
    · rw [← h]; exact hn
    · intro e; cases e; omega
  · rw [hp] at hv ⊢; exact vals_grown hv hg hn
theorem Rw.grown {w w' : World} {b off : Nat} {d : Array Tp} {row : Option Nat} (h : Rw w b off d) (hg : w.grownBy w' row) (hl : b < w.heap.size) (hn : some b ≠ row) : Rw w' b off d := by
  intro j hj
  rw [hg.cell_far ⟨b, off + j, none⟩ hl hn, hg.frozen_far ⟨b, off + j, none⟩ hl hn]
  exact h j hj
theorem flatL_push (d : Array Tp) (x : Tp) : flatL (d.push x) = flatL d ++ encT x := by
  unfold flatL; simp
theorem push_get (d : Array Tp) (x : Tp) (i : Nat) (hi : i < d.size) : (d.push x)[i]! = d[i]! := by
  rw [getElem!_pos _ i (by simp; omega), getElem!_pos d i hi, Array.getElem_push_lt hi]
theorem push_last (d : Array Tp) (x : Tp) : (d.push x)[d.size]! = x := by
  rw [getElem!_pos _ _ (by simp)]; simp

theorem owns_below {w w' : World} {base n : Nat} {e : TypeId} {size : Nat} {v : Value} {xs : List Value} (h : w.ownsRow base e size v n xs) (hb : Below w.heap.size w w') : w'.ownsRow base e size v n xs :=
  h.kept (row := none) ⟨hb.os, hb.tape, hb.output, hb.size, fun k hk _ => hb.block k hk⟩ (Classical.em _)

theorem sort_step {B0 k g g3 cap3 g5 cap5 cc : Nat} {w wr w3 w5 : World} {v : Value} {res ds : Array Tp} {s : ByteArray} {l : List Vl} {p : Option Addr} {o : Obj}
    (ho : wr.ownsRow B0 28 2 v k (flatL res)) (hs : res.size = k) (hres : ∀ j, j < k → ResOk wr v res[j]! ds[j]!) (hr : Rw wr g 0 ds) (hgv : some g ≠ v.ownBlock) (hgl : g < wr.heap.size) (hb : Below B0 w wr) (hy : ds[k]! = ⟨s, p, cc, l⟩)
    (hb4 : Below wr.heap.size wr w3) (hg3 : wr.heap.size ≤ g3) (hg3' : g3 < w3.heap.size) (hv3 : Vals w3 w3.heap.size (some ⟨g3, 0, none⟩) l)
    (hown5 : w5.ownsRow B0 28 2 (.slice (some ⟨g5, 0, none⟩) (k + 1) cap5) (k + 1) (flatL res ++ [.string s, .slice (some ⟨g3, 0, none⟩) l.length cap3])) (hgrow5 : (w3.alloc o).grownBy w5 v.ownBlock) (hat5 : v.ownBlock = some g5 ∨ g5 = w3.heap.size + 1) (hB0 : B0 ≤ wr.heap.size) :
    w5.ownsRow B0 28 2 (.slice (some ⟨g5, 0, none⟩) (k + 1) cap5) (k + 1) (flatL (res.push ⟨s, some ⟨g3, 0, none⟩, cap3, l⟩)) ∧ (res.push ⟨s, some ⟨g3, 0, none⟩, cap3, l⟩).size = k + 1 ∧
      (∀ j, j < k + 1 → ResOk w5 (.slice (some ⟨g5, 0, none⟩) (k + 1) cap5) (res.push ⟨s, some ⟨g3, 0, none⟩, cap3, l⟩)[j]! ds[j]!) ∧ Rw w5 g 0 ds ∧ some g ≠ (Value.slice (some ⟨g5, 0, none⟩) (k + 1) cap5).ownBlock ∧ g < w5.heap.size ∧ Below B0 w w5 := by
  have hb5 : Below wr.heap.size wr (w3.alloc o) := hb4.trans ((Below.refl _ w3).alloc hb4.size o)
  have ha : Below w3.heap.size w3 (w3.alloc o) := (Below.refl _ w3).alloc (Nat.le_refl _) o
  have hsz : (w3.alloc o).heap.size = w3.heap.size + 1 := by simp
  have hz4 := hb4.size
  have hlt : ∀ q, v.ownBlock = some q → B0 ≤ q ∧ q < wr.heap.size := ho.lt
  refine ⟨by rw [flatL_push]; exact hown5, by simp [hs], ?_, (hr.below hb5 hgl).grown hgrow5 (by omega) hgv, ?_, Nat.lt_of_lt_of_le (by omega) hgrow5.size, ?_⟩
  · intro j hj
    by_cases hjk : j = k
    · subst hjk
      have e0 : (res.push ⟨s, some ⟨g3, 0, none⟩, cap3, l⟩)[j]! = ⟨s, some ⟨g3, 0, none⟩, cap3, l⟩ := by have := push_last res ⟨s, some ⟨g3, 0, none⟩, cap3, l⟩; rw [hs] at this; exact this
      rw [e0, hy]
      have e : some g3 ≠ v.ownBlock := fun e => by have := hlt g3 e.symm; omega
      refine ResOk.grown (v := v) ⟨rfl, rfl, g3, 0, rfl, e, by omega, vals_grow hv3 ha⟩ hgrow5 hsz hat5
    · rw [push_get _ _ _ (by omega)]
      exact ((hres j (by omega)).on hb5).grown hgrow5 hsz hat5
  · show some g ≠ some g5
    rcases hat5 with h | h
    · rw [← h]; exact hgv
    · intro e; cases e; omega
  · exact (hb.trans (hb5.mono hB0)).grown hgrow5 (by omega) (fun q hq => (hlt q hq).1)

set_option maxHeartbeats 4000000 in
set_option maxRecDepth 100000 in
theorem sort_small (b off c B : Nat) (d ds : Array Tp) (w : World) (h2 : 2 ≤ d.size) (h12 : d.size ≤ 12) (hR : Rw w b off d) (hbl : b < w.heap.size) (hB : B ≤ w.heap.size) (hA : AllIn B d w)
    (hds : insertionSort ltT d 0 d.size = ds) (hsz : ds.size = d.size) (hAs : AllIn B ds w) (hne : ∀ i, i < d.size → 1 ≤ ds[i]!.args.length ∧ ds[i]!.args.length * 24 ≤ 140737488355328) (hun : ∀ i, 1 ≤ i → i < d.size → cmpT ds[i - 1]! ds[i]! ≠ 0) :
    Calls Tryd.prog 28 #[.slice (some ⟨b, off, none⟩) d.size c] w fun e w' => ∃ v res, e = .returned v ∧ w'.ownsRow w.heap.size 28 2 v d.size (flatL res) ∧ res.size = d.size ∧ (∀ i, i < d.size → ResOk w' v res[i]! ds[i]!) ∧ Below w.heap.size w w' := by
  obtain ⟨i0, hi, hz0, hz1, hz2⟩ := info_parts info28
  have HR := Lib.hid hR
  have HA := Lib.hid hA
  have HAs := Lib.hid hAs
  have HN := Lib.hid hne
  have HU := Lib.hid hun
  have HD := Lib.hid hds
  have HZ := Lib.hid hsz
  clear hR hA hAs hne hun hds hsz
  go_enter Tryd.func28, Tryd.ntmps28
  go_wp2_with fail
  refine (clone_any b off c d _ HR.out (by omega) hbl (by omega)).mono ?_
  rintro e w1 ⟨g, cap, rfl, hg1, hg2, hr1, hb1⟩
  have HR1 := Lib.hid hr1
  clear hr1
  go_wp2_with fail
  refine (sortSlice_small g 0 cap B d _ h2 HR1.out (HA.out.on (hb1.mono hB)) (by omega) hg2 h12).mono ?_
  rintro e w2 ⟨rfl, hk2, hr2⟩
  rw [HD.out] at hr2
  have hb2 : Below w.heap.size w w2 := hb1.trans (hk2.below hg1 hb1.size)
  have HR2 := Lib.hid hr2
  have hg3 : g < w2.heap.size := Nat.lt_of_lt_of_le hg2 hk2.size
  clear hr2 hk2
  go_wp2_with fail
  have hb2s := hb2.size
  go_loopw [4, 16] (fun v i wr => ∃ (k : Nat) (res : Array Tp), k ≤ d.size ∧ i = .int .i64 k ∧ wr.ownsRow w.heap.size 28 2 v k (flatL res) ∧ res.size = k ∧ (∀ j, j < k → ResOk wr v res[j]! ds[j]!) ∧ Rw wr g 0 ds ∧ some g ≠ v.ownBlock ∧ g < wr.heap.size ∧ Below w.heap.size w wr) (fun _ i _ => d.size - (intOf i).toNat)
  case atStart => exact ⟨0, #[], Nat.zero_le _, rfl, World.ownsRow_nil _ _ _ _, rfl, fun j hj => by omega, HR2.out, by simp [Value.ownBlock], hg3, hb2⟩
  case round =>
    obtain ⟨k, res, hk, rfl, ho, hs, hres, hr, hgv, hgl, hb⟩ := hrel
    obtain ⟨v, hv4⟩ : ∃ v, v = u4 := ⟨_, rfl⟩
    subst hv4
    have HO := Lib.hid ho
    have HS := Lib.hid hs
    have HRS := Lib.hid hres
    have HRR := Lib.hid hr
    have HGV := Lib.hid hgv
    clear ho hs hres hr hgv
    by_cases hlt : k < d.size
    · obtain ⟨y, hy⟩ : ∃ y, ds[k]! = y := ⟨_, rfl⟩
      have HAy := HAs.out k (by rw [HZ.out]; exact hlt)
      have HNy := HN.out k hlt
      have HRy := HRR.out.at (i := k) (by rw [HZ.out]; exact hlt)
      rw [hy] at HAy HNy HRy
      have HY := Lib.hid hy
      clear hy
      obtain ⟨s, pp, cc, l⟩ := y
      obtain ⟨hl1, hl2⟩ := HNy
      obtain ⟨hv0, hlm⟩ := HAy
      simp only at hv0 hlm hl1 hl2
      obtain ⟨b', o', rfl⟩ : ∃ b' o', pp = some ⟨b', o', none⟩ := by
        rcases hv0 with h | ⟨b', o', h, _⟩
        · subst h; simp at hl1
        · exact ⟨b', o', h⟩
      obtain ⟨y0, y1⟩ := HRy
      simp only [Nat.zero_add] at y0 y1
      have HV := Lib.hid (show Vals wr wr.heap.size (some ⟨b', o', none⟩) l from (hv0.below hb hB).mono (by have := hb.size; omega))
      clear hv0
      have hbs := hb.size
      by_cases hk0 : k = 0
      · have k0 : ((k : Int) == 0) = true := by simp [hk0]
        clear hk0
        go_wp2_with fail
        go_quiet (fail)
        go_wp2_with fail
        refine (fresh_any b' o' cc s l _ hl1 (vals_grow HV.out (by first | exact (below_drewN' ((Below.refl _ _).alloc (Nat.le_refl _) _) _) | exact ((Below.refl _ _).alloc (Nat.le_refl _) _).drew)) hl2).mono ?_
        rintro e w3 ⟨g3, cap3, rfl, hg31, hg32, hv3, hb3⟩
        have hb4 : Below wr.heap.size wr w3 := by first | exact (below_drewN' ((Below.refl _ _).alloc (Nat.le_refl _) _) _).trans (hb3.mono (below_drewN' ((Below.refl _ _).alloc (Nat.le_refl _) _) _).size) | exact ((Below.refl _ _).alloc (Nat.le_refl _) _).drew.trans (hb3.mono ((Below.refl _ _).alloc (Nat.le_refl _) _).drew.size)
        clear hb3
        have HV3 := Lib.hid hv3
        clear hv3
        have hbs4 := hb4.size
        have HOA := Lib.hid (show ∀ o, (w3.alloc o).ownsRow w.heap.size 28 2 v k (flatL res) from fun o => (owns_below HO.out hb4).alloc o)
        have h63 : k + 1 ≤ maxLen := by unfold maxLen; omega
        have h64 : (k + 1) * 40 ≤ 140737488355328 := by omega
        go_wp2_with (at_builtin; refine wpList_append_lies _ rfl _ _ 41 rfl w.heap.size 28 i0 (.agg #[.string ⟨#[]⟩, .slice none 0 0]) 2 40 Tryd.underlying41 hi hz0 hz1 hz2 rfl (by decide) v k (flatL res) rfl (HOA.out _) ⟨w3.heap.size, 0, none⟩ 1 1 [.string s, .slice (some ⟨g3, 0, none⟩) l.length cap3] rfl rfl (cell_two_new _ _ _ _) (fun x hx => by simp at hx; rcases hx with rfl | rfl <;> rfl) (by decide) h63 h64 (by simp; omega) (w3.heap.size + 1) (by simp) ?_; intro g5 cap5 w5 hown5 hgrow5 hat5 hlt5)
        refine ⟨⟨k + 1, res.push ⟨s, some ⟨g3, 0, none⟩, cap3, l⟩, by omega, by go_num, ?_⟩, by simp [intOf]; omega⟩
        exact sort_step HO.out HS.out HRS.out HRR.out HGV.out hgl hb HY.out hb4 (by first | exact hg31 | (simp at hg31; omega)) hg32 HV3.out hown5 hgrow5 hat5 (by omega)
      · have k0 : ((k : Int) == 0) = false := by simp [hk0]
        have hk1 : (1 : Int) ≤ k := by omega
        have ek : ((k : Int) - 1).toNat = k - 1 := by omega
        have HX := HRR.out.at (i := k - 1) (by rw [HZ.out]; omega)
        obtain ⟨x0, x1⟩ := HX
        simp only [Nat.zero_add] at x0 x1
        have HOX := Lib.hid ((((HAs.out (k - 1) (by rw [HZ.out]; omega)).on (hb.mono hB)).tin (by have := hb.size; omega) : Tp.In ds[k - 1]! wr))
        have HOY := Lib.hid ((⟨HV.out, hlm⟩ : Tp.In ⟨s, some ⟨b', o', none⟩, cc, l⟩ wr))
        have hc0 : cmpT ds[k - 1]! ⟨s, some ⟨b', o', none⟩, cc, l⟩ ≠ 0 := by rw [← HY.out]; exact HU.out k (by omega) hlt
        have hc1 : (cmpT ds[k - 1]! ⟨s, some ⟨b', o', none⟩, cc, l⟩ != 0) = true := by simp [hc0]
        have hw1 : IntKind.i64.wrap ((k : Int) - 1) = (k : Int) - 1 := IntWalk.i64_in _ (by omega)
        have hw2 : (0 : Int) ≤ (k : Int) - 1 := by omega
        have hw3 : (k : Int) - 1 < (d.size : Int) := by omega
        clear hk0 hc0
        go_wp2_with fail
        go_region_with (go_at_call 25; refine (order_any ds[k - 1]! ⟨s, some ⟨b', o', none⟩, cc, l⟩ _ (HOX.out.grow (by first | exact ((Below.refl _ wr).alloc (Nat.le_refl _) _).drew | exact (below_drewN' ((Below.refl _ wr).alloc (Nat.le_refl _) _) _) | exact ((Below.refl _ wr).alloc (Nat.le_refl _) _))) (HOY.out.grow (by first | exact ((Below.refl _ wr).alloc (Nat.le_refl _) _).drew | exact (below_drewN' ((Below.refl _ wr).alloc (Nat.le_refl _) _) _) | exact ((Below.refl _ wr).alloc (Nat.le_refl _) _)))).mono ?_; rintro e w6 ⟨rfl, hb6⟩)
        all_goals
          obtain ⟨hc6, _⟩ := bcell hb6
          have hb7 : Below wr.heap.size wr w6 := ((Below.refl _ wr).alloc (Nat.le_refl _) _).drew.trans (hb6.mono ((Below.refl _ wr).alloc (Nat.le_refl _) _).drew.size)
          go_wp2_with fail
          refine (fresh_any b' o' cc s l _ hl1 (vals_grow HV.out hb7) hl2).mono ?_
          rintro e w3 ⟨g3, cap3, rfl, hg31, hg32, hv3, hb3⟩
          have hb4 : Below wr.heap.size wr w3 := hb7.trans (hb3.mono hb7.size)
          have hg33 : wr.heap.size ≤ g3 := Nat.le_trans hb7.size hg31
          clear hb3 hc6
          have HV3 := Lib.hid hv3
          clear hv3
          have hbs4 := hb4.size
          have HOA := Lib.hid (show ∀ o, (w3.alloc o).ownsRow w.heap.size 28 2 v k (flatL res) from fun o => (owns_below HO.out hb4).alloc o)
          have h63 : k + 1 ≤ maxLen := by unfold maxLen; omega
          have h64 : (k + 1) * 40 ≤ 140737488355328 := by omega
          go_wp2_with (at_builtin; refine wpList_append_lies _ rfl _ _ 41 rfl w.heap.size 28 i0 (.agg #[.string ⟨#[]⟩, .slice none 0 0]) 2 40 Tryd.underlying41 hi hz0 hz1 hz2 rfl (by decide) v k (flatL res) rfl (HOA.out _) ⟨w3.heap.size, 0, none⟩ 1 1 [.string s, .slice (some ⟨g3, 0, none⟩) l.length cap3] rfl rfl (cell_two_new _ _ _ _) (fun x hx => by simp at hx; rcases hx with rfl | rfl <;> rfl) (by decide) h63 h64 (by simp; omega) (w3.heap.size + 1) (by simp) ?_; intro g5 cap5 w5 hown5 hgrow5 hat5 hlt5)
          refine ⟨⟨k + 1, res.push ⟨s, some ⟨g3, 0, none⟩, cap3, l⟩, by omega, by go_num, ?_⟩, by simp [intOf]; omega⟩
          exact sort_step HO.out HS.out HRS.out HRR.out HGV.out hgl hb HY.out hb4 hg33 hg32 HV3.out hown5 hgrow5 hat5 (by omega)
    · go_wp2_with fail
      obtain rfl : k = d.size := by omega
      go_ret
      exact ⟨_, res, rfl, HO.out, HS.out, HRS.out, hb⟩
end Go.Proofs.YtdoadclblloddaaDoor
