/-
  Contracts: Sync, Rename, Cut, Remove of a disk.
-/
import Derived.Test.YtfkmakkofeedpaaDac
import Derived.Test.YtfkmakkofeedpaaDcl
set_option linter.unusedVariables false
set_option linter.unusedSimpArgs false
namespace Go.Proofs.Ytfkmakkofeedpaa
open Go.Maps Go.RowKit

theorem Left.after {w X w' : World} {base d mb : Nat} {l : List Fil} {on : Bool} {left : Int} {fs : List Fil} (h : Left X w' base d mb l on left fs) (hf : Fr w X (OwnD d mb l) (OwnD d mb l)) : Left w w' base d mb l on left fs := by
  obtain ⟨l', h1, h2, h3⟩ := h
  exact ⟨l', h1, h2, hf.trans h3⟩
theorem unit_end {W1 w w' : World} {base d mb : Nat} {l : List Fil} {left : Int} {fs : List Fil} (hB : Below w.heap.size w W1) (h1 : (useS left 1).2.2 = true → Left W1 w' base d mb l true (useS left 1).2.1 fs)
    (h2 : (useS left 1).2.2 = false → Dl w' base d mb l false (useS left 1).2.1 ∧ Only d W1 w') :
    After w' w base d (OwnD d mb l) (unitS ⟨l.map absF, true, left⟩ fs).1 ∧ (unitS ⟨l.map absF, true, left⟩ fs).2 = okE (useS left 1).2.2 := by
  unfold unitS DS.use
  cases hu : (useS left 1).2.2 with
  | true =>
    obtain ⟨l', a, b, c⟩ := h1 hu
    simp only [hu, if_true]
    exact ⟨⟨_, ⟨mb, l', a, b.symm, rfl⟩, (Fr.of _ hB).trans c⟩, rfl⟩
  | false =>
    obtain ⟨a, b⟩ := h2 hu
    simp only [hu]
    exact ⟨⟨_, ⟨mb, l, a, rfl, rfl⟩, (Fr.of _ hB).trans (Only.fr b (.inl rfl))⟩, rfl⟩
theorem after_same {w w' : World} {base d mb : Nat} {l : List Fil} {on : Bool} {left : Int} (h : Dl w base d mb l on left) (hB : Below w.heap.size w w') : After w' w base d (OwnD d mb l) ⟨l.map absF, on, left⟩ :=
  ⟨_, ⟨mb, l, h.on_ hB, rfl, rfl⟩, Fr.of _ hB⟩
theorem Only.cellAt {d b : Nat} {w X : World} (ho : Only d w X) (hb : b ≠ d) {u : Value} (h : w.cell? ⟨b, 0, none⟩ = some u) : X.cell? ⟨b, 0, none⟩ = some u :=
  (World.cell?_of_block (w := w) (a := ⟨b, 0, none⟩) (ho.block b (lt_of_cell h) hb)).trans h
theorem box0 (w : World) (T : TypeId) (u : Value) : (w.alloc (.cells #[u] T)).cell? ⟨w.heap.size, 0, none⟩ = some u := (Bk.new w T #[u]).cell 0 u rfl

set_option maxRecDepth 100000 in
set_option maxHeartbeats 1000000 in
theorem sync_any (base d : Nat) (s : DS) (O : Nat → Prop) (nm : ByteArray) (hs : nm.size ≤ maxLen) (w : World) (h : Dk w base d s O) :
    Calls Try.prog 14 #[.pointer (some ⟨d, 0, none⟩), .string nm] w fun r w' => r = .returned (.int .i64 (syncS s nm.data.toList).2) ∧ After w' w base d O (syncS s nm.data.toList).1 := by
  obtain ⟨mb, l, hD, hfs, rfl⟩ := h
  obtain ⟨fs, on, left⟩ := s
  simp only at hD hfs
  subst hfs
  have HF := Lib.hid (find_any base d mb l on left nm hs w hD)
  have HD := Lib.hid hD
  cases on with
  | false =>
    have HS := Lib.hid (show syncS ⟨l.map absF, false, left⟩ nm.data.toList = (⟨l.map absF, false, left⟩, 20) by rfl)
    rw [show findP false (getF nm.data.toList l) = .pointer none from rfl, show findE false (getF nm.data.toList l) = 20 from rfl] at HF
    have HB := Lib.hid (below1 w (.cells #[.pointer none] 64))
    clear hD hs
    go_enter Try.func14, Try.ntmps14
    go_wp2_with (go_at_call 32; refine HF.out.mono ?_; rintro r w1 ⟨rfl, rfl⟩)
    go_ret
    rw [HS.out]
    exact ⟨rfl, after_same HD.out HB.out⟩
  | true =>
    cases hg : getF nm.data.toList l with
    | none =>
      have HS := Lib.hid (show syncS ⟨l.map absF, true, left⟩ nm.data.toList = (⟨l.map absF, true, left⟩, 4) by
        unfold syncS; rw [if_neg (by simp), abs_get, hg]; rfl)
      rw [hg, show findP true none = .pointer none from rfl, show findE true none = 4 from rfl] at HF
      have HB := Lib.hid (below1 w (.cells #[.pointer none] 64))
      clear hD hs hg
      go_enter Try.func14, Try.ntmps14
      go_wp2_with (go_at_call 32; refine HF.out.mono ?_; rintro r w1 ⟨rfl, rfl⟩)
      go_ret
      rw [HS.out]
      exact ⟨rfl, after_same HD.out HB.out⟩
    | some f =>
      obtain ⟨hf, hfn⟩ := getF_mem hg
      have HS := Lib.hid (show syncS ⟨l.map absF, true, left⟩ nm.data.toList = unitS ⟨l.map absF, true, left⟩ (putF (mkF f.nm f.xs f.xs.length) (l.map absF)) by
        unfold syncS; rw [if_neg (by simp), abs_get, hg, hfn]; rfl)
      rw [hg, show findP true (some f) = .pointer (some ⟨f.blk, 0, none⟩) from rfl, show findE true (some f) = 0 from rfl] at HF
      have HB := Lib.hid (below1 w (.cells #[.pointer (some ⟨f.blk, 0, none⟩)] 64))
      have HD1 := Lib.hid (hD.on_ HB.out)
      have HC := Lib.hid (do_sync base d mb l left w.heap.size _ HD1.out (fun w' => Left (w.alloc (.cells #[.pointer (some ⟨f.blk, 0, none⟩)] 64)) w' base d mb l true (useS left 1).2.1 (putF (mkF f.nm f.xs f.xs.length) (l.map absF))) (fun X hX hO =>
        (sync1_any base d mb l true _ f hf w.heap.size X hX (hO.cellAt (by have := hD.dsk.lt; omega) (box0 w _ _))).mono fun r w' hr => ⟨hr.1, hr.2.after (Only.fr hO (.inl rfl))⟩))
      clear hD hs hg hf hfn
      go_enter Try.func14, Try.ntmps14
      go_wp2_with (first
        | (go_at_call 32; refine HF.out.mono ?_; rintro r w1 ⟨rfl, rfl⟩)
        | (go_at_call 40; refine HC.out.mono ?_; rintro r w1 ⟨rfl, h1, h2⟩; have HE := Lib.hid (unit_end HB.out h1 h2); clear h1 h2))
      go_ret
      rw [HS.out]
      exact ⟨by rw [HE.out.2]; rfl, HE.out.1⟩

set_option maxRecDepth 100000 in
set_option maxHeartbeats 1000000 in
theorem remove_any (base d : Nat) (s : DS) (O : Nat → Prop) (nm : ByteArray) (hs : nm.size ≤ maxLen) (w : World) (h : Dk w base d s O) :
    Calls Try.prog 20 #[.pointer (some ⟨d, 0, none⟩), .string nm] w fun r w' => r = .returned (.int .i64 (remS s nm.data.toList).2) ∧ After w' w base d O (remS s nm.data.toList).1 := by
  obtain ⟨mb, l, hD, hfs, rfl⟩ := h
  obtain ⟨fs, on, left⟩ := s
  simp only at hD hfs
  subst hfs
  obtain ⟨W1, hW1⟩ : ∃ W1, W1 = (w.alloc (.cells #[.pointer (some ⟨d, 0, none⟩)] 23)).alloc (.cells #[.string nm] 9) := ⟨_, rfl⟩
  have hB : Below w.heap.size w W1 := hW1 ▸ below2 w _ _
  have hD1 := hD.on_ hB
  have x0 : W1.cell? ⟨w.heap.size, 0, none⟩ = some (.pointer (some ⟨d, 0, none⟩)) := by
    rw [hW1]; exact ((Bk.new w 23 #[.pointer (some ⟨d, 0, none⟩)]).on (below1 _ _)).cell 0 _ rfl
  have x1 : W1.cell? ⟨w.heap.size + 1, 0, none⟩ = some (.string nm) := by
    rw [hW1]; exact (Bk.new' (N := w.heap.size + 1) (w.alloc (.cells #[.pointer (some ⟨d, 0, none⟩)] 23)) (by simp) 9 #[.string nm]).cell 0 _ rfl
  have HF := Lib.hid (find_any base d mb l on left nm hs W1 hD1)
  have HB := Lib.hid hB
  have HD1 := Lib.hid hD1
  have HW := Lib.hid hW1
  have hdl := hD.dsk.lt
  have fin : ∀ (w' : World) (X : World), Left X w' base d mb l true (useS left 1).2.1 (delF nm.data.toList (l.map absF)) → True := fun _ _ _ => trivial
  cases on with
  | false =>
    have HS := Lib.hid (show remS ⟨l.map absF, false, left⟩ nm.data.toList = (⟨l.map absF, false, left⟩, 20) by rfl)
    have HFIN := Lib.hid (after_same (w := w) hD hB)
    rw [show findP false (getF nm.data.toList l) = .pointer none from rfl, show findE false (getF nm.data.toList l) = 20 from rfl] at HF
    subst hW1
    clear hD hD1 hs hB x0 x1 fin hdl
    go_enter Try.func20, Try.ntmps20
    go_wp2_with (go_at_call 32; refine HF.out.mono ?_; rintro r w1 ⟨rfl, rfl⟩)
    go_ret
    rw [HS.out]
    exact ⟨rfl, HFIN.out⟩
  | true =>
    cases hg : getF nm.data.toList l with
    | none =>
      have HS := Lib.hid (show remS ⟨l.map absF, true, left⟩ nm.data.toList = (⟨l.map absF, true, left⟩, 4) by
        unfold remS; rw [if_neg (by simp), abs_get, hg]; rfl)
      have HFIN := Lib.hid (after_same (w := w) hD hB)
      rw [hg, show findP true none = .pointer none from rfl, show findE true none = 4 from rfl] at HF
      subst hW1
      clear hD hD1 hs hB x0 x1 hg fin hdl
      go_enter Try.func20, Try.ntmps20
      go_wp2_with (go_at_call 32; refine HF.out.mono ?_; rintro r w1 ⟨rfl, rfl⟩)
      go_ret
      rw [HS.out]
      exact ⟨rfl, HFIN.out⟩
    | some f =>
      have HS := Lib.hid (show remS ⟨l.map absF, true, left⟩ nm.data.toList = unitS ⟨l.map absF, true, left⟩ (delF nm.data.toList (l.map absF)) by
        unfold remS; rw [if_neg (by simp), abs_get, hg]; rfl)
      rw [hg, show findP true (some f) = .pointer (some ⟨f.blk, 0, none⟩) from rfl, show findE true (some f) = 0 from rfl] at HF
      have HC := Lib.hid (do_remove base d mb l left w.heap.size (w.heap.size + 1) _ HD1.out (fun w' => Left W1 w' base d mb l true (useS left 1).2.1 (delF nm.data.toList (l.map absF))) (fun X hX hO =>
        (remove1_any base d mb l true _ nm hs w.heap.size (w.heap.size + 1) X hX (hO.cellAt (by omega) x0) (hO.cellAt (by omega) x1)).mono fun r w' hr => ⟨hr.1, hr.2.after (Only.fr hO (.inl rfl))⟩))
      have HUN := Lib.hid (fun w' h1 h2 => unit_end (w := w) (w' := w') (l := l) (left := left) (base := base) (d := d) (mb := mb) (fs := delF nm.data.toList (l.map absF)) hB h1 h2)
      subst hW1
      clear hD hD1 hs hB x0 x1 hg fin hdl
      go_enter Try.func20, Try.ntmps20
      go_wp2_with (first
        | (go_at_call 32; refine HF.out.mono ?_; rintro r w1 ⟨rfl, rfl⟩)
        | (go_at_call 40; refine HC.out.mono ?_; rintro r w1 ⟨rfl, h1, h2⟩; have HE := Lib.hid (HUN.out _ h1 h2); clear h1 h2))
      go_ret
      rw [HS.out]
      exact ⟨by rw [HE.out.2]; rfl, HE.out.1⟩

set_option maxRecDepth 100000 in
set_option maxHeartbeats 2000000 in
theorem rename_any (base d : Nat) (s : DS) (O : Nat → Prop) (nm tn : ByteArray) (hs : nm.size ≤ maxLen) (hs2 : tn.size ≤ maxLen) (w : World) (h : Dk w base d s O) :
    Calls Try.prog 16 #[.pointer (some ⟨d, 0, none⟩), .string nm, .string tn] w fun r w' => r = .returned (.int .i64 (renS s nm.data.toList tn.data.toList).2) ∧ After w' w base d O (renS s nm.data.toList tn.data.toList).1 := by
  obtain ⟨mb, l, hD, hfs, rfl⟩ := h
  obtain ⟨fs, on, left⟩ := s
  simp only at hD hfs
  subst hfs
  obtain ⟨W1, hW1⟩ : ∃ W1, W1 = ((w.alloc (.cells #[.pointer (some ⟨d, 0, none⟩)] 23)).alloc (.cells #[.string nm] 9)).alloc (.cells #[.string tn] 9) := ⟨_, rfl⟩
  have hB : Below w.heap.size w W1 := hW1 ▸ (below2 w _ _).alloc (by simp; omega) _
  have hz1 : W1.heap.size = w.heap.size + 3 := by rw [hW1]; simp
  have hD1 := hD.on_ hB
  have x0 : W1.cell? ⟨w.heap.size, 0, none⟩ = some (.pointer (some ⟨d, 0, none⟩)) := by
    rw [hW1]; exact (((Bk.new w 23 #[.pointer (some ⟨d, 0, none⟩)]).on (below1 _ _)).on (below1 _ _)).cell 0 _ rfl
  have x1 : W1.cell? ⟨w.heap.size + 1, 0, none⟩ = some (.string nm) := by
    rw [hW1]; exact ((Bk.new' (N := w.heap.size + 1) (w.alloc (.cells #[.pointer (some ⟨d, 0, none⟩)] 23)) (by simp) 9 #[.string nm]).on (below1 _ _)).cell 0 _ rfl
  have x2 : W1.cell? ⟨w.heap.size + 1 + 1, 0, none⟩ = some (.string tn) := by
    rw [hW1]; exact (Bk.new' (N := w.heap.size + 1 + 1) ((w.alloc (.cells #[.pointer (some ⟨d, 0, none⟩)] 23)).alloc (.cells #[.string nm] 9)) (by simp) 9 #[.string tn]).cell 0 _ rfl
  have HF := Lib.hid (find_any base d mb l on left nm hs W1 hD1)
  have HN := Lib.hid (fun X => Nm.name_any tn X hs2)
  have hdl := hD.dsk.lt
  have hml := hD.map.lt
  have hnl : w.heap.size ≠ d ∧ w.heap.size ≠ mb := ⟨by omega, by omega⟩
  cases on with
  | false =>
    have HS := Lib.hid (show renS ⟨l.map absF, false, left⟩ nm.data.toList tn.data.toList = (⟨l.map absF, false, left⟩, 20) by rfl)
    have HFIN := Lib.hid (after_same (w := w) hD (hB.trans ((below1 W1 (.cells #[.pointer none] 64)).mono hB.size)))
    rw [show findP false (getF nm.data.toList l) = .pointer none from rfl, show findE false (getF nm.data.toList l) = 20 from rfl] at HF
    subst hW1
    clear hD hD1 hs hs2 hB x0 x1 x2 hdl hml hnl hz1 HN
    go_enter Try.func16, Try.ntmps16
    go_wp2_with (go_at_call 32; refine HF.out.mono ?_; rintro r w1 ⟨rfl, rfl⟩)
    go_ret
    rw [HS.out]
    exact ⟨rfl, HFIN.out⟩
  | true =>
    cases hg : getF nm.data.toList l with
    | none =>
      have HS := Lib.hid (show renS ⟨l.map absF, true, left⟩ nm.data.toList tn.data.toList = (⟨l.map absF, true, left⟩, 4) by
        unfold renS; rw [if_neg (by simp), abs_get, hg]; rfl)
      have HFIN := Lib.hid (after_same (w := w) hD (hB.trans ((below1 W1 (.cells #[.pointer none] 64)).mono hB.size)))
      rw [hg, show findP true none = .pointer none from rfl, show findE true none = 4 from rfl] at HF
      subst hW1
      clear hD hD1 hs hs2 hB x0 x1 x2 hg hdl hml hnl hz1 HN
      go_enter Try.func16, Try.ntmps16
      go_wp2_with (go_at_call 32; refine HF.out.mono ?_; rintro r w1 ⟨rfl, rfl⟩)
      go_ret
      rw [HS.out]
      exact ⟨rfl, HFIN.out⟩
    | some f =>
      obtain ⟨hf, hfn⟩ := getF_mem hg
      rw [hg, show findP true (some f) = .pointer (some ⟨f.blk, 0, none⟩) from rfl, show findE true (some f) = 0 from rfl] at HF
      obtain ⟨W2, hW2⟩ : ∃ W2, W2 = W1.alloc (.cells #[.pointer (some ⟨f.blk, 0, none⟩)] 64) := ⟨_, rfl⟩
      have hb2 : Below W1.heap.size W1 W2 := hW2 ▸ below1 W1 _
      have hB2 : Below w.heap.size w W2 := hB.trans (hb2.mono hB.size)
      have hD2 := hD.on_ hB2
      have y0 : W2.cell? ⟨w.heap.size, 0, none⟩ = some (.pointer (some ⟨d, 0, none⟩)) := by rw [hb2.cell (p := ⟨w.heap.size, 0, none⟩) (by show w.heap.size < W1.heap.size; omega)]; exact x0
      have y1 : W2.cell? ⟨w.heap.size + 1, 0, none⟩ = some (.string nm) := by rw [hb2.cell (p := ⟨w.heap.size + 1, 0, none⟩) (by show w.heap.size + 1 < W1.heap.size; omega)]; exact x1
      have y2 : W2.cell? ⟨w.heap.size + 1 + 1, 0, none⟩ = some (.string tn) := by rw [hb2.cell (p := ⟨w.heap.size + 1 + 1, 0, none⟩) (by show w.heap.size + 1 + 1 < W1.heap.size; omega)]; exact x2
      have y3 : W2.cell? ⟨w.heap.size + 1 + 1 + 1, 0, none⟩ = some (.pointer (some ⟨f.blk, 0, none⟩)) := by
        rw [hW2, show w.heap.size + 1 + 1 + 1 = W1.heap.size by omega]; exact box0 W1 _ _
      cases hb : Nm.nameB tn with
      | false =>
        rw [hb] at HN
        have HS := Lib.hid (show renS ⟨l.map absF, true, left⟩ nm.data.toList tn.data.toList = (⟨l.map absF, true, left⟩, 1) by
          unfold renS; rw [if_neg (by simp), abs_get, hg]
          show (if okName tn.data.toList = false then _ else _) = _
          rw [if_pos (by rw [okName, bytesOf_list]; exact hb)])
        have HFIN := Lib.hid (after_same (w := w) hD hB2)
        subst hW2
        subst hW1
        clear hD hD1 hD2 hs hs2 hB hB2 hb2 x0 x1 x2 y0 y1 y3 hg hf hfn hdl hml hnl hz1 hb
        go_enter Try.func16, Try.ntmps16
        go_wp2_with (first
          | (go_at_call 32; refine HF.out.mono ?_; rintro r w1 ⟨rfl, rfl⟩)
          | (go_at_call 33; refine (HN.out _).mono ?_; rintro r w1 ⟨rfl, rfl⟩))
        go_ret
        rw [HS.out]
        exact ⟨rfl, HFIN.out⟩
      | true =>
        rw [hb] at HN
        have hok : okName tn.data.toList = true := by rw [okName, bytesOf_list]; exact hb
        have HS := Lib.hid (show renS ⟨l.map absF, true, left⟩ nm.data.toList tn.data.toList = unitS ⟨l.map absF, true, left⟩ (putF (mkF tn.data.toList f.xs f.sure) (delF nm.data.toList (l.map absF))) by
          unfold renS; rw [if_neg (by simp), abs_get, hg]
          show (if okName tn.data.toList = false then _ else _) = _
          rw [if_neg (by rw [hok]; simp)]; rfl)
        have HC := Lib.hid (do_rename base d mb l left w.heap.size (w.heap.size + 1) (w.heap.size + 1 + 1 + 1) (w.heap.size + 1 + 1) _ hD2 (fun w' => Left W2 w' base d mb l true (useS left 1).2.1 (putF (mkF tn.data.toList f.xs f.sure) (delF nm.data.toList (l.map absF)))) (fun X hX hO =>
          (rename1_any base d mb l true _ f hf nm tn hs hs2 hfn hok w.heap.size (w.heap.size + 1) (w.heap.size + 1 + 1 + 1) (w.heap.size + 1 + 1) X hX (hO.cellAt (by omega) y0) (hO.cellAt (by omega) y1) (hO.cellAt (by omega) y3) (hO.cellAt (by omega) y2) (by omega) (by omega) (by omega)).mono fun r w' hr => ⟨hr.1, hr.2.after (Only.fr hO (.inl rfl))⟩))
        have HUN := Lib.hid (fun w' h1 h2 => unit_end (w := w) (w' := w') (l := l) (left := left) (base := base) (d := d) (mb := mb) (fs := putF (mkF tn.data.toList f.xs f.sure) (delF nm.data.toList (l.map absF))) hB2 h1 h2)
        subst hW2
        subst hW1
        clear hD hD1 hD2 hs hs2 hB hB2 hb2 x0 x1 x2 y0 y1 y3 hg hf hfn hdl hml hnl hz1 hb hok
        go_enter Try.func16, Try.ntmps16
        go_wp2_with (first
          | (go_at_call 32; refine HF.out.mono ?_; rintro r w1 ⟨rfl, rfl⟩)
          | (go_at_call 33; refine (HN.out _).mono ?_; rintro r w1 ⟨rfl, rfl⟩)
          | (go_at_call 40; refine HC.out.mono ?_; rintro r w1 ⟨rfl, h1, h2⟩; have HE := Lib.hid (HUN.out _ h1 h2); clear h1 h2))
        go_ret
        rw [HS.out]
        exact ⟨by rw [HE.out.2]; rfl, HE.out.1⟩
end Go.Proofs.Ytfkmakkofeedpaa
