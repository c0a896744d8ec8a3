/-
  Contracts: add, Put, Clear of a pool.
-/
import Derived.Test.YtdoadclblloddaaPoolA
namespace Go.Proofs.Ytdoadclblloddaa
open Go.RowKit Go.Maps Go.WideMaps

theorem wpList_put_out {P : Program} {k : TypeId} (w : World) {ops : Array Oper} {rest : List Oper} {o : Oper} {a : Act} {Q : Exit → Act → World → Prop} (hg : o.guard = none) (m x v : Operand) (t : TypeId) (hop : o.op = Op.mapUpdate t m x v)
    (K : Keyed P k) {e : TypeId} (ht : P.underlying t = some (.map k e)) {b : Nat} {l : List Vl} {f : Nat → Value} (hb : MapOf w b l f) (hl : ∀ v ∈ l, ∃ x, keyOf P k (vlV v) = some x) (vl : Vl) (hv : ∃ x, keyOf P k (vlV vl) = some x) (hno : vl ∉ l)
    (hm : a.eval m = .map (some b)) (hx : a.eval x = vlV vl) (hvv : a.eval v = f l.length)
    (hK : ∀ w', MapOf w' b (l ++ [vl]) f → w.grownBy w' (some b) → wpList P ops Q rest (a.put o.dst undef) w') : wpList P ops Q (o :: rest) a w := by
  refine wpList_plain hg fun K' hK' => ?_
  obtain ⟨w', hrun, r1, r2⟩ := put_out K ht hb hl vl hv hno
  unfold Oper.wp
  simp [execOp, hop, hm, hx, hvv, hrun, Result.andThen]
  exact hK' _ _ (hK w' r1 r2)

theorem kept_grown {w w2 : World} {pb bm : Nat} {sv : Value} {l : List Vl} (h : Pool w pb bm sv l) (hg : w.grownBy w2 (some bm)) : w2.cell? ⟨pb, 0, none⟩ = some (.map (some bm)) ∧ w2.cell? ⟨pb, 1, none⟩ = some sv ∧ w2.frozen? ⟨pb, 0, none⟩ = false ∧ w2.frozen? ⟨pb, 1, none⟩ = false ∧ w2.ownsRow 0 31 2 sv l.length (flatV l) := by
  have hne : some pb ≠ some bm := fun e => h.ne (Option.some.inj e).symm
  refine ⟨hg.cell h.c0 hne, hg.cell h.c1 hne, ?_, ?_, h.r.kept hg (.inr h.nr)⟩
  · rw [hg.frozen_far ⟨pb, 0, none⟩ h.lt hne]; exact h.f0
  · rw [hg.frozen_far ⟨pb, 1, none⟩ h.lt hne]; exact h.f1

/-- The pool behind the append and the store of what it gave. -/
theorem pool_added {w w2 w3 : World} {pb bm g cap : Nat} {sv : Value} {l : List Vl} {v : Vl} (h : Pool w pb bm sv l) (ho : Ok v) (hn : v ∉ l) (hle : l.length < 4096) (hg2 : w.grownBy w2 (some bm)) (hm2 : MapOf w2 bm (l ++ [v]) num)
    {o : Obj} (hg3 : (w2.alloc o).grownBy w3 sv.ownBlock) (hown : w3.ownsRow 0 31 2 (.slice (some ⟨g, 0, none⟩) (l.length + 1) cap) (l.length + 1) (flatV l ++ encV v)) (hat : sv.ownBlock = some g ∨ g = w2.heap.size + 1) :
    Pool (w3.setCell ⟨pb, 1, none⟩ (.slice (some ⟨g, 0, none⟩) (l.length + 1) cap)) pb bm (.slice (some ⟨g, 0, none⟩) (l.length + 1) cap) (l ++ [v]) ∧ Turned w (w3.setCell ⟨pb, 1, none⟩ (.slice (some ⟨g, 0, none⟩) (l.length + 1) cap)) pb bm sv (.slice (some ⟨g, 0, none⟩) (l.length + 1) cap) := by
  obtain ⟨c0, c1, f0, f1, _⟩ := kept_grown h hg2
  have hlt2 : pb < w2.heap.size := Nat.lt_of_lt_of_le h.lt hg2.size
  have hlt3 : pb < (w2.alloc o).heap.size := by simp; omega
  have hmlt : bm < w2.heap.size := by obtain ⟨c, hm⟩ := hm2; exact (Array.getElem?_eq_some_iff.1 hm).1
  have hpr : some pb ≠ sv.ownBlock := fun e => h.x e.symm
  have hgp : g ≠ pb := by
    rintro rfl
    rcases hat with e | e
    · exact h.x e
    · omega
  have hgm : g ≠ bm := by
    rintro rfl
    rcases hat with e | e
    · exact h.nr e
    · omega
  have e0 : w3.cell? ⟨pb, 0, none⟩ = some (.map (some bm)) := hg3.cell ((World.cell?_of_block (w := w2) (a := ⟨pb, 0, none⟩) (Below.heap_alloc _ _ _ hlt2)).trans c0) hpr
  have e1 : w3.cell? ⟨pb, 1, none⟩ = some sv := hg3.cell ((World.cell?_of_block (w := w2) (a := ⟨pb, 1, none⟩) (Below.heap_alloc _ _ _ hlt2)).trans c1) hpr
  have e2 : w3.frozen? ⟨pb, 0, none⟩ = false := by
    rw [hg3.frozen_far ⟨pb, 0, none⟩ hlt3 hpr, World.frozen?_of_block (w := w2) (a := ⟨pb, 0, none⟩) (Below.heap_alloc _ _ _ hlt2)]; exact f0
  have e3 : w3.frozen? ⟨pb, 1, none⟩ = false := by
    rw [hg3.frozen_far ⟨pb, 1, none⟩ hlt3 hpr, World.frozen?_of_block (w := w2) (a := ⟨pb, 1, none⟩) (Below.heap_alloc _ _ _ hlt2)]; exact f1
  have em : w3.heap[bm]? = w2.heap[bm]? := (hg3.block bm (by simp; omega) (fun e => h.nr e.symm)).trans (Below.heap_alloc _ _ _ hmlt)
  refine ⟨⟨?_, ?_, ?_, ?_, ?_, ?_, ?_, ?_, ?_, ?_⟩, ⟨?_, ?_, ?_, ?_, ?_, ?_⟩⟩
  · rw [World.cell?_setCell_other (h := by simp)]; exact e0
  · exact World.cell?_setCell_same' _ _ _ (by rw [e1]; rfl)
  · rw [World.frozen?_setCell]; exact e2
  · rw [World.frozen?_setCell]; exact e3
  · obtain ⟨c, hm⟩ := hm2
    refine ⟨c, ?_⟩
    rw [Below.heap_setCell _ _ _ _ (by simpa using h.ne), em]
    exact hm
  · rw [flatV_snoc, List.length_append, List.length_singleton]
    obtain ⟨a1, a2⟩ := hown
    refine ⟨a1, ?_⟩
    rcases a2 with ⟨a2, _⟩ | ⟨g', cap', cur, a2, a3, a4, a5⟩
    · cases a2
    · refine .inr ⟨g', cap', cur, a2, a3, ?_, a5⟩
      injection a2 with b1 b2 b3
      injection b1 with b1
      injection b1 with b1 b4 b5
      subst b1
      rw [Below.heap_setCell _ _ _ _ (by simpa using hgp)]; exact a4
  · exact List.nodup_append.2 ⟨h.n, by simp, fun a ha b hb e => by simp at hb; subst e; subst hb; exact hn ha⟩
  · intro u hu
    rcases List.mem_append.1 hu with hu | hu
    · exact h.k u hu
    · simp at hu; subst hu; exact ho
  · intro e; simp [Value.ownBlock] at e; exact hgp e
  · simp; omega
  · exact (hg3.os.trans hg2.os)
  · exact (hg3.tape.trans hg2.tape)
  · exact (hg3.output.trans hg2.output)
  · have := hg3.size; have := hg2.size; simp [World.setCell] at *; omega
  · intro b hb ho
    have hb2 : b < w2.heap.size := Nat.lt_of_lt_of_le hb hg2.size
    rw [Below.heap_setCell _ _ _ _ (by simpa using ho.1), hg3.block b (by simp; omega) (fun e => ho.2.2 e.symm), Below.heap_alloc _ _ _ hb2]
    exact hg2.block b hb (fun e => ho.2.1 (Option.some.inj e))
  · intro g' hg'
    have : g = g' := by simpa [Value.ownBlock] using hg'
    subst this
    rcases hat with e | e
    · exact .inl e
    · exact .inr (by have := hg2.size; omega)

set_option maxHeartbeats 2000000 in
set_option maxRecDepth 100000 in
theorem add_any (s : ByteArray) (n : Int) (w : World) {pb bm : Nat} {sv : Value} {l : List Vl} (h : Pool w pb bm sv l) (ho : Ok (s, n)) (hn : (s, n) ∉ l) (hle : l.length < 4096) :
    Calls Try.prog 22 #[.pointer (some ⟨pb, 0, none⟩), .agg #[.string s, .int .i64 n]] w fun e w' => e = .returned (.int .i64 l.length) ∧ ∃ sv', Pool w' pb bm sv' (l ++ [(s, n)]) ∧ Turned w w' pb bm sv sv' := by
  obtain ⟨i0, hi, hz0, hz1, hz2⟩ := info_parts info31
  have h1 := (h.alloc (.cells #[.string s, .int .i64 n] 31)).drew
  have HB := Lib.hid (alloc_below w (.cells #[.string s, .int .i64 n] 31)).drew
  obtain ⟨q, c, rfl⟩ := slice_of h
  have c0 := (h.alloc (.cells #[.string s, .int .i64 n] 31)).c0
  have c1 := (h.alloc (.cells #[.string s, .int .i64 n] 31)).c1
  have hlt := h.lt
  have HP := Lib.hid h1
  obtain ⟨w2, hrun, hm2, hg2⟩ := put_out law31 Try.underlying54 h1.m h1.keys (s, n) (key_ok _ ho) hn
  change (Instr.mapUpdate 54 (.map (some bm)) (.agg #[.string s, .int .i64 n]) (.int .i64 l.length)).run Try.prog _ = _ at hrun
  obtain ⟨d0, d1, g0, g1, hr2⟩ := kept_grown h1 hg2
  have x0 : w2.cell? ⟨w.heap.size, 0, none⟩ = some (.string s) := hg2.cell (by simp [go_sem]) (by simp; have := h.mlt; omega)
  have x1 : w2.cell? ⟨w.heap.size, 1, none⟩ = some (.int .i64 n) := hg2.cell (by simp [go_sem]) (by simp; have := h.mlt; omega)
  have hlt2 : pb < w2.heap.size := by have := hg2.size; simp at this; omega
  have hw2 : w.heap.size < w2.heap.size := by have := hg2.size; simp at this; omega
  have HR := Lib.hid hr2
  have HM2 := Lib.hid hm2
  have HG2 := Lib.hid hg2
  have HO := Lib.hid ho
  have HN := Lib.hid hn
  have HX := Lib.hid (show some pb ≠ (Value.slice q l.length c).ownBlock from fun e => h.x e.symm)
  have h63 : l.length + 1 ≤ maxLen := by unfold maxLen; omega
  have h64 : (l.length + 1) * 24 ≤ 140737488355328 := by omega
  clear h h1 ho hn hm2 hg2 hr2
  go_enter Try.func22, Try.ntmps22
  go_wp2_with fail
  go_region
  clear hrun c0 c1
  go_wp2_with fail
  go_region_law (refine step_append_lies _ (by rfl) _ _ _ (by rfl) 0 31 i0 _ 2 24 Try.underlying26 hi hz0 hz1 hz2 rfl (by omega) (.slice q l.length c) l.length (flatV l) (by rfl) (HR.out.alloc _) ⟨w2.heap.size, 0, none⟩ 1 1 (encV (s, n)) (by rfl) (by rfl) (World.news_of_block (cs := #[.string s, .int .i64 n]) (t := 31) (fr := (0, 0)) (MapKept.heap_alloc _ _).1) (by intro u hu; simp [encV] at hu; rcases hu with rfl | rfl <;> rfl) (by omega) h63 h64 (by omega) (w2.heap.size + 1) (by simp) ?_; intro gg cap w3 hown1 hgrow hat hlt3; have q1 := hgrow.cell_far ⟨pb, 1, none⟩ (by simp; omega) HX.out; have q2 := hgrow.frozen_far ⟨pb, 1, none⟩ (by simp; omega) HX.out; simp [go_sem, hlt2, d1, g1] at q1 q2)
  all_goals
    clear q1 q2
    go_wp2_with fail
    go_ret
    have hB1 := Turned.of_below pb bm (.slice q l.length c) ((alloc_below w (.cells #[.string s, .int .i64 n] 31)).drew)
    refine ⟨rfl, .slice (some ⟨gg, 0, none⟩) (l.length + 1) cap, ?_⟩
    have hX := HX.out
    have hP := (by first
      | exact pool_added (w2 := w2) HP.out HO.out HN.out hle HG2.out HM2.out hgrow hown1 hat
      | exact pool_added (w2 := w2.drew) HP.out HO.out HN.out hle ⟨HG2.out.os, HG2.out.tape, HG2.out.output, HG2.out.size, HG2.out.block⟩ HM2.out hgrow hown1 hat)
    exact ⟨hP.1, hB1.trans hP.2⟩

set_option maxHeartbeats 1000000 in
theorem put_nil (s : ByteArray) (n : Int) (w : World) (hs : s.size ≤ maxLen) :
    Calls Try.prog 8 #[.pointer none, .agg #[.string s, .int .i64 n]] w fun e w' => e = .returned (.tuple #[.int .i64 0, .int .i64 (if goodB s n then 3 else 1)]) ∧ Below w.heap.size w w' := by
  have HS := Lib.hid hs
  clear hs
  by_cases hg : goodB s n = true
  · go_enter Try.func8, Try.ntmps8
    go_wp2_with fail
    refine (good_any s n _ HS.out).mono ?_
    rintro e w1 ⟨rfl, hb1⟩
    have hB1 := (alloc_below w (.cells #[.string s, .int .i64 n] 31)).trans (hb1.mono (by simp))
    have HB := Lib.hid hB1
    have x0 : w1.cell? ⟨w.heap.size, 0, none⟩ = some (.string s) := by rw [hb1.cell (p := ⟨w.heap.size, 0, none⟩) (by simp)]; simp [go_sem]
    have x1 : w1.cell? ⟨w.heap.size, 1, none⟩ = some (.int .i64 n) := by rw [hb1.cell (p := ⟨w.heap.size, 1, none⟩) (by simp)]; simp [go_sem]
    clear hb1 hB1
    go_wp2_with fail
    refine (find_nil s n _).mono ?_
    rintro e w2 ⟨rfl, hb2⟩
    have HB2 := Lib.hid (HB.out.trans (hb2.mono HB.out.size))
    clear hb2 x0 x1
    go_wp2_with (go_at_call 21; refine (room_nil _).mono ?_; rintro e w' ⟨rfl, rfl⟩)
    go_ret2
    exact ⟨rfl, HB2.out⟩
  · have hg : goodB s n = false := by simpa using hg
    go_enter Try.func8, Try.ntmps8
    go_wp2_with fail
    refine (good_any s n _ HS.out).mono ?_
    rintro e w1 ⟨rfl, hb1⟩
    have HB := Lib.hid ((alloc_below w (.cells #[.string s, .int .i64 n] 31)).trans (hb1.mono (by simp)))
    clear hb1
    go_wp2_with fail
    go_ret2
    exact ⟨rfl, HB.out⟩

set_option maxHeartbeats 1000000 in
theorem put_bad (s : ByteArray) (n : Int) (w : World) (hs : s.size ≤ maxLen) (hg : goodB s n = false) (p : Option Addr) :
    Calls Try.prog 8 #[.pointer p, .agg #[.string s, .int .i64 n]] w fun e w' => e = .returned (.tuple #[.int .i64 0, .int .i64 1]) ∧ Below w.heap.size w w' := by
  have HS := Lib.hid hs
  clear hs
  go_enter Try.func8, Try.ntmps8
  go_wp2_with fail
  refine (good_any s n _ HS.out).mono ?_
  rintro e w1 ⟨rfl, hb1⟩
  have HB := Lib.hid ((alloc_below w (.cells #[.string s, .int .i64 n] 31)).trans (hb1.mono (by simp)))
  clear hb1
  go_wp2_with fail
  go_ret2
  exact ⟨rfl, HB.out⟩

/-- Put up to where it is known whether the value is there. -/
theorem box_kept {w w1 : World} (s : ByteArray) (n : Int) (hb1 : Below (w.alloc (.cells #[.string s, .int .i64 n] 31)).heap.size (w.alloc (.cells #[.string s, .int .i64 n] 31)) w1) :
    Below w.heap.size w w1 ∧ w1.cell? ⟨w.heap.size, 0, none⟩ = some (.string s) ∧ w1.cell? ⟨w.heap.size, 1, none⟩ = some (.int .i64 n) ∧ w.heap.size < w1.heap.size := by
  refine ⟨(alloc_below w (.cells #[.string s, .int .i64 n] 31)).trans (hb1.mono (by simp)), ?_, ?_, ?_⟩
  · rw [hb1.cell (p := ⟨w.heap.size, 0, none⟩) (by simp)]; simp [go_sem]
  · rw [hb1.cell (p := ⟨w.heap.size, 1, none⟩) (by simp)]; simp [go_sem]
  · have := hb1.size; simp at this; omega

set_option maxHeartbeats 1000000 in
theorem put_in (s : ByteArray) (n : Int) (w : World) (hg : goodB s n = true) {pb bm : Nat} {sv : Value} {l : List Vl} (h : Pool w pb bm sv l) (ho : Ok (s, n)) (j : Nat) (hj : j < l.length) (e : l[j] = (s, n)) :
    Calls Try.prog 8 #[.pointer (some ⟨pb, 0, none⟩), .agg #[.string s, .int .i64 n]] w fun e w' => e = .returned (.tuple #[.int .i64 j, .int .i64 0]) ∧ Below w.heap.size w w' := by
  have HP := Lib.hid h
  have HO := Lib.hid ho
  have HE := Lib.hid e
  clear h ho e
  go_enter Try.func8, Try.ntmps8
  go_wp2_with fail
  refine (good_any s n _ HO.out.1).mono ?_
  rintro e w1 ⟨rfl, hb1⟩
  obtain ⟨hB, x0, x1, hz⟩ := box_kept s n hb1
  have HB := Lib.hid hB
  clear hb1 hB
  go_wp2_with fail
  refine (find_in_any s n _ (HP.out.below HB.out) HO.out j hj HE.out).mono ?_
  rintro e w2 ⟨rfl, hb2⟩
  have HB2 := Lib.hid (HB.out.trans (hb2.mono HB.out.size))
  clear hb2 x0 x1
  go_wp2_with fail
  go_ret2
  exact ⟨rfl, HB2.out⟩

set_option maxHeartbeats 1000000 in
theorem put_full (s : ByteArray) (n : Int) (w : World) (hg : goodB s n = true) {pb bm : Nat} {sv : Value} {l : List Vl} (h : Pool w pb bm sv l) (ho : Ok (s, n)) (hn : (s, n) ∉ l) (hf : l.length = 4096) :
    Calls Try.prog 8 #[.pointer (some ⟨pb, 0, none⟩), .agg #[.string s, .int .i64 n]] w fun e w' => e = .returned (.tuple #[.int .i64 0, .int .i64 3]) ∧ Below w.heap.size w w' := by
  have HP := Lib.hid h
  have HO := Lib.hid ho
  have HN := Lib.hid hn
  have hr : ∀ wx, Pool wx pb bm sv l → Calls Try.prog 21 #[.pointer (some ⟨pb, 0, none⟩)] wx fun e w' => e = .returned (.int .i64 0) ∧ wx = w' := fun wx hx => by
    have := room_any wx hx
    rw [show (4096 : Int) - l.length = 0 by omega] at this
    exact this
  have HR := Lib.hid hr
  clear h ho hn hf hr
  go_enter Try.func8, Try.ntmps8
  go_wp2_with fail
  refine (good_any s n _ HO.out.1).mono ?_
  rintro e w1 ⟨rfl, hb1⟩
  obtain ⟨hB, x0, x1, hz⟩ := box_kept s n hb1
  have HB := Lib.hid hB
  clear hb1 hB
  go_wp2_with fail
  refine (find_out_any s n _ (HP.out.below HB.out) HO.out HN.out).mono ?_
  rintro e w2 ⟨rfl, hb2⟩
  have HB2 := Lib.hid (HB.out.trans (hb2.mono HB.out.size))
  clear hb2 x0 x1
  go_wp2_with (go_at_call 21; refine (HR.out _ (HP.out.below HB2.out)).mono ?_; rintro e w' ⟨rfl, rfl⟩)
  go_ret2
  exact ⟨rfl, HB2.out⟩

set_option maxHeartbeats 1000000 in
theorem put_new (s : ByteArray) (n : Int) (w : World) (hg : goodB s n = true) {pb bm : Nat} {sv : Value} {l : List Vl} (h : Pool w pb bm sv l) (ho : Ok (s, n)) (hn : (s, n) ∉ l) (hf : l.length < 4096) :
    Calls Try.prog 8 #[.pointer (some ⟨pb, 0, none⟩), .agg #[.string s, .int .i64 n]] w fun e w' => e = .returned (.tuple #[.int .i64 l.length, .int .i64 0]) ∧ ∃ sv', Pool w' pb bm sv' (l ++ [(s, n)]) ∧ Turned w w' pb bm sv sv' := by
  have HP := Lib.hid h
  have HO := Lib.hid ho
  have HN := Lib.hid hn
  have hroom : ((4096 : Int) - l.length == 0) = false := by rw [beq_eq_false_iff_ne]; omega
  clear h ho hn
  go_enter Try.func8, Try.ntmps8
  go_wp2_with fail
  refine (good_any s n _ HO.out.1).mono ?_
  rintro e w1 ⟨rfl, hb1⟩
  obtain ⟨hB, x0, x1, hz⟩ := box_kept s n hb1
  have HB := Lib.hid hB
  clear hb1 hB
  go_wp2_with fail
  refine (find_out_any s n _ (HP.out.below HB.out) HO.out HN.out).mono ?_
  rintro e w2 ⟨rfl, hb2⟩
  have HB2 := Lib.hid (HB.out.trans (hb2.mono HB.out.size))
  have y0 : w2.cell? ⟨w.heap.size, 0, none⟩ = some (.string s) := by rw [hb2.cell (p := ⟨w.heap.size, 0, none⟩) (by simpa using hz)]; exact x0
  have y1 : w2.cell? ⟨w.heap.size, 1, none⟩ = some (.int .i64 n) := by rw [hb2.cell (p := ⟨w.heap.size, 1, none⟩) (by simpa using hz)]; exact x1
  clear hb2 x0 x1
  go_wp2_with (first
    | (go_at_call 21; refine (room_any _ (HP.out.below HB2.out)).mono ?_; rintro e w' ⟨rfl, rfl⟩)
    | (go_at_call 22; refine (add_any s n _ (HP.out.below HB2.out) HO.out HN.out hf).mono ?_; rintro e w3 ⟨rfl, sv', hp3, ht3⟩))
  go_ret2
  exact ⟨rfl, sv', hp3, (Turned.of_below pb bm sv HB2.out).trans ht3⟩

set_option maxHeartbeats 1000000 in
theorem clear_nil (w : World) : Calls Try.prog 17 #[.pointer none] w fun e w' => e = .returned (.tuple #[]) ∧ w = w' := by
  go_enter Try.func17, Try.ntmps17
  go_wp2_with fail
  refine bodyPost_ret (results_none rfl _ _ _) rfl ?_
  exact ⟨rfl, rfl⟩

theorem pool_cleared {w w2 : World} {pb bm : Nat} {sv : Value} {l : List Vl} (h : Pool w pb bm sv l) (hg2 : w.grownBy w2 (some bm)) (hm2 : MapOf w2 bm [] num) :
    Pool (w2.setCell ⟨pb, 1, none⟩ (.slice none 0 0)) pb bm (.slice none 0 0) [] ∧ Turned w (w2.setCell ⟨pb, 1, none⟩ (.slice none 0 0)) pb bm sv (.slice none 0 0) := by
  obtain ⟨c0, c1, f0, f1, _⟩ := kept_grown h hg2
  refine ⟨⟨?_, ?_, ?_, ?_, ?_, World.ownsRow_nil _ _ _ _, List.nodup_nil, fun v hv => by simp at hv, by simp [Value.ownBlock], by simp⟩, ⟨hg2.os, hg2.tape, hg2.output, ?_, ?_, ?_⟩⟩
  · rw [World.cell?_setCell_other (h := by simp)]; exact c0
  · exact World.cell?_setCell_same' _ _ _ (by rw [c1]; rfl)
  · rw [World.frozen?_setCell]; exact f0
  · rw [World.frozen?_setCell]; exact f1
  · obtain ⟨c, hm⟩ := hm2
    refine ⟨c, ?_⟩
    rw [Below.heap_setCell _ _ _ _ (by simpa using h.ne)]; exact hm
  · have := hg2.size; simp [World.setCell] at *; omega
  · intro b hb ho
    rw [Below.heap_setCell _ _ _ _ (by simpa using ho.1)]
    exact hg2.block b hb (fun e => ho.2.1 (Option.some.inj e))
  · intro g hg; simp [Value.ownBlock] at hg

set_option maxHeartbeats 1000000 in
theorem clear_any (w : World) {pb bm : Nat} {sv : Value} {l : List Vl} (h : Pool w pb bm sv l) :
    Calls Try.prog 17 #[.pointer (some ⟨pb, 0, none⟩)] w fun e w' => e = .returned (.tuple #[]) ∧ Pool w' pb bm (.slice none 0 0) [] ∧ Turned w w' pb bm sv (.slice none 0 0) := by
  obtain ⟨w2, hrun, hm2, hg2⟩ := clear_run (ty := 0) Try.underlying54 h.m
  obtain ⟨d0, d1, g0, g1, _⟩ := kept_grown h hg2
  have c0 := h.c0
  have hlt := h.lt
  have HP := Lib.hid (pool_cleared h hg2 hm2)
  clear h hm2 hg2
  go_enter Try.func17, Try.ntmps17
  go_wp2_with fail
  go_end0
  exact ⟨rfl, HP.out.1, HP.out.2⟩
end Go.Proofs.Ytdoadclblloddaa
