/-
  Joined of: PrsI.
-/
import Derived.Test.YtfmkfabbiifolaaGreatDoorJa10
set_option linter.unusedVariables false
set_option linter.unusedSimpArgs false
/-
  Contract: parser.said.
-/
namespace Go.Proofs.YtfmkfabbiifolaaGreatDoor
open Go.RowKit

/-- how a literal's reading ends -/
def LitPost (w : World) (pb : Nat) (s : ByteArray) (q : Option Addr) (c : Nat) (ts : List Tok) (R : Except (Int × Int) (Lq × Nat)) (e : Ending) (w' : World) : Prop := match R with
  | .ok (l, k) => ∃ q' c', e = .returned (Lp.agg ⟨l.kind, l.who, l.pred, q', c', l.args⟩) ∧ Tms w' w'.heap.size q' l.args ∧ (∀ b, q' = some b → w.heap.size ≤ b.block) ∧ Ps w' pb s q c ts k ∧ Only pb w w'
  | .error (n, p) => e = .panicked (faultV n p) ∧ Only pb w w'
theorem Bk.new2 (w : World) (o : Obj) (T : TypeId) (cs : Array Value) : Bk ((w.alloc o).alloc (.cells cs T)) (w.heap.size + 1) T cs := by
  have := Bk.new (w.alloc o) T cs
  simpa using this
theorem Bk.new1 (w : World) (o : Obj) (T : TypeId) (cs : Array Value) : Bk ((w.alloc (.cells cs T)).alloc o) w.heap.size T cs :=
  (Bk.new w T cs).on (below1 _ _)
theorem load6 {w : World} {b : Nat} {T : TypeId} {a0 a1 a2 a3 a4 a5 : Value} (h : Bk w b T #[a0, a1, a2, a3, a4, a5]) (u0 u1 u2 u3 u4 u5 : Value) :
    Bk ((((((w.setCell ⟨b, 0, none⟩ u0).setCell ⟨b, 1, none⟩ u1).setCell ⟨b, 2, none⟩ u2).setCell ⟨b, 3, none⟩ u3).setCell ⟨b, 4, none⟩ u4).setCell ⟨b, 5, none⟩ u5) b T #[u0, u1, u2, u3, u4, u5] :=
  (((((h.set 0 u0).set 1 u1).set 2 u2).set 3 u3).set 4 u4).set 5 u5
theorem set6 {w : World} {B b : Nat} (h : B ≤ b) (u0 u1 u2 u3 u4 u5 : Value) : Below B w ((((((w.setCell ⟨b, 0, none⟩ u0).setCell ⟨b, 1, none⟩ u1).setCell ⟨b, 2, none⟩ u2).setCell ⟨b, 3, none⟩ u3).setCell ⟨b, 4, none⟩ u4).setCell ⟨b, 5, none⟩ u5) :=
  ((((((Below.refl B w).setCell (p := ⟨b, 0, none⟩) h u0).setCell (p := ⟨b, 1, none⟩) h u1).setCell (p := ⟨b, 2, none⟩) h u2).setCell (p := ⟨b, 3, none⟩) h u3).setCell (p := ⟨b, 4, none⟩) h u4).setCell (p := ⟨b, 5, none⟩) h u5
theorem setB {w : World} {B b : Nat} (h : B ≤ b) (i : Nat) (u : Value) : Below B w (w.setCell ⟨b, i, none⟩ u) := (Below.refl B w).setCell (p := ⟨b, i, none⟩) h u
/-- an atom's reading, by its cases -/
theorem AtomPost.ok {w w' : World} {pb : Nat} {s : ByteArray} {q : Option Addr} {c : Nat} {ts : List Tok} {nm : ByteArray} {l : List Tm} {k : Nat} {e : Ending} (h : AtomPost w pb s q c ts (.ok ((nm, l), k)) e w') :
    ∃ q' c', e = .returned (.tuple #[.string nm, .slice q' l.length c']) ∧ Tms w' w'.heap.size q' l ∧ (∀ b, q' = some b → w.heap.size ≤ b.block) ∧ Ps w' pb s q c ts k ∧ Only pb w w' := h
theorem AtomPost.bad {w w' : World} {pb : Nat} {s : ByteArray} {q : Option Addr} {c : Nat} {ts : List Tok} {n p : Int} {e : Ending} (h : AtomPost w pb s q c ts (.error (n, p)) e w') : e = .panicked (faultV n p) ∧ Only pb w w' := h

/-- blocks from G on are as they were -/
def Above (G : Nat) (w w' : World) : Prop := ∀ g, G ≤ g → w'.heap[g]? = w.heap[g]?
theorem Above.refl (G : Nat) (w : World) : Above G w w := fun _ _ => rfl
theorem Above.set {G : Nat} {w w' : World} (h : Above G w w') {b : Nat} (hb : b < G) (i : Nat) (u : Value) : Above G w (w'.setCell ⟨b, i, none⟩ u) :=
  fun g hg => (Below.heap_setCell w' ⟨b, i, none⟩ u g (by show g ≠ b; omega)).trans (h g hg)
theorem rd_kept {α : Type} {enc : α → List Value} {k : Nat} {w w' : World} {B B' : Nat} {p : Option Addr} {l : List α} (h : Rd enc k w B p l) (hk : ∀ b, p = some b → w'.heap[b.block]? = w.heap[b.block]?) (hB : B ≤ B') : Rd enc k w' B' p l := by
  rcases h with h | ⟨b, off, rfl, hl, hc⟩
  · exact .inl h
  · refine .inr ⟨b, off, rfl, Nat.lt_of_lt_of_le hl hB, fun i hi r u hu => ?_⟩
    have := hk ⟨b, off, none⟩ rfl
    exact (show w'.cell? ⟨b, off + i * k + r, none⟩ = w.cell? ⟨b, off + i * k + r, none⟩ from World.cell?_of_block (w := w) this).trans (hc i hi r u hu)
theorem Above.rd {α : Type} {enc : α → List Value} {k : Nat} {G : Nat} {w w' : World} {B B' : Nat} {p : Option Addr} {l : List α} (h : Above G w w') (hr : Rd enc k w B p l) (hp : ∀ b, p = some b → G ≤ b.block) (hB : B ≤ B') : Rd enc k w' B' p l :=
  rd_kept hr (fun b hb => h _ (hp b hb)) hB
theorem Above.set6 {G : Nat} {w w' : World} (h : Above G w w') {b : Nat} (hb : b < G) (u0 u1 u2 u3 u4 u5 : Value) : Above G w ((((((w'.setCell ⟨b, 0, none⟩ u0).setCell ⟨b, 1, none⟩ u1).setCell ⟨b, 2, none⟩ u2).setCell ⟨b, 3, none⟩ u3).setCell ⟨b, 4, none⟩ u4).setCell ⟨b, 5, none⟩ u5) :=
  (((((h.set hb 0 u0).set hb 1 u1).set hb 2 u2).set hb 3 u3).set hb 4 u4).set hb 5 u5
/-- what a literal is once it is laid into its result -/
theorem lit_close {w w2 w3 W : World} {pb : Nat} {s : ByteArray} {q : Option Addr} {c : Nat} {ts : List Tok} {k' : Nat} {L : Lq} {q' : Option Addr} {c' : Nat} {G : Nat} (hb : Below w.heap.size w3 W) (ha : Above G w3 W) (hG : G ≤ w2.heap.size) (hG2 : w.heap.size ≤ G) (hpb : pb < w.heap.size) (ho2 : Only pb w w2) (ht3 : Tms w3 w3.heap.size q' L.args) (hf3 : ∀ b, q' = some b → w2.heap.size ≤ b.block) (hp3 : Ps w3 pb s q c ts k') (ho3 : Only pb w2 w3) :
    LitPost w pb s q c ts (.ok (L, k')) (.returned (Lp.agg ⟨L.kind, L.who, L.pred, q', c', L.args⟩)) W :=
  ⟨q', c', rfl, ha.rd ht3 (fun b hb => Nat.le_trans hG (hf3 b hb)) hb.size, fun b hb => Nat.le_trans hG2 (Nat.le_trans hG (hf3 b hb)), hp3.on' (hb.mono (by omega)), (ho2.trans ho3).add hb⟩

set_option maxHeartbeats 8000000 in
set_option maxRecDepth 100000 in
theorem psaid_bare (w : World) (pb : Nat) (s : ByteArray) (q : Option Addr) (c : Nat) (ts : List Tok) (k : Nat) (kd : Int) (h : Ps w pb s q c ts k) (hs : ¬ (kindAt ts k = 2 ∨ (kindAt ts k = 1 ∧ textAt s ts (k + 1) = wdSays))) :
    Calls Tryz.prog 89 #[.pointer (some ⟨pb, 0, none⟩), .int .u8 kd] w (LitPost w pb s q c ts (saidR s ts kd k)) := by
  have HR := Lib.hid (show saidR s ts kd k = match atomR s ts k with
      | .error e => .error e
      | .ok (a, k') => .ok (⟨kd, tmZ, a.1, a.2⟩, k') by unfold saidR; rw [if_neg hs]; cases atomR s ts k <;> rfl)
  generalize saidR s ts kd k = R at *
  have HP := Lib.hid h
  have hpb := h.lt
  have HB := Lib.hid (below2 w)
  have HK := Lib.hid (show ∀ wx, Ps wx pb s q c ts k → Calls Tryz.prog 118 #[.pointer (some ⟨pb, 0, none⟩)] wx fun e w' => e = .returned (.int .u8 (kindAt ts k)) ∧ Below wx.heap.size wx w' from fun wx hx => pkind_any wx pb s q c ts k hx)
  have HS := Lib.hid (show ∀ wx, Ps wx pb s q c ts k → Calls Tryz.prog 119 #[.pointer (some ⟨pb, 0, none⟩), .int .i64 1] wx fun e w' => e = .returned (.string (textAt s ts (k + 1))) ∧ Below wx.heap.size wx w' from fun wx hx => spelt_any wx pb s q c ts k 1 hx (by omega))
  have HA := Lib.hid (show ∀ wx, Ps wx pb s q c ts k → Calls Tryz.prog 110 #[.pointer (some ⟨pb, 0, none⟩)] wx (AtomPost wx pb s q c ts (atomR s ts k)) from fun wx hx => atom_any wx pb s q c ts k hx)
  have g2 : (kindAt ts k == 2) = false := by simp; exact fun e => hs (.inl e)
  have hq1 : kindAt ts k = 1 → ((textAt s ts (k + 1)).toList == [115, 97, 121, 115]) = false := fun e => by
    rw [beq_eq_false_iff_ne]; intro he
    rw [ByteArray.toList_eq] at he
    exact hs (.inr ⟨e, by rcases hy : textAt s ts (k + 1) with ⟨⟨a⟩⟩; rw [hy] at he; cases he; rfl⟩)
  generalize kindAt ts k = kk at *
  generalize textAt s ts (k + 1) = x1 at *
  clear h hs
  cases hA : atomR s ts k with
  | error np =>
    obtain ⟨n, p⟩ := np
    rw [hA] at HR HA
    obtain rfl : R = .error (n, p) := HR.out
    clear HR hA
    cases g1 : (kk == 1) with
    | false =>
      clear hq1 HS
      go_enter Tryz.func89, Tryz.ntmps89
      go_wp2_with (first
        | (go_at_call 118; refine (HK.out _ (HP.out.on (HB.out _ _))).mono ?_; rintro e w1 ⟨rfl, hb1⟩; have HB1 := Lib.hid ((HB.out _ _).trans (hb1.mono (HB.out _ _).size)); clear hb1)
        | (go_at_call 118; refine (HK.out _ (HP.out.on HB1.out)).mono ?_; rintro e w2 ⟨rfl, hb2⟩; have HB2 := Lib.hid (HB1.out.trans (hb2.mono HB1.out.size)); clear hb2)
        | (go_at_call 110; refine (HA.out _ (HP.out.on HB2.out)).mono ?_; intro e w3 h3; obtain ⟨rfl, ho3⟩ := h3.bad))
      exact ⟨rfl, rfl, (Only.of HB2.out).trans ho3⟩
    | true =>
      have hq := hq1 (by simpa using g1)
      clear hq1
      go_enter Tryz.func89, Tryz.ntmps89
      go_wp2_with (first
        | (go_at_call 118; refine (HK.out _ (HP.out.on (HB.out _ _))).mono ?_; rintro e w1 ⟨rfl, hb1⟩; have HB1 := Lib.hid ((HB.out _ _).trans (hb1.mono (HB.out _ _).size)); clear hb1)
        | (go_at_call 118; refine (HK.out _ (HP.out.on HB1.out)).mono ?_; rintro e w2 ⟨rfl, hb2⟩; have HB2 := Lib.hid (HB1.out.trans (hb2.mono HB1.out.size)); clear hb2)
        | (go_at_call 119; refine (HS.out _ (HP.out.on HB2.out)).mono ?_; rintro e w3 ⟨rfl, hb3⟩; have HB3 := Lib.hid (HB2.out.trans (hb3.mono HB2.out.size)); clear hb3)
        | (go_at_call 110; refine (HA.out _ (HP.out.on HB3.out)).mono ?_; intro e w4 h4; obtain ⟨rfl, ho4⟩ := h4.bad))
      exact ⟨rfl, rfl, (Only.of HB3.out).trans ho4⟩
  | ok a =>
    obtain ⟨⟨nm, l⟩, k'⟩ := a
    rw [hA] at HR HA
    obtain rfl : R = .ok (⟨kd, tmZ, nm, l⟩, k') := HR.out
    clear HR hA
    cases g1 : (kk == 1) with
    | false =>
      clear hq1 HS
      go_enter Tryz.func89, Tryz.ntmps89
      go_wp2_with (first
        | (go_at_call 118; refine (HK.out _ (HP.out.on (HB.out _ _))).mono ?_; rintro e w1 ⟨rfl, hb1⟩; have HB1 := Lib.hid ((HB.out _ _).trans (hb1.mono (HB.out _ _).size)); have HL1 := Lib.hid ((Bk.new2 w _ _ _).on hb1); have HZ1 := Lib.hid ((Bk.new1 w _ _ _).on hb1); clear hb1)
        | (go_at_call 118; refine (HK.out _ (HP.out.on HB1.out)).mono ?_; rintro e w2 ⟨rfl, hb2⟩; have HB2 := Lib.hid (HB1.out.trans (hb2.mono HB1.out.size)); have HL2 := Lib.hid (HL1.out.on hb2); have HZ2 := Lib.hid (HZ1.out.on hb2); clear hb2)
        | (go_at_call 110; refine (HA.out _ (HP.out.on HB2.out)).mono ?_; intro e w3 h3; obtain ⟨q', c', rfl, ht3, hf3, hp3, ho3⟩ := h3.ok; have HT3 := Lib.hid ht3; have HF3 := Lib.hid hf3; have HP3 := Lib.hid hp3; have HO3 := Lib.hid ho3; have HL3 := Lib.hid (HL2.out.only ho3 (by omega)); have HZ3 := Lib.hid (HZ2.out.only ho3 (by omega)); obtain ⟨d0, d1, d2, d3, d4, d5⟩ := ((HL3.out.set 4 (.string nm)).set 5 (.slice q' l.length c')).six; obtain ⟨e0, e1, e2, e3, e4, e5⟩ := HL3.out.six; have e5' := ((HL3.out.set 4 (.string nm))).cell 5 _ rfl; obtain ⟨r0, r1, r2, r3, r4, r5⟩ := ((HZ3.out.other (b' := w.heap.size + 1) (by omega) 4 (.string nm)).other (b' := w.heap.size + 1) (by omega) 5 (.slice q' l.length c')).six; obtain ⟨z0, z1, z2, z3, z4, z5, z6⟩ := HZ3.out.softs; obtain ⟨f0, f1, f2, f3, f4, f5, f6⟩ := HL3.out.softs; clear ht3 hf3 hp3 ho3))
      obtain ⟨y0, y1, y2, y3, y4, y5⟩ := (load6 ((HZ3.out.other (b' := w.heap.size + 1) (by omega) 4 (.string nm)).other (b' := w.heap.size + 1) (by omega) 5 (.slice q' l.length c')) (.int .u8 kd) (.string ⟨#[]⟩) (.string ⟨#[]⟩) (.int .i64 0) (.string nm) (.slice q' l.length c')).six
      have hlt := HL2.out.lt
      refine bodyPost_ret (v := Lp.agg ⟨kd, tmZ, nm, q', c', l⟩) ?_ rfl ?_
      · simp [results, Tryz.results89, go_sem, y0, y1, y2, y3, y4, y5, Lp.agg, tmZ]
      · exact lit_close (w2 := w2) (w3 := w3) (G := w.heap.size + 2) (L := ⟨kd, tmZ, nm, l⟩) (((setB (by omega) 4 _).trans (setB (by omega) 5 _)).trans (set6 (Nat.le_refl _) _ _ _ _ _ _)) ((((Above.refl _ _).set (by omega) 4 _).set (by omega) 5 _).set6 (by omega) _ _ _ _ _ _) (by omega) (by omega) hpb (Only.of HB2.out) HT3.out HF3.out HP3.out HO3.out
    | true =>
      have hq := hq1 (by simpa using g1)
      clear hq1
      go_enter Tryz.func89, Tryz.ntmps89
      go_wp2_with (first
        | (go_at_call 118; refine (HK.out _ (HP.out.on (HB.out _ _))).mono ?_; rintro e w1 ⟨rfl, hb1⟩; have HB1 := Lib.hid ((HB.out _ _).trans (hb1.mono (HB.out _ _).size)); have HL1 := Lib.hid ((Bk.new2 w _ _ _).on hb1); have HZ1 := Lib.hid ((Bk.new1 w _ _ _).on hb1); clear hb1)
        | (go_at_call 118; refine (HK.out _ (HP.out.on HB1.out)).mono ?_; rintro e w2 ⟨rfl, hb2⟩; have HB2 := Lib.hid (HB1.out.trans (hb2.mono HB1.out.size)); have HL2 := Lib.hid (HL1.out.on hb2); have HZ2 := Lib.hid (HZ1.out.on hb2); clear hb2)
        | (go_at_call 119; refine (HS.out _ (HP.out.on HB2.out)).mono ?_; rintro e w3 ⟨rfl, hb3⟩; have HB3 := Lib.hid (HB2.out.trans (hb3.mono HB2.out.size)); have HL3 := Lib.hid (HL2.out.on hb3); have HZ3 := Lib.hid (HZ2.out.on hb3); clear hb3)
        | (go_at_call 110; refine (HA.out _ (HP.out.on HB3.out)).mono ?_; intro e w4 h4; obtain ⟨q', c', rfl, ht4, hf4, hp4, ho4⟩ := h4.ok; have HT4 := Lib.hid ht4; have HF4 := Lib.hid hf4; have HP4 := Lib.hid hp4; have HO4 := Lib.hid ho4; have HL4 := Lib.hid (HL3.out.only ho4 (by omega)); have HZ4 := Lib.hid (HZ3.out.only ho4 (by omega)); obtain ⟨d0, d1, d2, d3, d4, d5⟩ := ((HL4.out.set 4 (.string nm)).set 5 (.slice q' l.length c')).six; obtain ⟨e0, e1, e2, e3, e4, e5⟩ := HL4.out.six; have e5' := ((HL4.out.set 4 (.string nm))).cell 5 _ rfl; obtain ⟨r0, r1, r2, r3, r4, r5⟩ := ((HZ4.out.other (b' := w.heap.size + 1) (by omega) 4 (.string nm)).other (b' := w.heap.size + 1) (by omega) 5 (.slice q' l.length c')).six; obtain ⟨z0, z1, z2, z3, z4, z5, z6⟩ := HZ4.out.softs; obtain ⟨f0, f1, f2, f3, f4, f5, f6⟩ := HL4.out.softs; clear ht4 hf4 hp4 ho4))
      obtain ⟨y0, y1, y2, y3, y4, y5⟩ := (load6 ((HZ4.out.other (b' := w.heap.size + 1) (by omega) 4 (.string nm)).other (b' := w.heap.size + 1) (by omega) 5 (.slice q' l.length c')) (.int .u8 kd) (.string ⟨#[]⟩) (.string ⟨#[]⟩) (.int .i64 0) (.string nm) (.slice q' l.length c')).six
      have hlt := HL3.out.lt
      refine bodyPost_ret (v := Lp.agg ⟨kd, tmZ, nm, q', c', l⟩) ?_ rfl ?_
      · simp [results, Tryz.results89, go_sem, y0, y1, y2, y3, y4, y5, Lp.agg, tmZ]
      · exact lit_close (w2 := w3) (w3 := w4) (G := w.heap.size + 2) (L := ⟨kd, tmZ, nm, l⟩) (((setB (by omega) 4 _).trans (setB (by omega) 5 _)).trans (set6 (Nat.le_refl _) _ _ _ _ _ _)) ((((Above.refl _ _).set (by omega) 4 _).set (by omega) 5 _).set6 (by omega) _ _ _ _ _ _) (by omega) (by omega) hpb (Only.of HB3.out) HT4.out HF4.out HP4.out HO4.out

theorem AtomPost.sum {w w' : World} {pb : Nat} {s : ByteArray} {q : Option Addr} {c : Nat} {ts : List Tok} {R : Except (Int × Int) ((ByteArray × List Tm) × Nat)} {e : Ending} (h : AtomPost w pb s q c ts R e w') :
    (∃ n p, R = .error (n, p) ∧ e = .panicked (faultV n p) ∧ Only pb w w') ∨
    (∃ nm l k q' c', R = .ok ((nm, l), k) ∧ e = .returned (.tuple #[.string nm, .slice q' l.length c']) ∧ Tms w' w'.heap.size q' l ∧ (∀ b, q' = some b → w.heap.size ≤ b.block) ∧ Ps w' pb s q c ts k ∧ Only pb w w') := by
  match R, h with
  | .error (n, p), h => exact .inl ⟨n, p, rfl, h⟩
  | .ok ((nm, l), k), ⟨q', c', h⟩ => exact .inr ⟨nm, l, k, q', c', rfl, h⟩
theorem want_any (w : World) (pb : Nat) (s : ByteArray) (q : Option Addr) (c : Nat) (ts : List Tok) (k : Nat) (x : ByteArray) (h : Ps w pb s q c ts k) (hx : x ≠ ⟨#[]⟩) :
    Calls Tryz.prog 115 #[.pointer (some ⟨pb, 0, none⟩), .string x] w fun e w' =>
      (e = .panicked (faultV 6 (placeAt s ts k)) ∧ textAt s ts k ≠ x ∧ Only pb w w') ∨ (e = .returned (.tuple #[]) ∧ textAt s ts k = x ∧ Ps w' pb s q c ts (k + 1) ∧ Only pb w w') := by
  by_cases ht : textAt s ts k = x
  · exact (want_yes w pb s q c ts k x h ht (text_lt ht hx)).mono fun e w' ⟨he, hp, ho⟩ => .inr ⟨he, ht, hp, ho⟩
  · exact (want_no w pb s q c ts k x h ht).mono fun e w' ⟨he, hb⟩ => .inl ⟨he, ht, Only.of hb⟩
theorem set3o {w : World} {B b : Nat} (h : B ≤ b) (u v t : Value) : Below B w (((w.setCell ⟨b, 1, none⟩ u).setCell ⟨b, 2, none⟩ v).setCell ⟨b, 3, none⟩ t) :=
  (((Below.refl B w).setCell (p := ⟨b, 1, none⟩) h u).setCell (p := ⟨b, 2, none⟩) h v).setCell (p := ⟨b, 3, none⟩) h t

set_option maxHeartbeats 8000000 in
set_option maxRecDepth 100000 in
theorem psaid_who (w : World) (pb : Nat) (s : ByteArray) (q : Option Addr) (c : Nat) (ts : List Tok) (k : Nat) (kd : Int) (h : Ps w pb s q c ts k) (hs : kindAt ts k = 2 ∨ (kindAt ts k = 1 ∧ textAt s ts (k + 1) = wdSays)) :
    Calls Tryz.prog 89 #[.pointer (some ⟨pb, 0, none⟩), .int .u8 kd] w (LitPost w pb s q c ts (saidR s ts kd k)) := by
  have hT : isT ts k = true := by simp [isT]; rcases hs with h | h <;> omega
  have HR := Lib.hid (show saidR s ts kd k = if textAt s ts (k + 1) = wdSays then
      match atomR s ts (k + 2) with
      | .error e => .error e
      | .ok (a, k') => .ok (⟨kd, termR s ts k, a.1, a.2⟩, k')
    else .error (6, placeAt s ts (k + 1)) by unfold saidR; rw [if_pos hs]; cases atomR s ts (k + 2) <;> rfl)
  generalize saidR s ts kd k = R at *
  have HP := Lib.hid h
  have hpb := h.lt
  have HB := Lib.hid (below2 w)
  have HK := Lib.hid (show ∀ wx, Ps wx pb s q c ts k → Calls Tryz.prog 118 #[.pointer (some ⟨pb, 0, none⟩)] wx fun e w' => e = .returned (.int .u8 (kindAt ts k)) ∧ Below wx.heap.size wx w' from fun wx hx => pkind_any wx pb s q c ts k hx)
  have HS := Lib.hid (show ∀ wx, Ps wx pb s q c ts k → Calls Tryz.prog 119 #[.pointer (some ⟨pb, 0, none⟩), .int .i64 1] wx fun e w' => e = .returned (.string (textAt s ts (k + 1))) ∧ Below wx.heap.size wx w' from fun wx hx => spelt_any wx pb s q c ts k 1 hx (by omega))
  have HT := Lib.hid (show ∀ wx, Ps wx pb s q c ts k → Calls Tryz.prog 120 #[.pointer (some ⟨pb, 0, none⟩)] wx fun e w' => e = .returned (.agg #[.string (termR s ts k).v, .string (termR s ts k).s, .int .i64 (termR s ts k).n]) ∧ Ps w' pb s q c ts (k + 1) ∧ Only pb wx w' from fun wx hx => term_yes wx pb s q c ts k hx hT)
  have HW := Lib.hid (show ∀ wx, Ps wx pb s q c ts (k + 1) → Calls Tryz.prog 115 #[.pointer (some ⟨pb, 0, none⟩), .string ⟨#[115, 97, 121, 115]⟩] wx fun e w' =>
      (e = .panicked (faultV 6 (placeAt s ts (k + 1))) ∧ textAt s ts (k + 1) ≠ wdSays ∧ Only pb wx w') ∨ (e = .returned (.tuple #[]) ∧ textAt s ts (k + 1) = wdSays ∧ Ps w' pb s q c ts (k + 2) ∧ Only pb wx w') from fun wx hx => want_any wx pb s q c ts (k + 1) _ hx (by decide))
  have HA := Lib.hid (show ∀ wx, Ps wx pb s q c ts (k + 2) → Calls Tryz.prog 110 #[.pointer (some ⟨pb, 0, none⟩)] wx (AtomPost wx pb s q c ts (atomR s ts (k + 2))) from fun wx hx => atom_any wx pb s q c ts (k + 2) hx)
  generalize termR s ts k = t at *
  obtain ⟨tv, tsy, tn⟩ := t
  have hq1 : kindAt ts k ≠ 2 → kindAt ts k = 1 ∧ textAt s ts (k + 1) = wdSays := fun e => hs.resolve_left e
  generalize kindAt ts k = kk at *
  clear h hs hT
  by_cases h2 : kk = 2
  · subst h2
    clear hq1 HS
    go_enter Tryz.func89, Tryz.ntmps89
    go_wp2_with (first
      | (go_at_call 118; refine (HK.out _ (HP.out.on (HB.out _ _))).mono ?_; rintro e w2 ⟨rfl, hb2⟩; have HB2 := Lib.hid ((HB.out _ _).trans (hb2.mono (HB.out _ _).size)); have HL2 := Lib.hid ((Bk.new2 w _ _ _).on hb2); have HZ2 := Lib.hid ((Bk.new1 w _ _ _).on hb2); clear hb2)
      | (go_at_call 120; refine (HT.out _ (HP.out.on HB2.out)).mono ?_; rintro e w3 ⟨rfl, hp3, ho3⟩; have HP3 := Lib.hid hp3; have HO3 := Lib.hid ((Only.of HB2.out).trans ho3); have HL3 := Lib.hid (HL2.out.only ho3 (by omega)); have HZ3 := Lib.hid (HZ2.out.only ho3 (by omega)); obtain ⟨e0, e1, e2, e3, e4, e5⟩ := HL3.out.six; obtain ⟨f0, f1, f2, f3, f4, f5, f6⟩ := HL3.out.softs; have g2 := (HL3.out.set 1 (.string tv)).cell 2 _ rfl; have g3 := ((HL3.out.set 1 (.string tv)).set 2 (.string tsy)).cell 3 _ rfl; clear hp3 ho3)
      | (go_at_call 115; refine (HW.out _ (HP3.out.on' (set3o (by omega) _ _ _))).mono ?_; rintro e w4 (⟨rfl, hn, ho4⟩ | ⟨rfl, hy, hp4, ho4⟩); (exact ⟨rfl, by rw [HR.out, if_neg hn]; exact ⟨rfl, (HO3.out.add (set3o (by omega) _ _ _)).trans ho4⟩⟩); have HR4 := Lib.hid (HR.out.trans (if_pos hy)); have HP4 := Lib.hid hp4; have HO4 := Lib.hid ((HO3.out.add (set3o (by omega) _ _ _)).trans ho4); have HL4 := Lib.hid ((((HL3.out.set 1 (.string tv)).set 2 (.string tsy)).set 3 (.int .i64 tn)).only ho4 (by omega)); have HZ4 := Lib.hid ((((HZ3.out.other (b' := w.heap.size + 1) (by omega) 1 (.string tv)).other (b' := w.heap.size + 1) (by omega) 2 (.string tsy)).other (b' := w.heap.size + 1) (by omega) 3 (.int .i64 tn)).only ho4 (by omega)); clear hp4 ho4 hy)
      | (go_at_call 110; refine (HA.out _ HP4.out).mono ?_; intro e w5 h5; rcases h5.sum with ⟨n, p, hR5, rfl, ho5⟩ | ⟨nm, l, k', q', c', hR5, rfl, ht5, hf5, hp5, ho5⟩; (exact ⟨rfl, by rw [HR4.out, hR5]; exact ⟨rfl, HO4.out.trans ho5⟩⟩); have HR5 := Lib.hid (show R = .ok (⟨kd, ⟨tv, tsy, tn⟩, nm, l⟩, k') by rw [HR4.out, hR5]); have HT5 := Lib.hid ht5; have HF5 := Lib.hid hf5; have HP5 := Lib.hid hp5; have HO5 := Lib.hid ho5; have HL5 := Lib.hid (HL4.out.only ho5 (by omega)); have HZ5 := Lib.hid (HZ4.out.only ho5 (by omega)); obtain ⟨d0, d1, d2, d3, d4, d5⟩ := ((HL5.out.set 4 (.string nm)).set 5 (.slice q' l.length c')).six; obtain ⟨i0, i1, i2, i3, i4, i5⟩ := HL5.out.six; have i5' := ((HL5.out.set 4 (.string nm))).cell 5 _ rfl; obtain ⟨r0, r1, r2, r3, r4, r5⟩ := ((HZ5.out.other (b' := w.heap.size + 1) (by omega) 4 (.string nm)).other (b' := w.heap.size + 1) (by omega) 5 (.slice q' l.length c')).six; obtain ⟨z0, z1, z2, z3, z4, z5, z6⟩ := HZ5.out.softs; obtain ⟨j0, j1, j2, j3, j4, j5, j6⟩ := HL5.out.softs; clear h5 ht5 hf5 hp5 ho5 hR5))
    obtain ⟨y0, y1, y2, y3, y4, y5⟩ := (load6 ((HZ5.out.other (b' := w.heap.size + 1) (by omega) 4 (.string nm)).other (b' := w.heap.size + 1) (by omega) 5 (.slice q' l.length c')) (.int .u8 kd) (.string tv) (.string tsy) (.int .i64 tn) (.string nm) (.slice q' l.length c')).six
    have hlt := HL4.out.lt
    refine bodyPost_ret (v := Lp.agg ⟨kd, ⟨tv, tsy, tn⟩, nm, q', c', l⟩) ?_ rfl ?_
    · simp [results, Tryz.results89, go_sem, y0, y1, y2, y3, y4, y5, Lp.agg]
    · rw [HR5.out]
      exact lit_close (w2 := w4) (w3 := w5) (G := w.heap.size + 2) (L := ⟨kd, ⟨tv, tsy, tn⟩, nm, l⟩) (((setB (by omega) 4 _).trans (setB (by omega) 5 _)).trans (set6 (Nat.le_refl _) _ _ _ _ _ _)) ((((Above.refl _ _).set (by omega) 4 _).set (by omega) 5 _).set6 (by omega) _ _ _ _ _ _) (by omega) (by omega) hpb HO4.out HT5.out HF5.out HP5.out HO5.out
  · obtain ⟨h1, hsy⟩ := hq1 h2
    subst h1
    have HSY := Lib.hid hsy
    have HS2 := Lib.hid (show ∀ wx, Ps wx pb s q c ts k → Calls Tryz.prog 119 #[.pointer (some ⟨pb, 0, none⟩), .int .i64 1] wx fun e w' => e = .returned (.string ⟨#[115, 97, 121, 115]⟩) ∧ Below wx.heap.size wx w' from fun wx hx => (HS.out wx hx).mono fun e w' ⟨he, hb⟩ => ⟨by rw [he, hsy]; rfl, hb⟩)
    clear hq1 h2 hsy HS
    go_enter Tryz.func89, Tryz.ntmps89
    go_wp2_with (first
      | (go_at_call 118; refine (HK.out _ (HP.out.on (HB.out _ _))).mono ?_; rintro e w0 ⟨rfl, hb0⟩; have HB0 := Lib.hid ((HB.out _ _).trans (hb0.mono (HB.out _ _).size)); have HL0 := Lib.hid ((Bk.new2 w _ _ _).on hb0); have HZ0 := Lib.hid ((Bk.new1 w _ _ _).on hb0); clear hb0)
      | (go_at_call 118; refine (HK.out _ (HP.out.on HB0.out)).mono ?_; rintro e w1 ⟨rfl, hb1⟩; have HB1 := Lib.hid (HB0.out.trans (hb1.mono HB0.out.size)); have HL1 := Lib.hid (HL0.out.on hb1); have HZ1 := Lib.hid (HZ0.out.on hb1); clear hb1)
      | (go_at_call 119; refine (HS2.out _ (HP.out.on HB1.out)).mono ?_; rintro e w2 ⟨rfl, hb2⟩; have HB2 := Lib.hid (HB1.out.trans (hb2.mono HB1.out.size)); have HL2 := Lib.hid (HL1.out.on hb2); have HZ2 := Lib.hid (HZ1.out.on hb2); clear hb2)
      | (go_at_call 120; refine (HT.out _ (HP.out.on HB2.out)).mono ?_; rintro e w3 ⟨rfl, hp3, ho3⟩; have HP3 := Lib.hid hp3; have HO3 := Lib.hid ((Only.of HB2.out).trans ho3); have HL3 := Lib.hid (HL2.out.only ho3 (by omega)); have HZ3 := Lib.hid (HZ2.out.only ho3 (by omega)); obtain ⟨e0, e1, e2, e3, e4, e5⟩ := HL3.out.six; obtain ⟨f0, f1, f2, f3, f4, f5, f6⟩ := HL3.out.softs; have g2 := (HL3.out.set 1 (.string tv)).cell 2 _ rfl; have g3 := ((HL3.out.set 1 (.string tv)).set 2 (.string tsy)).cell 3 _ rfl; clear hp3 ho3)
      | (go_at_call 115; refine (HW.out _ (HP3.out.on' (set3o (by omega) _ _ _))).mono ?_; rintro e w4 (⟨rfl, hn, ho4⟩ | ⟨rfl, hy, hp4, ho4⟩); (exact absurd HSY.out hn); have HR4 := Lib.hid (HR.out.trans (if_pos hy)); have HP4 := Lib.hid hp4; have HO4 := Lib.hid ((HO3.out.add (set3o (by omega) _ _ _)).trans ho4); have HL4 := Lib.hid ((((HL3.out.set 1 (.string tv)).set 2 (.string tsy)).set 3 (.int .i64 tn)).only ho4 (by omega)); have HZ4 := Lib.hid ((((HZ3.out.other (b' := w.heap.size + 1) (by omega) 1 (.string tv)).other (b' := w.heap.size + 1) (by omega) 2 (.string tsy)).other (b' := w.heap.size + 1) (by omega) 3 (.int .i64 tn)).only ho4 (by omega)); clear hp4 ho4 hy)
      | (go_at_call 110; refine (HA.out _ HP4.out).mono ?_; intro e w5 h5; rcases h5.sum with ⟨n, p, hR5, rfl, ho5⟩ | ⟨nm, l, k', q', c', hR5, rfl, ht5, hf5, hp5, ho5⟩; (exact ⟨rfl, by rw [HR4.out, hR5]; exact ⟨rfl, HO4.out.trans ho5⟩⟩); have HR5 := Lib.hid (show R = .ok (⟨kd, ⟨tv, tsy, tn⟩, nm, l⟩, k') by rw [HR4.out, hR5]); have HT5 := Lib.hid ht5; have HF5 := Lib.hid hf5; have HP5 := Lib.hid hp5; have HO5 := Lib.hid ho5; have HL5 := Lib.hid (HL4.out.only ho5 (by omega)); have HZ5 := Lib.hid (HZ4.out.only ho5 (by omega)); obtain ⟨d0, d1, d2, d3, d4, d5⟩ := ((HL5.out.set 4 (.string nm)).set 5 (.slice q' l.length c')).six; obtain ⟨i0, i1, i2, i3, i4, i5⟩ := HL5.out.six; have i5' := ((HL5.out.set 4 (.string nm))).cell 5 _ rfl; obtain ⟨r0, r1, r2, r3, r4, r5⟩ := ((HZ5.out.other (b' := w.heap.size + 1) (by omega) 4 (.string nm)).other (b' := w.heap.size + 1) (by omega) 5 (.slice q' l.length c')).six; obtain ⟨z0, z1, z2, z3, z4, z5, z6⟩ := HZ5.out.softs; obtain ⟨j0, j1, j2, j3, j4, j5, j6⟩ := HL5.out.softs; clear h5 ht5 hf5 hp5 ho5 hR5))
    obtain ⟨y0, y1, y2, y3, y4, y5⟩ := (load6 ((HZ5.out.other (b' := w.heap.size + 1) (by omega) 4 (.string nm)).other (b' := w.heap.size + 1) (by omega) 5 (.slice q' l.length c')) (.int .u8 kd) (.string tv) (.string tsy) (.int .i64 tn) (.string nm) (.slice q' l.length c')).six
    have hlt := HL4.out.lt
    refine bodyPost_ret (v := Lp.agg ⟨kd, ⟨tv, tsy, tn⟩, nm, q', c', l⟩) ?_ rfl ?_
    · simp [results, Tryz.results89, go_sem, y0, y1, y2, y3, y4, y5, Lp.agg]
    · rw [HR5.out]
      exact lit_close (w2 := w4) (w3 := w5) (G := w.heap.size + 2) (L := ⟨kd, ⟨tv, tsy, tn⟩, nm, l⟩) (((setB (by omega) 4 _).trans (setB (by omega) 5 _)).trans (set6 (Nat.le_refl _) _ _ _ _ _ _)) ((((Above.refl _ _).set (by omega) 4 _).set (by omega) 5 _).set6 (by omega) _ _ _ _ _ _) (by omega) (by omega) hpb HO4.out HT5.out HF5.out HP5.out HO5.out
theorem psaid_any (w : World) (pb : Nat) (s : ByteArray) (q : Option Addr) (c : Nat) (ts : List Tok) (k : Nat) (kd : Int) (h : Ps w pb s q c ts k) :
    Calls Tryz.prog 89 #[.pointer (some ⟨pb, 0, none⟩), .int .u8 kd] w (LitPost w pb s q c ts (saidR s ts kd k)) := by
  by_cases hs : kindAt ts k = 2 ∨ (kindAt ts k = 1 ∧ textAt s ts (k + 1) = wdSays)
  · exact psaid_who w pb s q c ts k kd h hs
  · exact psaid_bare w pb s q c ts k kd h hs
end Go.Proofs.YtfmkfabbiifolaaGreatDoor
