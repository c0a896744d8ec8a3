/-
  Joined of: PrsE, PrsF, PrsG.
-/
import Derived.Test.YtfmkfabbiifolaaGreatDoorJa08
import Derived.RangeFuncBox
set_option linter.unusedVariables false
set_option linter.unusedSimpArgs false
/-
  Contract: parser.term.
-/
namespace Go.Proofs.YtfmkfabbiifolaaGreatDoor
open Go.RowKit

/-- the value that a text is read as, the number 0 where it is none -/
def readP (s : ByteArray) : ByteArray × Int := if nameB s = true then (s, 0) else match readN s with
  | some v => (⟨#[]⟩, v)
  | none => (⟨#[]⟩, 0)
theorem readP_eq (s : ByteArray) : ∃ b, readV s = .tuple #[.agg #[.string (readP s).1, .int .i64 (readP s).2], .bool b] := by
  unfold readV readP
  split
  · exact ⟨_, rfl⟩
  · cases hn : readN s <;> exact ⟨_, rfl⟩
theorem kindAt_lt {ts : List Tok} {k : Nat} (h : kindAt ts k ≠ 0) : k < ts.length := by
  rcases Nat.lt_or_ge k ts.length with h' | h'
  · exact h'
  · unfold kindAt at h; rw [List.getElem?_eq_none h'] at h; exact absurd rfl h
theorem textAt_size {s : ByteArray} (ts : List Tok) (k : Nat) (h : s.size ≤ 4096) : (textAt s ts k).size ≤ 4096 := by
  unfold textAt
  split
  · rw [ByteArray.size_extract]; omega
  · exact Nat.zero_le _
/-- the term that is next -/
def termR (s : ByteArray) (ts : List Tok) (k : Nat) : Tm := if kindAt ts k = 2 then ⟨textAt s ts k, ⟨#[]⟩, 0⟩ else ⟨⟨#[]⟩, (readP (textAt s ts k)).1, (readP (textAt s ts k)).2⟩
theorem set3 {w : World} {B b : Nat} (h : B ≤ b) (u v t : Value) : Below B w (((w.setCell ⟨b, 0, none⟩ u).setCell ⟨b, 1, none⟩ v).setCell ⟨b, 2, none⟩ t) :=
  (((Below.refl B w).setCell (p := ⟨b, 0, none⟩) h u).setCell (p := ⟨b, 1, none⟩) h v).setCell (p := ⟨b, 2, none⟩) h t

set_option maxHeartbeats 4000000 in
theorem term_var (w : World) (pb : Nat) (s : ByteArray) (q : Option Addr) (c : Nat) (ts : List Tok) (k : Nat) (h : Ps w pb s q c ts k) (hk : kindAt ts k = 2) :
    Calls Tryz.prog 120 #[.pointer (some ⟨pb, 0, none⟩)] w fun e w' => e = .returned (.agg #[.string (textAt s ts k), .string ⟨#[]⟩, .int .i64 0]) ∧ Ps w' pb s q c ts (k + 1) ∧ Only pb w w' := by
  have hlt := kindAt_lt (ts := ts) (k := k) (by rw [hk]; decide)
  have HP := Lib.hid h
  have HK := Lib.hid (show ∀ wx, Ps wx pb s q c ts k → Calls Tryz.prog 118 #[.pointer (some ⟨pb, 0, none⟩)] wx fun e w' => e = .returned (.int .u8 2) ∧ Below wx.heap.size wx w' from fun wx hx => hk ▸ pkind_any wx pb s q c ts k hx)
  have HT := Lib.hid (show ∀ wx, Ps wx pb s q c ts k → Calls Tryz.prog 131 #[.pointer (some ⟨pb, 0, none⟩)] wx fun e w' => e = .returned (.string (textAt s ts k)) ∧ Ps w' pb s q c ts (k + 1) ∧ Only pb wx w' from fun wx hx => take_any wx pb s q c ts k hx hlt)
  have HB := Lib.hid (below1 w)
  have hpb := h.lt
  generalize textAt s ts k = x at *
  clear h hk hlt
  go_enter Tryz.func120, Tryz.ntmps120
  go_wp2_with (first
    | (go_at_call 118; refine (HK.out _ (HP.out.on (HB.out _))).mono ?_; rintro e w1 ⟨rfl, hb1⟩; have HB1 := Lib.hid hb1; have HP1 := Lib.hid ((HP.out.on (HB.out _)).on hb1); clear hb1)
    | (go_at_call 131; refine (HT.out _ HP1.out).mono ?_; rintro e w2 ⟨rfl, hp2, ho2⟩; have HP2 := Lib.hid hp2; have HO2 := Lib.hid ho2; have hz := box_lt HB1.out; have hz2 := Nat.lt_of_lt_of_le hz ho2.size; have e0 := (ho2.cell (o := 0) hz (by omega)).trans (box_cell HB1.out 0 _ rfl); have e1 := (ho2.cell (o := 1) hz (by omega)).trans (box_cell HB1.out 1 _ rfl); have e2 := (ho2.cell (o := 2) hz (by omega)).trans (box_cell HB1.out 2 _ rfl); have f0 := (ho2.frozen (o := 0) hz (by omega)).trans (box_soft HB1.out 0); have f1 := (ho2.frozen (o := 1) hz (by omega)).trans (box_soft HB1.out 1); have f2 := (ho2.frozen (o := 2) hz (by omega)).trans (box_soft HB1.out 2); clear hp2 ho2))
  obtain ⟨L0, L1, L2⟩ := load3' e0 e1 e2 (.string x) (.string ⟨#[]⟩) (.int .i64 0)
  refine bodyPost_ret (v := .agg #[.string x, .string ⟨#[]⟩, .int .i64 0]) ?_ rfl ?_
  · simp [results, Tryz.results120, go_sem, L0, L1, L2]
  · exact ⟨rfl, HP2.out.on' (set3 (by omega) _ _ _), (((Only.of (HB.out _)).trans ((Only.of HB1.out).trans HO2.out))).add (set3 (Nat.le_refl _) _ _ _)⟩

set_option maxHeartbeats 4000000 in
theorem term_val (w : World) (pb : Nat) (s : ByteArray) (q : Option Addr) (c : Nat) (ts : List Tok) (k : Nat) (h : Ps w pb s q c ts k) (hk : kindAt ts k = 1 ∨ kindAt ts k = 3) :
    Calls Tryz.prog 120 #[.pointer (some ⟨pb, 0, none⟩)] w fun e w' => e = .returned (.agg #[.string ⟨#[]⟩, .string (readP (textAt s ts k)).1, .int .i64 (readP (textAt s ts k)).2]) ∧ Ps w' pb s q c ts (k + 1) ∧ Only pb w w' := by
  have hlt := kindAt_lt (ts := ts) (k := k) (by omega)
  have HP := Lib.hid h
  have HT := Lib.hid (show ∀ wx, Ps wx pb s q c ts k → Calls Tryz.prog 131 #[.pointer (some ⟨pb, 0, none⟩)] wx fun e w' => e = .returned (.string (textAt s ts k)) ∧ Ps w' pb s q c ts (k + 1) ∧ Only pb wx w' from fun wx hx => take_any wx pb s q c ts k hx hlt)
  have HB := Lib.hid (below1 w)
  have hpb := h.lt
  have hxs := textAt_size (s := s) ts k h.src.size
  obtain ⟨bo, hrv⟩ := readP_eq (textAt s ts k)
  have HR := Lib.hid (show ∀ wx, Env wx → Calls Tryz.prog 86 #[.string (textAt s ts k)] wx fun e w' => e = .returned (.tuple #[.agg #[.string (readP (textAt s ts k)).1, .int .i64 (readP (textAt s ts k)).2], .bool bo]) ∧ Below wx.heap.size wx w' from fun wx hx => hrv ▸ read_any _ wx (by omega) hx)
  have HK := Lib.hid (show ∀ wx, Ps wx pb s q c ts k → Calls Tryz.prog 118 #[.pointer (some ⟨pb, 0, none⟩)] wx fun e w' => e = .returned (.int .u8 (kindAt ts k)) ∧ Below wx.heap.size wx w' from fun wx hx => pkind_any wx pb s q c ts k hx)
  clear hrv
  generalize (readP (textAt s ts k)).1 = y at *
  generalize (readP (textAt s ts k)).2 = n at *
  generalize textAt s ts k = x at *
  generalize kindAt ts k = kd at *
  clear h hlt hxs
  rcases hk with rfl | rfl
  all_goals
    go_enter Tryz.func120, Tryz.ntmps120
    go_wp2_with (first
      | (go_at_call 118; refine (HK.out _ (HP.out.on (HB.out _))).mono ?_; rintro e w1 ⟨rfl, hb1⟩; have HB1 := Lib.hid hb1; have HP1 := Lib.hid ((HP.out.on (HB.out _)).on hb1); clear hb1)
      | (go_at_call 131; refine (HT.out _ HP1.out).mono ?_; rintro e w2 ⟨rfl, hp2, ho2⟩; have HP2 := Lib.hid hp2; have HO2 := Lib.hid ho2; clear hp2 ho2)
      | (go_at_call 86; refine (HR.out _ HP2.out.env.env).mono ?_; rintro e w3 ⟨rfl, hb3⟩; have HB3 := Lib.hid (hb3.alloc hb3.size (.cells #[.string y, .int .i64 n] 23)); have hz := box_lt HB1.out; have hz2 := Nat.lt_of_lt_of_le hz HO2.out.size; have hz3 := Nat.lt_of_lt_of_le hz2 HB3.out.size; have e0 := (HB3.out.cell (p := ⟨w.heap.size, 0, none⟩) hz2).trans ((HO2.out.cell (o := 0) hz (by omega)).trans (box_cell HB1.out 0 _ rfl)); have e1 := (HB3.out.cell (p := ⟨w.heap.size, 1, none⟩) hz2).trans ((HO2.out.cell (o := 1) hz (by omega)).trans (box_cell HB1.out 1 _ rfl)); have e2 := (HB3.out.cell (p := ⟨w.heap.size, 2, none⟩) hz2).trans ((HO2.out.cell (o := 2) hz (by omega)).trans (box_cell HB1.out 2 _ rfl)); have f0 := (HB3.out.frozen (p := ⟨w.heap.size, 0, none⟩) hz2).trans ((HO2.out.frozen (o := 0) hz (by omega)).trans (box_soft HB1.out 0)); have f1 := (HB3.out.frozen (p := ⟨w.heap.size, 1, none⟩) hz2).trans ((HO2.out.frozen (o := 1) hz (by omega)).trans (box_soft HB1.out 1)); have f2 := (HB3.out.frozen (p := ⟨w.heap.size, 2, none⟩) hz2).trans ((HO2.out.frozen (o := 2) hz (by omega)).trans (box_soft HB1.out 2)); clear hb3))
    obtain ⟨L0, L1, L2⟩ := load3' e0 e1 e2 (.string ⟨#[]⟩) (.string y) (.int .i64 n)
    refine bodyPost_ret (v := .agg #[.string ⟨#[]⟩, .string y, .int .i64 n]) ?_ rfl ?_
    · simp [results, Tryz.results120, go_sem, L0, L1, L2]
    · exact ⟨rfl, (HP2.out.on HB3.out).on' (set3 (by omega) _ _ _), (((Only.of (HB.out _)).trans ((Only.of HB1.out).trans (HO2.out.trans (Only.of HB3.out))))).add (set3 (Nat.le_refl _) _ _ _)⟩

set_option maxHeartbeats 4000000 in
theorem term_no (w : World) (pb : Nat) (s : ByteArray) (q : Option Addr) (c : Nat) (ts : List Tok) (k : Nat) (h : Ps w pb s q c ts k) (h1 : kindAt ts k ≠ 1) (h2 : kindAt ts k ≠ 2) (h3 : kindAt ts k ≠ 3) :
    Calls Tryz.prog 120 #[.pointer (some ⟨pb, 0, none⟩)] w fun e w' => e = .panicked (faultV 6 (placeAt s ts k)) ∧ Only pb w w' := by
  have HP := Lib.hid h
  have HB := Lib.hid (below1 w)
  have HK := Lib.hid (show ∀ wx, Ps wx pb s q c ts k → Calls Tryz.prog 118 #[.pointer (some ⟨pb, 0, none⟩)] wx fun e w' => e = .returned (.int .u8 (kindAt ts k)) ∧ Below wx.heap.size wx w' from fun wx hx => pkind_any wx pb s q c ts k hx)
  have g1 : (kindAt ts k == 1) = false := by simpa using h1
  have g2 : (kindAt ts k == 2) = false := by simpa using h2
  have g3 : (kindAt ts k == 3) = false := by simpa using h3
  generalize kindAt ts k = kd at *
  clear h h1 h2 h3
  go_enter Tryz.func120, Tryz.ntmps120
  go_wp2_with (first
    | (go_at_call 118; refine (HK.out _ (HP.out.on (HB.out _))).mono ?_; rintro e w1 ⟨rfl, hb1⟩; have HB1 := Lib.hid hb1; have HP1 := Lib.hid ((HP.out.on (HB.out _)).on hb1); clear hb1)
    | (go_at_call 130; refine (giveUp_any _ _ _ _ _ _ _ _ HP1.out).mono ?_; rintro e w2 ⟨rfl, hb2⟩))
  exact ⟨rfl, rfl, (Only.of (HB.out _)).trans ((Only.of HB1.out).trans (Only.of hb2))⟩
end Go.Proofs.YtfmkfabbiifolaaGreatDoor

/-
  Contract: what parser.atom hands to parser.list: one term more is appended to the terms in a box.
-/
namespace Go.Proofs.YtfmkfabbiifolaaGreatDoor
open Go.RowKit

theorem news_alloc (w : World) (cs : Array Value) (T : TypeId) : ∀ j u, cs.toList[j]? = some u → (w.alloc (.cells cs T)).cell? ((⟨w.heap.size, 0, none⟩ : Addr).add j) = some u := World.news_of_block (heap_alloc_new w _)
theorem info_parts {t : TypeId} {z : Value} {s b : Nat} (h : (Tryz.prog.info? t).map (fun i => (i.zero, i.size, i.bytes)) = some (some z, s, b)) : ∃ i, Tryz.prog.info? t = some i ∧ i.zero = some z ∧ i.size = s ∧ i.bytes = b := by
  obtain ⟨i, h1, h2⟩ := Option.map_eq_some_iff.1 h
  injection h2 with h2 h3; injection h3 with h3 h4
  exact ⟨i, h1, h2, h3, h4⟩
theorem underTs : Tryz.prog.underlying 26 = some (.slice 25) := Tryz.underlying26
/-- The terms that were read lie in a row of the call's own, which a box holds; another box holds where the parser is. -/
structure AI (w0 : World) (B pb ab pp : Nat) (s : ByteArray) (q : Option Addr) (c : Nat) (ts : List Tok) (k : Nat) (acc : List Tm) (w : World) : Prop where
  only : Only pb w0 w
  ps : Ps w pb s q c ts k
  arg : ∃ v, Boxed w ab 26 v ∧ w.ownsRow B 25 3 v acc.length (flatE encM acc)
  ptr : Boxed w pp 128 (.pointer (some ⟨pb, 0, none⟩))
  hpb : pb < B
  hab : ab < B
  hpp : pp < B
  n1 : ab ≠ pp
  n2 : ab ≠ pb
  n3 : pp ≠ pb
  hp0 : pb < w0.heap.size
  lo : w0.heap.size ≤ ab
  hi : B ≤ w.heap.size
theorem Boxed.below {W W' : World} {b : Nat} {t : TypeId} {v : Value} {B : Nat} (h : Boxed W b t v) (hb : Below B W W') (hB : b < B) : Boxed W' b t v := (hb.block b hB).trans h
theorem Boxed.only {W W' : World} {b pb : Nat} {t : TypeId} {v : Value} (h : Boxed W b t v) (ho : Only pb W W') (hn : b ≠ pb) : Boxed W' b t v := (ho.block b h.lt hn).trans h
section
variable {w0 : World} {B pb ab pp : Nat} {s : ByteArray} {q : Option Addr} {c : Nat} {ts : List Tok} {k : Nat} {acc : List Tm} {w : World}
theorem AI.on {w' : World} (h : AI w0 B pb ab pp s q c ts k acc w) (hb : Below w.heap.size w w') : AI w0 B pb ab pp s q c ts k acc w' := by
  obtain ⟨v, h1, h2⟩ := h.arg
  exact ⟨h.only.trans (Only.of hb), h.ps.on hb, ⟨v, Boxed.below h1 hb h1.lt, own_below h2 hb⟩, Boxed.below h.ptr hb h.ptr.lt, h.hpb, h.hab, h.hpp, h.n1, h.n2, h.n3, h.hp0, h.lo, Nat.le_trans h.hi hb.size⟩
theorem AI.step {w' : World} {k' : Nat} (h : AI w0 B pb ab pp s q c ts k acc w) (ho : Only pb w w') (hp : Ps w' pb s q c ts k') : AI w0 B pb ab pp s q c ts k' acc w' := by
  obtain ⟨v, h1, h2⟩ := h.arg
  refine ⟨h.only.trans ho, hp, ⟨v, Boxed.only h1 ho h.n2, ?_⟩, Boxed.only h.ptr ho h.n3, h.hpb, h.hab, h.hpp, h.n1, h.n2, h.n3, h.hp0, h.lo, Nat.le_trans h.hi ho.size⟩
  refine h2.kept (row := some pb) ⟨ho.os, ho.tape, ho.output, ho.size, fun i hi hn => ho.block i hi (fun e => hn (by rw [e]))⟩ ?_
  cases hv : v.ownBlock with
  | none => simp
  | some g =>
    have := (h2.lt g hv).1
    have := h.hpb
    simp; omega
end

theorem AI.push {w0 : World} {B pb ab pp : Nat} {s : ByteArray} {q : Option Addr} {c : Nat} {ts : List Tok} {k : Nat} {acc : List Tm} {wn w7 : World} {t : Tm} {g cap : Nat} {v : Value} (h : AI w0 B pb ab pp s q c ts k acc wn) (hb : Below B wn w7)
    (ho : w7.ownsRow B 25 3 (.slice (some ⟨g, 0, none⟩) (acc.length + 1) cap) (acc.length + 1) (flatE encM acc ++ encM t)) (hb7 : Boxed w7 ab 26 v) :
    AI w0 B pb ab pp s q c ts k (acc ++ [t]) (w7.setCell ⟨ab, 0, none⟩ (.slice (some ⟨g, 0, none⟩) (acc.length + 1) cap)) := by
  have h1 := h.hab
  have h2 := h.lo
  have h3 := h.hp0
  have h4 := h.hpb
  have h5 := h.hpp
  have hs : Below (pb + 1) w7 (w7.setCell ⟨ab, 0, none⟩ (.slice (some ⟨g, 0, none⟩) (acc.length + 1) cap)) := (Below.refl _ _).setCell (p := ⟨ab, 0, none⟩) (by show pb + 1 ≤ ab; omega) _
  have hs0 : Below w0.heap.size w7 (w7.setCell ⟨ab, 0, none⟩ (.slice (some ⟨g, 0, none⟩) (acc.length + 1) cap)) := (Below.refl _ _).setCell (p := ⟨ab, 0, none⟩) h2 _
  refine ⟨(h.only.add (hb.mono (by omega))).add hs0, (h.ps.on' (hb.mono (by omega))).on' hs, ⟨_, Boxed.set _ hb7, ?_⟩, ?_, h.hpb, h.hab, h.hpp, h.n1, h.n2, h.n3, h.hp0, h.lo, Nat.le_trans h.hi (Nat.le_trans hb.size hs.size)⟩
  · rw [List.length_append, flatE_snoc]
    exact ownsRow_setCell_below ho (a := ⟨ab, 0, none⟩) h1 _
  · exact (Below.heap_setCell w7 ⟨ab, 0, none⟩ _ pp (Ne.symm h.n1)).trans (Boxed.below h.ptr hb h.hpp)
/-- a term is next -/
def isT (ts : List Tok) (k : Nat) : Bool := kindAt ts k == 1 || kindAt ts k == 2 || kindAt ts k == 3
theorem term_yes (w : World) (pb : Nat) (s : ByteArray) (q : Option Addr) (c : Nat) (ts : List Tok) (k : Nat) (h : Ps w pb s q c ts k) (hk : isT ts k = true) :
    Calls Tryz.prog 120 #[.pointer (some ⟨pb, 0, none⟩)] w fun e w' => e = .returned (.agg #[.string (termR s ts k).v, .string (termR s ts k).s, .int .i64 (termR s ts k).n]) ∧ Ps w' pb s q c ts (k + 1) ∧ Only pb w w' := by
  unfold termR
  by_cases h2 : kindAt ts k = 2
  · rw [if_pos h2]; exact term_var w pb s q c ts k h h2
  · rw [if_neg h2]
    exact term_val w pb s q c ts k h (by simp [isT] at hk; omega)
theorem term_not (w : World) (pb : Nat) (s : ByteArray) (q : Option Addr) (c : Nat) (ts : List Tok) (k : Nat) (h : Ps w pb s q c ts k) (hk : isT ts k = false) :
    Calls Tryz.prog 120 #[.pointer (some ⟨pb, 0, none⟩)] w fun e w' => e = .panicked (faultV 6 (placeAt s ts k)) ∧ Only pb w w' := by
  simp [isT] at hk
  exact term_no w pb s q c ts k h (by omega) (by omega) (by omega)

set_option maxHeartbeats 4000000 in
set_option maxRecDepth 100000 in
theorem oneTerm_any (w0 w : World) (B pb ab pp : Nat) (s : ByteArray) (q : Option Addr) (c : Nat) (ts : List Tok) (k : Nat) (acc : List Tm) (h : AI w0 B pb ab pp s q c ts k acc w) (hl : acc.length ≤ 4096) :
    Calls Tryz.prog 132 #[.pointer (some ⟨ab, 0, none⟩), .pointer (some ⟨pp, 0, none⟩)] w fun e w' =>
      (e = .panicked (faultV 6 (placeAt s ts k)) ∧ isT ts k = false ∧ Only pb w0 w') ∨ (e = .returned (.tuple #[]) ∧ isT ts k = true ∧ AI w0 B pb ab pp s q c ts (k + 1) (acc ++ [termR s ts k]) w') := by
  have HI := Lib.hid h
  obtain ⟨v, hv, hown⟩ := h.arg
  have x0 := Boxed.cell hv
  have x1 := Boxed.cell h.ptr
  have hn1 := h.n2
  have hn2 := h.n3
  have hlt1 := hv.lt
  have hlt2 := h.ptr.lt
  have HT := Lib.hid (show ∀ X, Below w.heap.size w X → Calls Tryz.prog 120 #[.pointer (some ⟨pb, 0, none⟩)] X fun e w' =>
      (e = .panicked (faultV 6 (placeAt s ts k)) ∧ Hid (isT ts k = false) ∧ Only pb w0 w') ∨
      (e = .returned (.agg #[.string (termR s ts k).v, .string (termR s ts k).s, .int .i64 (termR s ts k).n]) ∧ Hid (isT ts k = true) ∧ Boxed w' ab 26 v ∧ w'.ownsRow B 25 3 v acc.length (flatE encM acc) ∧ AI w0 B pb ab pp s q c ts (k + 1) acc w') from
    fun X hX => by
      cases hk : isT ts k with
      | false => exact (term_not X pb s q c ts k (HI.out.ps.on hX) hk).mono fun e w' ⟨he, ho⟩ => .inl ⟨he, Lib.hid rfl, (HI.out.on hX).only.trans ho⟩
      | true =>
        refine (term_yes X pb s q c ts k (HI.out.ps.on hX) hk).mono fun e w' ⟨he, hp, ho⟩ => .inr ?_
        have hi' := (HI.out.on hX).step ho hp
        refine ⟨he, Lib.hid rfl, Boxed.only (Boxed.below hv hX hv.lt) ho hn1, ?_, hi'⟩
        obtain ⟨v2, hv2, hown2⟩ := hi'.arg
        have hb2 := Boxed.only (Boxed.below hv hX hv.lt) ho hn1
        have : v2 = v := by
          have e := Boxed.cell hv2
          rw [Boxed.cell hb2] at e
          injection e with e; exact e.symm
        exact this ▸ hown2)
  have HB0 := Lib.hid (Below.refl w.heap.size w)
  have HB1 := Lib.hid (Below.drew (Below.refl w.heap.size w))
  obtain ⟨i0, hi, hz0, hz1, hzb⟩ := info_parts infoTerm
  have HL1 := Lib.hid (show acc.length + 1 ≤ maxLen by unfold maxLen; omega)
  have HL2 := Lib.hid (show (acc.length + 1) * 40 ≤ 140737488355328 by omega)
  generalize hT : termR s ts k = t at *
  obtain ⟨tv, tsy, tn⟩ := t
  simp only at HT
  clear h hv hown hT
  go_enter Tryz.func132, Tryz.ntmps132
  go_region_law (first
    | (refine step_append_grw rfl (.tmp 2) (.tmp 5) 26 rfl B 25 i0 _ 3 40 underTs hi hz0 hz1 hzb rfl (by omega) v acc.length (flatE encM acc) (by rfl) (.inr (own_below HOX.out (below1 _ _))) ⟨wn.heap.size, 0, none⟩ 1 1 (encM ⟨tv, tsy, tn⟩) (by rfl) (by rfl) (news_alloc _ _ _) (EM.one _) (by omega) HL1.out HL2.out (Nat.le_trans HAI.out.hi (below1 _ _).size) ?_; intro g cap w7 ho hbw hat hlt7; have hb7 := Boxed.below (Boxed.below hbx (below1 _ _) hbx.lt) hbw HAI.out.hab; have c7 := Boxed.cell hb7; have f7 := Boxed.frozen hb7)
    | (go_simp; go_at_call 120; refine (HT.out _ (by first | exact HB1.out | exact HB0.out)).mono ?_; rintro e wn (⟨rfl, hf, ho⟩ | ⟨rfl, hy, hbx, hox, hai⟩); (exact ⟨rfl, .inl ⟨rfl, hf.out, ho⟩⟩); have HAI := Lib.hid hai; have HOX := Lib.hid hox; have y0 := Boxed.cell hbx; have y1 : ∀ o, (wn.alloc o).cell? ⟨ab, 0, none⟩ = some v := fun o => Boxed.cell (Boxed.below hbx (below1 wn o) hbx.lt); clear hai hox))
  all_goals
    go_end0
    exact .inr ⟨rfl, hy.out, AI.push HAI.out (((below1 wn _).mono HAI.out.hi).trans hbw) ho hb7⟩
end Go.Proofs.YtfmkfabbiifolaaGreatDoor

/-
  Contract: parser.list, of terms.
-/
namespace Go.Proofs.YtfmkfabbiifolaaGreatDoor
open Go.RowKit

/-- a comma -/
def comma : ByteArray := ⟨#[44]⟩
/-- more terms, each behind a comma, at most n -/
def moreT (s : ByteArray) (ts : List Tok) : Nat → List Tm → Nat → Except (Int × Int) (List Tm × Nat)
  | 0, acc, k => if textAt s ts k = comma then .error (2, placeAt s ts k) else .ok (acc, k)
  | n + 1, acc, k =>
    if textAt s ts k = comma then
      if isT ts (k + 1) then moreT s ts n (acc ++ [termR s ts (k + 1)]) (k + 2) else .error (6, placeAt s ts (k + 1))
    else .ok (acc, k)
/-- one or more terms, at most n + 1 -/
def listT (s : ByteArray) (ts : List Tok) (n : Nat) (k : Nat) : Except (Int × Int) (List Tm × Nat) :=
  if isT ts k then moreT s ts n [termR s ts k] (k + 1) else .error (6, placeAt s ts k)
theorem comma_lt {s : ByteArray} {ts : List Tok} {k : Nat} (h : textAt s ts k = comma) : k < ts.length := by
  rcases Nat.lt_or_ge k ts.length with h' | h'
  · exact h'
  · rw [textAt_none h'] at h; exact absurd h (by decide)
/-- how a list of terms ends -/
def ListPost (w0 : World) (B pb ab pp : Nat) (s : ByteArray) (q : Option Addr) (c : Nat) (ts : List Tok) (R : Except (Int × Int) (List Tm × Nat)) (e : Ending) (w' : World) : Prop := match R with
  | .ok (l, k) => e = .returned (.tuple #[]) ∧ AI w0 B pb ab pp s q c ts k l w'
  | .error (n, p) => e = .panicked (faultV n p) ∧ Only pb w0 w'

set_option maxHeartbeats 4000000 in
set_option maxRecDepth 100000 in
theorem list_any (w0 w : World) (B pb ab pp : Nat) (s : ByteArray) (q : Option Addr) (c : Nat) (ts : List Tok) (k : Nat) (h : AI w0 B pb ab pp s q c ts k [] w) :
    Calls Tryz.prog 112 #[.pointer (some ⟨pb, 0, none⟩), .int .i64 4, .func (.func 132) #[] #[.pointer (some ⟨ab, 0, none⟩), .pointer (some ⟨pp, 0, none⟩)]] w (ListPost w0 B pb ab pp s q c ts (listT s ts 3 k)) := by
  have HI := Lib.hid h
  have HO := Lib.hid (show ∀ wx kx ac, AI w0 B pb ab pp s q c ts kx ac wx → ac.length ≤ 4096 → Calls Tryz.prog 132 #[.pointer (some ⟨ab, 0, none⟩), .pointer (some ⟨pp, 0, none⟩)] wx fun e w' =>
      (e = .panicked (faultV 6 (placeAt s ts kx)) ∧ isT ts kx = false ∧ Only pb w0 w') ∨ (e = .returned (.tuple #[]) ∧ isT ts kx = true ∧ AI w0 B pb ab pp s q c ts (kx + 1) (ac ++ [termR s ts kx]) w') from
    fun wx kx ac hx hl => oneTerm_any w0 wx B pb ab pp s q c ts kx ac hx hl)
  have HR := Lib.hid (show listT s ts 3 k = if isT ts k then moreT s ts 3 [termR s ts k] (k + 1) else .error (6, placeAt s ts k) from rfl)
  generalize listT s ts 3 k = R at *
  clear h
  go_enter Tryz.func112, Tryz.ntmps112
  go_wp2_with (go_at_call 132; refine (HO.out _ _ _ HI.out (by decide)).mono ?_; rintro e w1 (⟨rfl, hf, ho⟩ | ⟨rfl, hy, hi1⟩); (exact ⟨rfl, by rw [HR.out, if_neg (by rw [hf]; decide)]; exact ⟨rfl, ho⟩⟩); have HR1 := Lib.hid (HR.out.trans (if_pos hy)); have HI1 := Lib.hid hi1; clear hi1 hy)
  have HTY := Lib.hid (show ∀ wx kx, Ps wx pb s q c ts kx → textAt s ts kx = comma → Calls Tryz.prog 111 #[.pointer (some ⟨pb, 0, none⟩), .string ⟨#[44]⟩] wx fun e w' => e = .returned (.bool true) ∧ Ps w' pb s q c ts (kx + 1) ∧ Only pb wx w' from fun wx kx hx ht => took_yes wx pb s q c ts kx _ hx ht (comma_lt ht))
  have HTN := Lib.hid (show ∀ wx kx, Ps wx pb s q c ts kx → ¬ textAt s ts kx = comma → Calls Tryz.prog 111 #[.pointer (some ⟨pb, 0, none⟩), .string ⟨#[44]⟩] wx fun e w' => e = .returned (.bool false) ∧ Below wx.heap.size wx w' from fun wx kx hx ht => took_no wx pb s q c ts kx _ hx ht)
  go_loopw [10] (fun i wr => ∃ (j kx : Nat) (ac : List Tm), j ≤ 3 ∧ i = .int .i64 j ∧ ac.length ≤ j + 1 ∧ R = moreT s ts (3 - j) ac kx ∧ AI w0 B pb ab pp s q c ts kx ac wr) (fun i _ => 3 - (intOf i).toNat)
  case atStart => exact ⟨0, k + 1, [termR s ts k], by omega, rfl, Nat.le_refl _, HR1.out, HI1.out⟩
  case round =>
    obtain ⟨j, kx, ac, hj, rfl, hal, hr, hai⟩ := hrel
    have HRX := Lib.hid hr
    have HAI := Lib.hid hai
    clear hr hai
    by_cases hlt : j < 3
    · have HST := Lib.hid (show moreT s ts (3 - j) ac kx = if textAt s ts kx = comma then (if isT ts (kx + 1) then moreT s ts (3 - (j + 1)) (ac ++ [termR s ts (kx + 1)]) (kx + 2) else .error (6, placeAt s ts (kx + 1))) else .ok (ac, kx) by rw [show 3 - j = (3 - (j + 1)) + 1 by omega]; rfl)
      by_cases ht : textAt s ts kx = comma
      · have HTC := Lib.hid ht
        have HST2 := Lib.hid (HRX.out.trans (HST.out.trans (if_pos ht)))
        clear ht
        go_wp2_with (first
          | (go_at_call 111; refine (HTY.out _ _ HAI.out.ps HTC.out).mono ?_; rintro e w2 ⟨rfl, hp2, ho2⟩; have HI2 := Lib.hid (HAI.out.step ho2 hp2); clear hp2 ho2)
          | (go_at_call 132; refine (HO.out _ _ _ HI2.out (by omega)).mono ?_; rintro e w3 (⟨rfl, hf, ho⟩ | ⟨rfl, hy, hi3⟩); (exact ⟨rfl, by rw [HST2.out, if_neg (by rw [hf]; decide)]; exact ⟨rfl, ho⟩⟩); have HR3 := Lib.hid (HST2.out.trans (if_pos hy)); have HI3 := Lib.hid hi3; clear hi3 hy))
        go_roundw
        case rel => exact ⟨j + 1, kx + 2, _, by omega, by go_num, by rw [List.length_append]; simp; omega, HR3.out, HI3.out⟩
        case measure => simp [intOf]; omega
      · have HTC := Lib.hid ht
        have HST2 := Lib.hid (HRX.out.trans (HST.out.trans (if_neg ht)))
        clear ht
        go_wp2_with (go_at_call 111; refine (HTN.out _ _ HAI.out.ps HTC.out).mono ?_; rintro e w2 ⟨rfl, hb2⟩)
        refine bodyPost_ret (results_none rfl _ _ _) rfl ?_
        rw [HST2.out]
        exact ⟨rfl, HAI.out.on hb2⟩
    · have HST := Lib.hid (show moreT s ts (3 - j) ac kx = if textAt s ts kx = comma then .error (2, placeAt s ts kx) else .ok (ac, kx) by rw [show 3 - j = 0 by omega]; rfl)
      have HSP := Lib.hid (show ∀ wx, Ps wx pb s q c ts kx → Calls Tryz.prog 119 #[.pointer (some ⟨pb, 0, none⟩), .int .i64 0] wx fun e w' => e = .returned (.string (textAt s ts kx)) ∧ Below wx.heap.size wx w' from fun wx hx => spelt_any wx pb s q c ts kx 0 hx (by omega))
      by_cases ht : textAt s ts kx = comma
      · have HST2 := Lib.hid (HRX.out.trans (HST.out.trans (if_pos ht)))
        have HSP2 := Lib.hid (show ∀ wx, Ps wx pb s q c ts kx → Calls Tryz.prog 119 #[.pointer (some ⟨pb, 0, none⟩), .int .i64 0] wx fun e w' => e = .returned (.string ⟨#[44]⟩) ∧ Below wx.heap.size wx w' from fun wx hx => (HSP.out wx hx).mono fun e w' ⟨he, hb⟩ => ⟨by rw [he, ht]; rfl, hb⟩)
        clear ht
        go_wp2_with (first
          | (go_at_call 119; refine (HSP2.out _ HAI.out.ps).mono ?_; rintro e w2 ⟨rfl, hb2⟩; have HI2 := Lib.hid (HAI.out.on hb2); clear hb2)
          | (go_at_call 130; refine (giveUp_any _ _ _ _ _ _ _ _ HI2.out.ps).mono ?_; rintro e w3 ⟨rfl, hb3⟩))
        refine ⟨rfl, ?_⟩
        rw [HST2.out]
        exact ⟨rfl, (HI2.out.on hb3).only⟩
      · have HST2 := Lib.hid (HRX.out.trans (HST.out.trans (if_neg ht)))
        have hq : ((textAt s ts kx).toList == [44]) = false := by
          rw [beq_eq_false_iff_ne]; intro he
          rw [ByteArray.toList_eq] at he
          exact ht (by rcases hy : textAt s ts kx with ⟨⟨a⟩⟩; rw [hy] at he; cases he; rfl)
        clear ht
        go_wp2_with (go_at_call 119; refine (HSP.out _ HAI.out.ps).mono ?_; rintro e w2 ⟨rfl, hb2⟩)
        go_end0
        rw [HST2.out]
        exact ⟨rfl, HAI.out.on hb2⟩
end Go.Proofs.YtfmkfabbiifolaaGreatDoor
