/-
  Joined of: PrsH, Bkk.
-/
import Derived.Test.YtfmkfabbiifolaaGreatDoorJa09
set_option linter.unusedVariables false
set_option linter.unusedSimpArgs false
/-
  Contract: parser.atom.
-/
namespace Go.Proofs.YtfmkfabbiifolaaGreatDoor
open Go.RowKit

/-- the round brackets -/
def popen : ByteArray := ⟨#[40]⟩
def pshut : ByteArray := ⟨#[41]⟩
/-- the atom that is next -/
def atomR (s : ByteArray) (ts : List Tok) (k : Nat) : Except (Int × Int) ((ByteArray × List Tm) × Nat) :=
  if kindAt ts k = 1 then
    if textAt s ts (k + 1) = popen then
      match listT s ts 3 (k + 2) with
      | .error e => .error e
      | .ok (l, k') => if textAt s ts k' = pshut then .ok ((textAt s ts k, l), k' + 1) else .error (6, placeAt s ts k')
    else .ok ((textAt s ts k, []), k + 1)
  else .error (6, placeAt s ts k)
def AtomPost (w : World) (pb : Nat) (s : ByteArray) (q : Option Addr) (c : Nat) (ts : List Tok) (R : Except (Int × Int) ((ByteArray × List Tm) × Nat)) (e : Ending) (w' : World) : Prop := match R with
  | .ok ((nm, l), k) => ∃ q' c', e = .returned (.tuple #[.string nm, .slice q' l.length c']) ∧ Tms w' w'.heap.size q' l ∧ (∀ b, q' = some b → w.heap.size ≤ b.block) ∧ Ps w' pb s q c ts k ∧ Only pb w w'
  | .error (n, p) => e = .panicked (faultV n p) ∧ Only pb w w'
theorem text_lt {s : ByteArray} {ts : List Tok} {k : Nat} {x : ByteArray} (h : textAt s ts k = x) (hx : x ≠ ⟨#[]⟩) : k < ts.length := by
  rcases Nat.lt_or_ge k ts.length with h' | h'
  · exact h'
  · rw [textAt_none h'] at h; exact absurd h.symm hx

set_option maxHeartbeats 4000000 in
set_option maxRecDepth 100000 in
theorem atom_bad (w : World) (pb : Nat) (s : ByteArray) (q : Option Addr) (c : Nat) (ts : List Tok) (k : Nat) (h : Ps w pb s q c ts k) (hk : kindAt ts k ≠ 1) :
    Calls Tryz.prog 110 #[.pointer (some ⟨pb, 0, none⟩)] w fun e w' => e = .panicked (faultV 6 (placeAt s ts k)) ∧ Only pb w w' := by
  have HP := Lib.hid h
  have HB := Lib.hid (below1 w)
  have HK := Lib.hid (show ∀ wx, Ps wx pb s q c ts k → Calls Tryz.prog 118 #[.pointer (some ⟨pb, 0, none⟩)] wx fun e w' => e = .returned (.int .u8 (kindAt ts k)) ∧ Below wx.heap.size wx w' from fun wx hx => pkind_any wx pb s q c ts k hx)
  have g1 : (kindAt ts k == 1) = false := by simpa using hk
  have g2 : (kindAt ts k != 1) = true := by simpa using hk
  generalize kindAt ts k = kd at *
  clear h hk
  go_enter Tryz.func110, Tryz.ntmps110
  go_wp2_with (first
    | (go_at_call 118; refine (HK.out _ (HP.out.on (HB.out _))).mono ?_; rintro e w1 ⟨rfl, hb1⟩; have HB1 := Lib.hid hb1; have e0 := box_cell hb1 0 _ rfl; have HP1 := Lib.hid ((HP.out.on (HB.out _)).on hb1); clear hb1)
    | (go_at_call 130; refine (giveUp_any _ _ _ _ _ _ _ _ HP1.out).mono ?_; rintro e w2 ⟨rfl, hb2⟩))
  exact ⟨rfl, rfl, (Only.of (HB.out _)).trans ((Only.of HB1.out).trans (Only.of hb2))⟩

set_option maxHeartbeats 4000000 in
set_option maxRecDepth 100000 in
theorem atom_bare (w : World) (pb : Nat) (s : ByteArray) (q : Option Addr) (c : Nat) (ts : List Tok) (k : Nat) (h : Ps w pb s q c ts k) (hk : kindAt ts k = 1) (ht : ¬ textAt s ts (k + 1) = popen) :
    Calls Tryz.prog 110 #[.pointer (some ⟨pb, 0, none⟩)] w fun e w' => e = .returned (.tuple #[.string (textAt s ts k), .slice none 0 0]) ∧ Ps w' pb s q c ts (k + 1) ∧ Only pb w w' := by
  have hlt := kindAt_lt (ts := ts) (k := k) (by rw [hk]; decide)
  have HP := Lib.hid h
  have hpb := h.lt
  have HB := Lib.hid (below1 w)
  have HK := Lib.hid (show ∀ wx, Ps wx pb s q c ts k → Calls Tryz.prog 118 #[.pointer (some ⟨pb, 0, none⟩)] wx fun e w' => e = .returned (.int .u8 1) ∧ Below wx.heap.size wx w' from fun wx hx => hk ▸ pkind_any wx pb s q c ts k hx)
  have HT := Lib.hid (show ∀ wx, Ps wx pb s q c ts k → Calls Tryz.prog 131 #[.pointer (some ⟨pb, 0, none⟩)] wx fun e w' => e = .returned (.string (textAt s ts k)) ∧ Ps w' pb s q c ts (k + 1) ∧ Only pb wx w' from fun wx hx => take_any wx pb s q c ts k hx hlt)
  have HN := Lib.hid (show ∀ wx, Ps wx pb s q c ts (k + 1) → Calls Tryz.prog 111 #[.pointer (some ⟨pb, 0, none⟩), .string ⟨#[40]⟩] wx fun e w' => e = .returned (.bool false) ∧ Below wx.heap.size wx w' from fun wx hx => took_no wx pb s q c ts (k + 1) _ hx ht)
  generalize textAt s ts k = x at *
  clear h hk hlt ht
  go_enter Tryz.func110, Tryz.ntmps110
  go_wp2_with (first
    | (go_at_call 118; refine (HK.out _ (HP.out.on (HB.out _))).mono ?_; rintro e w1 ⟨rfl, hb1⟩; have HB1 := Lib.hid hb1; have e0 := box_cell hb1 0 _ rfl; have HP1 := Lib.hid ((HP.out.on (HB.out _)).on hb1); clear hb1)
    | (go_at_call 131; refine (HT.out _ HP1.out).mono ?_; rintro e w2 ⟨rfl, hp2, ho2⟩; have HP2 := Lib.hid hp2; have HO2 := Lib.hid ho2; have hz := box_lt HB1.out; have e1 := (ho2.cell (o := 0) hz (by omega)).trans e0; clear hp2 ho2)
    | (go_at_call 111; refine (HN.out _ HP2.out).mono ?_; rintro e w3 ⟨rfl, hb3⟩))
  go_ret2
  exact ⟨rfl, HP2.out.on hb3, (Only.of (HB.out _)).trans ((Only.of HB1.out).trans (HO2.out.trans (Only.of hb3)))⟩

theorem own_fresh {w : World} {base e size n l c : Nat} {q : Option Addr} {xs : List Value} (h : w.ownsRow base e size (.slice q l c) n xs) : ∀ b, q = some b → base ≤ b.block := by
  intro b hb
  subst hb
  rcases h.2 with ⟨h1, _⟩ | ⟨g, cap, cur, h1, hg, _⟩
  · cases h1
  · cases h1; exact hg
theorem AI.start {w w3 : World} {pb : Nat} {s : ByteArray} {q : Option Addr} {c : Nat} {ts : List Tok} {k : Nat} (ho : Only pb w w3) (hp : Ps w3 pb s q c ts k) (hx : Boxed w3 w.heap.size 128 (.pointer (some ⟨pb, 0, none⟩))) (hpb : pb < w.heap.size) :
    AI w (w3.heap.size + 1) pb w3.heap.size w.heap.size s q c ts k [] (w3.alloc (.cells #[.slice none 0 0] 26)) := by
  have h1 := hx.lt
  exact ⟨ho.trans (Only.of (below1 _ _)), hp.on (below1 _ _), ⟨_, Boxed.new w3 _ _, World.ownsRow_nil _ _ _ _⟩, Boxed.below hx (below1 _ _) h1, by omega, by omega, by omega, by omega, by omega, by omega, hpb, by omega, by simp⟩
set_option maxHeartbeats 4000000 in
set_option maxRecDepth 100000 in
theorem atom_list (w : World) (pb : Nat) (s : ByteArray) (q : Option Addr) (c : Nat) (ts : List Tok) (k : Nat) (h : Ps w pb s q c ts k) (hk : kindAt ts k = 1) (ht : textAt s ts (k + 1) = popen) :
    Calls Tryz.prog 110 #[.pointer (some ⟨pb, 0, none⟩)] w (AtomPost w pb s q c ts (atomR s ts k)) := by
  have hlt := kindAt_lt (ts := ts) (k := k) (by rw [hk]; decide)
  have hlt2 := text_lt ht (by decide)
  have HP := Lib.hid h
  have hpb := h.lt
  have HB := Lib.hid (below1 w)
  have hmf : ∀ (fn : Fn) (first cap : Array Value) (w : World), (Instr.makeFunc fn first cap).run Tryz.prog w = .ok (.func fn first cap) w := fun _ _ _ _ => rfl
  have HK := Lib.hid (show ∀ wx, Ps wx pb s q c ts k → Calls Tryz.prog 118 #[.pointer (some ⟨pb, 0, none⟩)] wx fun e w' => e = .returned (.int .u8 1) ∧ Below wx.heap.size wx w' from fun wx hx => hk ▸ pkind_any wx pb s q c ts k hx)
  have HT := Lib.hid (show ∀ wx, Ps wx pb s q c ts k → Calls Tryz.prog 131 #[.pointer (some ⟨pb, 0, none⟩)] wx fun e w' => e = .returned (.string (textAt s ts k)) ∧ Ps w' pb s q c ts (k + 1) ∧ Only pb wx w' from fun wx hx => take_any wx pb s q c ts k hx hlt)
  have HN := Lib.hid (show ∀ wx, Ps wx pb s q c ts (k + 1) → Calls Tryz.prog 111 #[.pointer (some ⟨pb, 0, none⟩), .string ⟨#[40]⟩] wx fun e w' => e = .returned (.bool true) ∧ Ps w' pb s q c ts (k + 1 + 1) ∧ Only pb wx w' from fun wx hx => took_yes wx pb s q c ts (k + 1) _ hx ht hlt2)
  have HR := Lib.hid (show atomR s ts k = match listT s ts 3 (k + 2) with
      | .error e => .error e
      | .ok (l, k') => if textAt s ts k' = pshut then .ok ((textAt s ts k, l), k' + 1) else .error (6, placeAt s ts k') by unfold atomR; rw [if_pos hk, if_pos ht])
  have HLC := Lib.hid (show ∀ wx B ab pp, AI w B pb ab pp s q c ts (k + 1 + 1) [] wx → Calls Tryz.prog 112 #[.pointer (some ⟨pb, 0, none⟩), .int .i64 4, .func (.func 132) #[] #[.pointer (some ⟨ab, 0, none⟩), .pointer (some ⟨pp, 0, none⟩)]] wx (ListPost w B pb ab pp s q c ts (listT s ts 3 (k + 2))) from fun wx B ab pp hx => list_any w wx B pb ab pp s q c ts (k + 2) hx)
  generalize atomR s ts k = R at *
  generalize textAt s ts k = x at *
  clear h hk hlt ht hlt2
  cases hL : listT s ts 3 (k + 2) with
  | error np =>
    obtain ⟨n, p⟩ := np
    have HR2 := Lib.hid (show R = .error (n, p) by rw [HR.out, hL])
    have HL := Lib.hid (show ∀ wx B ab pp, AI w B pb ab pp s q c ts (k + 1 + 1) [] wx → Calls Tryz.prog 112 #[.pointer (some ⟨pb, 0, none⟩), .int .i64 4, .func (.func 132) #[] #[.pointer (some ⟨ab, 0, none⟩), .pointer (some ⟨pp, 0, none⟩)]] wx fun e w' => e = .panicked (faultV n p) ∧ Only pb w w' from fun wx B ab pp hx => (HLC.out wx B ab pp hx).mono fun e w' he => by rw [hL] at he; exact he)
    clear hL HLC HR
    go_enter Tryz.func110, Tryz.ntmps110
    go_wp2_with (first
      | (go_at_call 118; refine (HK.out _ (HP.out.on (HB.out _))).mono ?_; rintro e w1 ⟨rfl, hb1⟩; have HB1 := Lib.hid hb1; have e0 := box_cell hb1 0 _ rfl; have HX1 := Lib.hid (Boxed.below (Boxed.new w 128 (.pointer (some ⟨pb, 0, none⟩))) hb1 (by simp)); have HP1 := Lib.hid ((HP.out.on (HB.out _)).on hb1); clear hb1)
      | (go_at_call 131; refine (HT.out _ HP1.out).mono ?_; rintro e w2 ⟨rfl, hp2, ho2⟩; have HP2 := Lib.hid hp2; have HO2 := Lib.hid ((Only.of (HB.out _)).trans ((Only.of HB1.out).trans ho2)); have HX2 := Lib.hid (Boxed.only HX1.out ho2 (by omega)); have e1 := Boxed.cell HX2.out; clear hp2 ho2)
      | (go_at_call 111; refine (HN.out _ HP2.out).mono ?_; rintro e w3 ⟨rfl, hp3, ho3⟩; have HP3 := Lib.hid hp3; have HO3 := Lib.hid (HO2.out.trans ho3); have HX3 := Lib.hid (Boxed.only HX2.out ho3 (by omega)); have e2 := Boxed.cell HX3.out; have e3 : ∀ o, (w3.alloc o).cell? ⟨w.heap.size, 0, none⟩ = some (.pointer (some ⟨pb, 0, none⟩)) := fun o => Boxed.cell (Boxed.below HX3.out (below1 w3 o) HX3.out.lt); have HI3 := Lib.hid (AI.start HO3.out HP3.out HX3.out hpb); clear hp3 ho3)
      | (go_at_call 112; refine (HL.out _ _ _ _ HI3.out).mono ?_; rintro e w4 ⟨rfl, ho4⟩))
    exact ⟨rfl, by rw [HR2.out]; exact ⟨rfl, ho4⟩⟩
  | ok lk =>
    obtain ⟨l, k'⟩ := lk
    have HL := Lib.hid (show ∀ wx B ab pp, AI w B pb ab pp s q c ts (k + 1 + 1) [] wx → Calls Tryz.prog 112 #[.pointer (some ⟨pb, 0, none⟩), .int .i64 4, .func (.func 132) #[] #[.pointer (some ⟨ab, 0, none⟩), .pointer (some ⟨pp, 0, none⟩)]] wx fun e w' => e = .returned (.tuple #[]) ∧ AI w B pb ab pp s q c ts k' l w' from fun wx B ab pp hx => (HLC.out wx B ab pp hx).mono fun e w' he => by rw [hL] at he; exact he)
    have HR2 := Lib.hid (show R = if textAt s ts k' = pshut then .ok ((x, l), k' + 1) else .error (6, placeAt s ts k') by rw [HR.out, hL])
    clear hL HLC HR
    by_cases hsh : textAt s ts k' = pshut
    · have HR3 := Lib.hid (HR2.out.trans (if_pos hsh))
      have HW := Lib.hid (show ∀ wx, Ps wx pb s q c ts k' → Calls Tryz.prog 115 #[.pointer (some ⟨pb, 0, none⟩), .string ⟨#[41]⟩] wx fun e w' => e = .returned (.tuple #[]) ∧ Ps w' pb s q c ts (k' + 1) ∧ Only pb wx w' from fun wx hx => want_yes wx pb s q c ts k' _ hx hsh (text_lt hsh (by decide)))
      clear hsh
      go_enter Tryz.func110, Tryz.ntmps110
      go_wp2_with (first
        | (go_at_call 118; refine (HK.out _ (HP.out.on (HB.out _))).mono ?_; rintro e w1 ⟨rfl, hb1⟩; have HB1 := Lib.hid hb1; have e0 := box_cell hb1 0 _ rfl; have HX1 := Lib.hid (Boxed.below (Boxed.new w 128 (.pointer (some ⟨pb, 0, none⟩))) hb1 (by simp)); have HP1 := Lib.hid ((HP.out.on (HB.out _)).on hb1); clear hb1)
        | (go_at_call 131; refine (HT.out _ HP1.out).mono ?_; rintro e w2 ⟨rfl, hp2, ho2⟩; have HP2 := Lib.hid hp2; have HO2 := Lib.hid ((Only.of (HB.out _)).trans ((Only.of HB1.out).trans ho2)); have HX2 := Lib.hid (Boxed.only HX1.out ho2 (by omega)); have e1 := Boxed.cell HX2.out; clear hp2 ho2)
        | (go_at_call 111; refine (HN.out _ HP2.out).mono ?_; rintro e w3 ⟨rfl, hp3, ho3⟩; have HP3 := Lib.hid hp3; have HO3 := Lib.hid (HO2.out.trans ho3); have HX3 := Lib.hid (Boxed.only HX2.out ho3 (by omega)); have e2 := Boxed.cell HX3.out; have e3 : ∀ o, (w3.alloc o).cell? ⟨w.heap.size, 0, none⟩ = some (.pointer (some ⟨pb, 0, none⟩)) := fun o => Boxed.cell (Boxed.below HX3.out (below1 w3 o) HX3.out.lt); have HI3 := Lib.hid (AI.start HO3.out HP3.out HX3.out hpb); clear hp3 ho3)
        | (go_at_call 112; refine (HL.out _ _ _ _ HI3.out).mono ?_; rintro e w4 ⟨rfl, hi4⟩; have HI4 := Lib.hid hi4; have e4 := Boxed.cell hi4.ptr; clear hi4)
        | (go_at_call 115; refine (HW.out _ HI4.out.ps).mono ?_; rintro e w5 ⟨rfl, hp5, ho5⟩; have HI5 := Lib.hid (HI4.out.step ho5 hp5); clear hp5 ho5))
      obtain ⟨v, hv, hown⟩ := HI5.out.arg
      have ev := Boxed.cell hv
      obtain ⟨q', c', rfl, hrd, _⟩ := grw_form EM (.inr hown) HI5.out.hi
      have HF := Lib.hid (own_fresh hown)
      have HRD := Lib.hid hrd
      have HLE := Lib.hid HO3.out.size
      have HZ := Lib.hid (Below.refl w5.heap.size w5)
      clear hv hown hrd
      go_quiet (fail)
      go_wp2_with fail
      go_ret2
      rw [HR3.out]
      exact ⟨q', c', rfl, HRD.out.grow (below_drewN' HZ.out _), fun b hb => Nat.le_trans HLE.out (Nat.le_trans (Nat.le_succ _) (HF.out b hb)), HI5.out.ps.on (below_drewN' HZ.out _), HI5.out.only.trans (Only.of (below_drewN' HZ.out _))⟩
    · have HR3 := Lib.hid (HR2.out.trans (if_neg hsh))
      have HW := Lib.hid (show ∀ wx, Ps wx pb s q c ts k' → Calls Tryz.prog 115 #[.pointer (some ⟨pb, 0, none⟩), .string ⟨#[41]⟩] wx fun e w' => e = .panicked (faultV 6 (placeAt s ts k')) ∧ Below wx.heap.size wx w' from fun wx hx => want_no wx pb s q c ts k' _ hx hsh)
      clear hsh
      go_enter Tryz.func110, Tryz.ntmps110
      go_wp2_with (first
        | (go_at_call 118; refine (HK.out _ (HP.out.on (HB.out _))).mono ?_; rintro e w1 ⟨rfl, hb1⟩; have HB1 := Lib.hid hb1; have e0 := box_cell hb1 0 _ rfl; have HX1 := Lib.hid (Boxed.below (Boxed.new w 128 (.pointer (some ⟨pb, 0, none⟩))) hb1 (by simp)); have HP1 := Lib.hid ((HP.out.on (HB.out _)).on hb1); clear hb1)
        | (go_at_call 131; refine (HT.out _ HP1.out).mono ?_; rintro e w2 ⟨rfl, hp2, ho2⟩; have HP2 := Lib.hid hp2; have HO2 := Lib.hid ((Only.of (HB.out _)).trans ((Only.of HB1.out).trans ho2)); have HX2 := Lib.hid (Boxed.only HX1.out ho2 (by omega)); have e1 := Boxed.cell HX2.out; clear hp2 ho2)
        | (go_at_call 111; refine (HN.out _ HP2.out).mono ?_; rintro e w3 ⟨rfl, hp3, ho3⟩; have HP3 := Lib.hid hp3; have HO3 := Lib.hid (HO2.out.trans ho3); have HX3 := Lib.hid (Boxed.only HX2.out ho3 (by omega)); have e2 := Boxed.cell HX3.out; have e3 : ∀ o, (w3.alloc o).cell? ⟨w.heap.size, 0, none⟩ = some (.pointer (some ⟨pb, 0, none⟩)) := fun o => Boxed.cell (Boxed.below HX3.out (below1 w3 o) HX3.out.lt); have HI3 := Lib.hid (AI.start HO3.out HP3.out HX3.out hpb); clear hp3 ho3)
        | (go_at_call 112; refine (HL.out _ _ _ _ HI3.out).mono ?_; rintro e w4 ⟨rfl, hi4⟩; have HI4 := Lib.hid hi4; have e4 := Boxed.cell hi4.ptr; clear hi4)
        | (go_at_call 115; refine (HW.out _ HI4.out.ps).mono ?_; rintro e w5 ⟨rfl, hb5⟩))
      exact ⟨rfl, by rw [HR3.out]; exact ⟨rfl, (HI4.out.on hb5).only⟩⟩
theorem atom_any (w : World) (pb : Nat) (s : ByteArray) (q : Option Addr) (c : Nat) (ts : List Tok) (k : Nat) (h : Ps w pb s q c ts k) :
    Calls Tryz.prog 110 #[.pointer (some ⟨pb, 0, none⟩)] w (AtomPost w pb s q c ts (atomR s ts k)) := by
  by_cases hk : kindAt ts k = 1
  · by_cases ht : textAt s ts (k + 1) = popen
    · exact atom_list w pb s q c ts k h hk ht
    · have hr : atomR s ts k = .ok ((textAt s ts k, []), k + 1) := by unfold atomR; rw [if_pos hk, if_neg ht]
      rw [hr]
      exact (atom_bare w pb s q c ts k h hk ht).mono fun e w' ⟨he, hp, ho⟩ => ⟨none, 0, he, .nil, (fun b hb => by cases hb), hp, ho⟩
  · have hr : atomR s ts k = .error (6, placeAt s ts k) := by unfold atomR; rw [if_neg hk]
    rw [hr]
    exact atom_bad w pb s q c ts k h hk
end Go.Proofs.YtfmkfabbiifolaaGreatDoor

/-
  A block of memory with all its cells.
-/
namespace Go.Proofs.YtfmkfabbiifolaaGreatDoor
open Go.RowKit

/-- Block b holds these cells. -/
def Bk (w : World) (b : Nat) (T : TypeId) (cs : Array Value) : Prop := w.heap[b]? = some (.cells cs T (0, 0))
section
variable {w w' : World} {b : Nat} {T : TypeId} {cs : Array Value}
theorem Bk.lt (h : Bk w b T cs) : b < w.heap.size := (Array.getElem?_eq_some_iff.1 h).1
theorem Bk.cell (h : Bk w b T cs) (i : Nat) (u : Value) (hu : cs.toList[i]? = some u) : w.cell? ⟨b, i, none⟩ = some u := by
  simp only [World.cell?, show w.heap[b]? = _ from h]
  simpa using hu
theorem Bk.soft (h : Bk w b T cs) (i : Nat) : w.frozen? ⟨b, i, none⟩ = false := by simp [World.frozen?, show w.heap[b]? = _ from h]
theorem Bk.new (w : World) (T : TypeId) (cs : Array Value) : Bk (w.alloc (.cells cs T)) w.heap.size T cs := World.alloc_heap_new w _
theorem Bk.drewNew (w : World) (m : Nat) (T : TypeId) (cs : Array Value) : Bk ((w.drewN m).alloc (.cells cs T)) w.heap.size T cs := World.alloc_heap_new (w.drewN m) _
theorem Bk.below {B : Nat} (h : Bk w b T cs) (hb : Below B w w') (hB : b < B) : Bk w' b T cs := (hb.block b hB).trans h
theorem Bk.on (h : Bk w b T cs) (hb : Below w.heap.size w w') : Bk w' b T cs := h.below hb h.lt
theorem Bk.only {pb : Nat} (h : Bk w b T cs) (ho : Only pb w w') (hn : b ≠ pb) : Bk w' b T cs := (ho.block b h.lt hn).trans h
theorem Bk.set (h : Bk w b T cs) (i : Nat) (v : Value) : Bk (w.setCell ⟨b, i, none⟩ v) b T (cs.setIfInBounds i v) := by
  obtain ⟨hlt, hk⟩ := Array.getElem?_eq_some_iff.1 h
  show (w.heap.modify b _)[b]? = _
  rw [Array.getElem?_eq_getElem (by rw [Array.size_modify]; exact hlt), Array.getElem_modify_self, hk]
  rfl
theorem Bk.other (h : Bk w b T cs) {b' : Nat} (hn : b ≠ b') (i : Nat) (v : Value) : Bk (w.setCell ⟨b', i, none⟩ v) b T cs :=
  (Below.heap_setCell w ⟨b', i, none⟩ v b hn).trans h
theorem Bk.boxed {v : Value} (h : Bk w b T #[v]) : Boxed w b T v := h
/-- six cells, and that all may be written -/
theorem Bk.six {a0 a1 a2 a3 a4 a5 : Value} (h : Bk w b T #[a0, a1, a2, a3, a4, a5]) :
    w.cell? ⟨b, 0, none⟩ = some a0 ∧ w.cell? ⟨b, 1, none⟩ = some a1 ∧ w.cell? ⟨b, 2, none⟩ = some a2 ∧ w.cell? ⟨b, 3, none⟩ = some a3 ∧ w.cell? ⟨b, 4, none⟩ = some a4 ∧ w.cell? ⟨b, 5, none⟩ = some a5 :=
  ⟨h.cell 0 _ rfl, h.cell 1 _ rfl, h.cell 2 _ rfl, h.cell 3 _ rfl, h.cell 4 _ rfl, h.cell 5 _ rfl⟩
theorem Bk.softs (h : Bk w b T cs) : w.frozen? ⟨b, 0, none⟩ = false ∧ w.frozen? ⟨b, 1, none⟩ = false ∧ w.frozen? ⟨b, 2, none⟩ = false ∧ w.frozen? ⟨b, 3, none⟩ = false ∧ w.frozen? ⟨b, 4, none⟩ = false ∧ w.frozen? ⟨b, 5, none⟩ = false ∧ w.frozen? ⟨b, 6, none⟩ = false :=
  ⟨h.soft 0, h.soft 1, h.soft 2, h.soft 3, h.soft 4, h.soft 5, h.soft 6⟩
end

/-! The parser's words over a token's number. -/
structure Lq where
  kind : Int
  who : Tm
  pred : ByteArray
  args : List Tm
structure Cq where
  head : Lq
  body : List Lq
def tmZ : Tm := ⟨⟨#[]⟩, ⟨#[]⟩, 0⟩
def wdIf : ByteArray := ⟨#[58, 45]⟩
def wdDot : ByteArray := ⟨#[46]⟩
def wdLess : ByteArray := ⟨#[60]⟩
def wdUnlike : ByteArray := ⟨#[33, 61]⟩
def wdNot : ByteArray := ⟨#[110, 111, 116]⟩
def wdSays : ByteArray := ⟨#[115, 97, 121, 115]⟩
def saidR (s : ByteArray) (ts : List Tok) (kind : Int) (k : Nat) : Except (Int × Int) (Lq × Nat) :=
  if kindAt ts k = 2 ∨ (kindAt ts k = 1 ∧ textAt s ts (k + 1) = wdSays) then
    if textAt s ts (k + 1) = wdSays then
      match atomR s ts (k + 2) with
      | .error e => .error e
      | .ok (a, k') => .ok (⟨kind, termR s ts k, a.1, a.2⟩, k')
    else .error (6, placeAt s ts (k + 1))
  else
    match atomR s ts k with
    | .error e => .error e
    | .ok (a, k') => .ok (⟨kind, tmZ, a.1, a.2⟩, k')
def compR (s : ByteArray) (ts : List Tok) (k : Nat) : Except (Int × Int) (Lq × Nat) :=
  if isT ts k then
    if textAt s ts (k + 1) = wdLess then
      if isT ts (k + 2) then .ok (⟨3, tmZ, ⟨#[]⟩, [termR s ts k, termR s ts (k + 2)]⟩, k + 3) else .error (6, placeAt s ts (k + 2))
    else if textAt s ts (k + 1) = wdUnlike then
      if isT ts (k + 2) then .ok (⟨4, tmZ, ⟨#[]⟩, [termR s ts k, termR s ts (k + 2)]⟩, k + 3) else .error (6, placeAt s ts (k + 2))
    else .error (6, placeAt s ts (k + 1))
  else .error (6, placeAt s ts k)
def litR (s : ByteArray) (ts : List Tok) (k : Nat) : Except (Int × Int) (Lq × Nat) :=
  if textAt s ts k = wdNot then saidR s ts 2 (k + 1)
  else if kindAt ts k = 3 ∨ textAt s ts (k + 1) = wdLess ∨ textAt s ts (k + 1) = wdUnlike then compR s ts k
  else saidR s ts 1 k
/-- more literals, each behind a comma, at most n -/
def moreL (s : ByteArray) (ts : List Tok) : Nat → List Lq → Nat → Except (Int × Int) (List Lq × Nat)
  | 0, acc, k => if textAt s ts k = comma then .error (2, placeAt s ts k) else .ok (acc, k)
  | n + 1, acc, k =>
    if textAt s ts k = comma then
      match litR s ts (k + 1) with
      | .error e => .error e
      | .ok (x, k') => moreL s ts n (acc ++ [x]) k'
    else .ok (acc, k)
def listL (s : ByteArray) (ts : List Tok) (n : Nat) (k : Nat) : Except (Int × Int) (List Lq × Nat) :=
  match litR s ts k with
  | .error e => .error e
  | .ok (x, k') => moreL s ts n [x] k'
def clauseR (s : ByteArray) (ts : List Tok) (k : Nat) : Except (Int × Int) (Cq × Nat) :=
  match atomR s ts k with
  | .error e => .error e
  | .ok (a, k1) =>
    if textAt s ts k1 = wdIf then
      match listL s ts 5 (k1 + 1) with
      | .error e => .error e
      | .ok (b, k2) => if textAt s ts k2 = wdDot then .ok (⟨⟨1, tmZ, a.1, a.2⟩, b⟩, k2 + 1) else .error (6, placeAt s ts k2)
    else if textAt s ts k1 = wdDot then .ok (⟨⟨1, tmZ, a.1, a.2⟩, []⟩, k1 + 1) else .error (6, placeAt s ts k1)
def wholeR {α : Type} (s : ByteArray) (ts : List Tok) (R : Except (Int × Int) (α × Nat)) : Except (Int × Int) α :=
  match R with
  | .error e => .error e
  | .ok (x, k) => if ts.length ≤ k then .ok x else .error (6, placeAt s ts k)
end Go.Proofs.YtfmkfabbiifolaaGreatDoor
