/-
  Joined of: PrsB, PrsC, PrsD, ClkA, Trm.
-/
import Derived.Test.YtfmkfabbiifolaaGreatDoorJa07
import Derived.Deep.RegionHeld3
import Derived.IntWalk
import Derived.Deep.DeepCutAuto
import Derived.Test.YtfmkfabbiifolaaGreatDoorJa06
set_option linter.unusedVariables false
set_option linter.unusedSimpArgs false
/-
  Contracts: parser.spelt, parser.take, parser.took.
-/
namespace Go.Proofs.YtfmkfabbiifolaaGreatDoor
open Go.RowKit

/-- the text of the n-th token, none behind the last one -/
def textAt (s : ByteArray) (ts : List Tok) (n : Nat) : ByteArray := match ts[n]? with
  | some t => s.extract t.fr.toNat t.to.toNat
  | none => ⟨#[]⟩
theorem textAt_none {s : ByteArray} {ts : List Tok} {n : Nat} (h : ts.length ≤ n) : textAt s ts n = ⟨#[]⟩ := by
  unfold textAt; rw [List.getElem?_eq_none h]
theorem textAt_some {s : ByteArray} {ts : List Tok} {n : Nat} (h : n < ts.length) : textAt s ts n = s.extract ts[n].fr.toNat ts[n].to.toNat := by
  unfold textAt; rw [List.getElem?_eq_getElem h]

theorem drew_box (w : World) (m : Nat) (cs : Array Value) (T : TypeId) (i : Nat) (u : Value) (h : cs.toList[i]? = some u) : ((w.drewN m).alloc (.cells cs T)).cell? ⟨w.heap.size, i, none⟩ = some u := by
  have := World.news_of_block (heap_alloc_new (w.drewN m) (.cells cs T)) i u h
  rw [Addr.add_lit, Nat.zero_add] at this
  exact this
theorem drew_soft (w : World) (m : Nat) (cs : Array Value) (T : TypeId) (i : Nat) : ((w.drewN m).alloc (.cells cs T)).frozen? ⟨w.heap.size, i, none⟩ = false := by
  have : ((w.drewN m).alloc (.cells cs T)).heap[w.heap.size]? = some (.cells cs T) := heap_alloc_new (w.drewN m) (.cells cs T)
  simp only [World.frozen?, this, Option.bind_some]
  simp
theorem load3' {w : World} {b : Nat} {c1 c2 c3 : Value} (h1 : w.cell? ⟨b, 0, none⟩ = some c1) (h2 : w.cell? ⟨b, 1, none⟩ = some c2) (h3 : w.cell? ⟨b, 2, none⟩ = some c3) (u v t : Value) :
    (((w.setCell ⟨b, 0, none⟩ u).setCell ⟨b, 1, none⟩ v).setCell ⟨b, 2, none⟩ t).cell? ⟨b, 0, none⟩ = some u ∧ (((w.setCell ⟨b, 0, none⟩ u).setCell ⟨b, 1, none⟩ v).setCell ⟨b, 2, none⟩ t).cell? ⟨b, 1, none⟩ = some v ∧ (((w.setCell ⟨b, 0, none⟩ u).setCell ⟨b, 1, none⟩ v).setCell ⟨b, 2, none⟩ t).cell? ⟨b, 2, none⟩ = some t := by
  have n01 : (⟨b, 0, none⟩ : Addr) ≠ ⟨b, 1, none⟩ := by intro h; cases h
  have n02 : (⟨b, 0, none⟩ : Addr) ≠ ⟨b, 2, none⟩ := by intro h; cases h
  have n12 : (⟨b, 1, none⟩ : Addr) ≠ ⟨b, 2, none⟩ := by intro h; cases h
  refine ⟨?_, ?_, ?_⟩
  · rw [World.cell?_setCell_other _ _ _ _ n02.symm, World.cell?_setCell_other _ _ _ _ n01.symm]; exact World.cell?_setCell_same _ _ _ h1
  · rw [World.cell?_setCell_other _ _ _ _ n12.symm]; exact World.cell?_setCell_same _ _ _ (by rw [World.cell?_setCell_other _ _ _ _ n01]; exact h2)
  · exact World.cell?_setCell_same _ _ _ (by rw [World.cell?_setCell_other _ _ _ _ n12, World.cell?_setCell_other _ _ _ _ n02]; exact h3)
set_option maxHeartbeats 4000000 in
theorem spelt_any (w : World) (pb : Nat) (s : ByteArray) (q : Option Addr) (c : Nat) (ts : List Tok) (k n : Nat) (h : Ps w pb s q c ts k) (hn : n ≤ 1) :
    Calls Tryz.prog 119 #[.pointer (some ⟨pb, 0, none⟩), .int .i64 n] w fun e w' => e = .returned (.string (textAt s ts (k + n))) ∧ Below w.heap.size w w' := by
  have c0 := h.c0
  have c1 := h.c1
  have c2 := h.c2
  have hpb := h.lt
  have hle := h.le
  have hl := h.src.len
  have hsz := h.src.size
  have HB := Lib.hid (Below.refl w.heap.size w)
  by_cases hk : ts.length ≤ k + n
  · have HK := Lib.hid (textAt_none (s := s) hk)
    have he : (ts.length : Int) - (k : Int) ≤ (n : Int) := by omega
    clear h
    go_enter Tryz.func119, Tryz.ntmps119
    go_wp2_with fail
    have hw1 : wrap64 ((ts.length : Int) - (k : Int)) = (ts.length : Int) - (k : Int) := by unfold wrap64; omega
    have hw0 : IntKind.i64.wrap ((ts.length : Int) - (k : Int)) = (ts.length : Int) - (k : Int) := IntWalk.i64_in _ (by clear hw1; omega)
    go_quiet (fail)
    clear hw1 hw0
    go_wp2_with fail
    go_ret
    exact ⟨by rw [HK.out]; rfl, below_drewN' HB.out _⟩
  · have hlt : k + n < ts.length := by omega
    have HK := Lib.hid (textAt_some (s := s) hlt)
    have he : ¬ (ts.length : Int) - (k : Int) ≤ (n : Int) := by omega
    have hp := h.src.pos _ (List.getElem_mem hlt)
    obtain ⟨b, o, rfl, hb, x0, x1, x2⟩ := rdT_at h.rd (k + n) hlt
    generalize ts[k + n] = t at *
    obtain ⟨kd, fr, te⟩ := t
    simp only at hp x0 x1 x2 HK
    obtain ⟨f, rfl⟩ := Int.eq_ofNat_of_zero_le hp.1
    obtain ⟨g, rfl⟩ := Int.eq_ofNat_of_zero_le (Int.le_trans hp.1 hp.2.1)
    have hfg : f ≤ g := by omega
    have hgs : g ≤ s.size := by omega
    have hkn : ((k + n : Nat) : Int) = (k : Int) + (n : Int) := by omega
    have hb' : b < w.heap.size := by omega
    have hbn : b ≠ pb := by omega
    clear h hle hp hkn
    go_enter Tryz.func119, Tryz.ntmps119
    go_wp2_with fail
    have hw1 : wrap64 ((ts.length : Int) - (k : Int)) = (ts.length : Int) - (k : Int) := by unfold wrap64; omega
    have hw0 : IntKind.i64.wrap ((ts.length : Int) - (k : Int)) = (ts.length : Int) - (k : Int) := IntWalk.i64_in _ (by clear hw1; omega)
    go_quiet (fail)
    clear hw1 hw0
    go_wp2_with fail
    have hi2 : (0 : Int) ≤ (k : Int) + (n : Int) := by omega
    have hi3 : (k : Int) + (n : Int) < (ts.length : Int) := by omega
    have hi5 : ((k : Int) + (n : Int)).toNat = k + n := by omega
    have hi1 : IntKind.i64.wrap ((k : Int) + (n : Int)) = (k : Int) + (n : Int) := IntWalk.i64_in _ (by omega)
    have hi4 : wrap64 ((k : Int) + (n : Int)) = (k : Int) + (n : Int) := by clear hi1; unfold wrap64; omega
    have D0 := fun m => drew_box w m #[.int .u8 0, .int .i64 0, .int .i64 0] 86 0 _ rfl
    have D1 := fun m => drew_box w m #[.int .u8 0, .int .i64 0, .int .i64 0] 86 1 _ rfl
    have D2 := fun m => drew_box w m #[.int .u8 0, .int .i64 0, .int .i64 0] 86 2 _ rfl
    have E0 := fun m => drew_soft w m #[.int .u8 0, .int .i64 0, .int .i64 0] 86 0
    have E1 := fun m => drew_soft w m #[.int .u8 0, .int .i64 0, .int .i64 0] 86 1
    have E2 := fun m => drew_soft w m #[.int .u8 0, .int .i64 0, .int .i64 0] 86 2
    have KP := Lib.hid (show ∀ X, Below w.heap.size w X → X.cell? ⟨pb, 1, none⟩ = some (.slice (some ⟨b, o, none⟩) ts.length c) ∧ X.cell? ⟨pb, 2, none⟩ = some (.int .i64 k) ∧ X.cell? ⟨b, o + (k + n) * 3, none⟩ = some (.int .u8 kd) ∧ X.cell? ⟨b, o + (k + n) * 3 + 1, none⟩ = some (.int .i64 f) ∧ X.cell? ⟨b, o + (k + n) * 3 + 2, none⟩ = some (.int .i64 g) from
      fun X hX => ⟨(hX.cell (p := ⟨pb, 1, none⟩) hpb).trans c1, (hX.cell (p := ⟨pb, 2, none⟩) hpb).trans c2, (hX.cell (p := ⟨b, o + (k + n) * 3, none⟩) hb').trans x0, (hX.cell (p := ⟨b, o + (k + n) * 3 + 1, none⟩) hb').trans x1, (hX.cell (p := ⟨b, o + (k + n) * 3 + 2, none⟩) hb').trans x2⟩)
    have HS3 := Lib.hid (show ∀ m ob u0 u1 u2, Below w.heap.size w (((((w.drewN m).alloc ob).setCell ⟨w.heap.size, 0, none⟩ u0).setCell ⟨w.heap.size, 1, none⟩ u1).setCell ⟨w.heap.size, 2, none⟩ u2) from
      fun m ob u0 u1 u2 => ((((below_drewN' (Below.refl w.heap.size w) m).alloc (Nat.le_refl _) ob).setCell (p := ⟨w.heap.size, 0, none⟩) (Nat.le_refl _) u0).setCell (p := ⟨w.heap.size, 1, none⟩) (Nat.le_refl _) u1).setCell (p := ⟨w.heap.size, 2, none⟩) (Nat.le_refl _) u2)
    go_region_held3 (fun X => X.cell? ⟨pb, 1, none⟩ = some (.slice (some ⟨b, o, none⟩) ts.length c) ∧ X.cell? ⟨pb, 2, none⟩ = some (.int .i64 k) ∧ X.cell? ⟨b, o + (k + n) * 3, none⟩ = some (.int .u8 kd) ∧ X.cell? ⟨b, o + (k + n) * 3 + 1, none⟩ = some (.int .i64 f) ∧ X.cell? ⟨b, o + (k + n) * 3 + 2, none⟩ = some (.int .i64 g))
      (first
        | (exact KP.out _ (HS3.out _ _ _ _ _))
        | go_keep) (fail)
    have Z0 : ∀ m ob u0 u1 u2, (((((w.drewN m).alloc ob).setCell ⟨w.heap.size, 0, none⟩ u0).setCell ⟨w.heap.size, 1, none⟩ u1).setCell ⟨w.heap.size, 2, none⟩ u2).cell? ⟨pb, 0, none⟩ = some (.string s) :=
      fun m ob u0 u1 u2 => ((HS3.out m ob u0 u1 u2).cell (p := ⟨pb, 0, none⟩) hpb).trans c0
    have Z1 : ∀ m u0 u1 u2, (((((w.drewN m).alloc (.cells #[.int .u8 0, .int .i64 0, .int .i64 0] 86)).setCell ⟨w.heap.size, 0, none⟩ u0).setCell ⟨w.heap.size, 1, none⟩ u1).setCell ⟨w.heap.size, 2, none⟩ u2).cell? ⟨w.heap.size, 1, none⟩ = some u1 := fun m u0 u1 u2 => (load3' (D0 m) (D1 m) (D2 m) u0 u1 u2).2.1
    have Z2 : ∀ m u0 u1 u2, (((((w.drewN m).alloc (.cells #[.int .u8 0, .int .i64 0, .int .i64 0] 86)).setCell ⟨w.heap.size, 0, none⟩ u0).setCell ⟨w.heap.size, 1, none⟩ u1).setCell ⟨w.heap.size, 2, none⟩ u2).cell? ⟨w.heap.size, 2, none⟩ = some u2 := fun m u0 u1 u2 => (load3' (D0 m) (D1 m) (D2 m) u0 u1 u2).2.2
    clear hi1 hi4 D0 D1 D2 E0 E1 E2 KP
    have hf0 : (0 : Int) ≤ (f : Int) := by omega
    have hfg' : (f : Int) ≤ (g : Int) := by omega
    have hgs' : (g : Int) ≤ (s.size : Int) := by omega
    go_wp2_with fail
    go_quiet (fail)
    go_wp2_with fail
    go_ret
    exact ⟨by rw [HK.out]; simp, below_drewN' (HS3.out _ _ _ _ _) _⟩
end Go.Proofs.YtfmkfabbiifolaaGreatDoor

/-
  Contracts: parser.take, parser.took, parser.giveUp, parser.want, parser.end.
-/
namespace Go.Proofs.YtfmkfabbiifolaaGreatDoor
open Go.RowKit

set_option maxHeartbeats 2000000 in
theorem take_any (w : World) (pb : Nat) (s : ByteArray) (q : Option Addr) (c : Nat) (ts : List Tok) (k : Nat) (h : Ps w pb s q c ts k) (hk : k < ts.length) :
    Calls Tryz.prog 131 #[.pointer (some ⟨pb, 0, none⟩)] w fun e w' => e = .returned (.string (textAt s ts k)) ∧ Ps w' pb s q c ts (k + 1) ∧ Only pb w w' := by
  have HC := Lib.hid (spelt_any w pb s q c ts k 0 h (by omega))
  have HP := Lib.hid h
  have hl := h.src.len
  clear h
  go_enter Tryz.func131, Tryz.ntmps131
  go_wp2_with (go_at_call 119; refine (HC.out).mono ?_; rintro e w1 ⟨rfl, hb1⟩; have HP1 := Lib.hid (HP.out.on hb1); have c2 := HP1.out.c2; have f2 := HP1.out.f2; have HB1 := Lib.hid hb1; clear hb1)
  go_ret
  exact ⟨rfl, HP1.out.set (k + 1) (by omega), (Only.of HB1.out).trans (Only.set pb w1 2 _)⟩

set_option maxHeartbeats 2000000 in
theorem took_yes (w : World) (pb : Nat) (s : ByteArray) (q : Option Addr) (c : Nat) (ts : List Tok) (k : Nat) (x : ByteArray) (h : Ps w pb s q c ts k) (hx : textAt s ts k = x) (hk : k < ts.length) :
    Calls Tryz.prog 111 #[.pointer (some ⟨pb, 0, none⟩), .string x] w fun e w' => e = .returned (.bool true) ∧ Ps w' pb s q c ts (k + 1) ∧ Only pb w w' := by
  have HC := Lib.hid (hx ▸ spelt_any w pb s q c ts k 0 h (by omega))
  have HP := Lib.hid h
  have hl := h.src.len
  clear h hx
  go_enter Tryz.func111, Tryz.ntmps111
  go_wp2_with (go_at_call 119; refine (HC.out).mono ?_; rintro e w1 ⟨rfl, hb1⟩; have HP1 := Lib.hid (HP.out.on hb1); have c2 := HP1.out.c2; have f2 := HP1.out.f2; have HB1 := Lib.hid hb1; clear hb1)
  go_ret
  exact ⟨rfl, HP1.out.set (k + 1) (by omega), (Only.of HB1.out).trans (Only.set pb w1 2 _)⟩

set_option maxHeartbeats 2000000 in
theorem took_no (w : World) (pb : Nat) (s : ByteArray) (q : Option Addr) (c : Nat) (ts : List Tok) (k : Nat) (x : ByteArray) (h : Ps w pb s q c ts k) (hx : textAt s ts k ≠ x) :
    Calls Tryz.prog 111 #[.pointer (some ⟨pb, 0, none⟩), .string x] w fun e w' => e = .returned (.bool false) ∧ Below w.heap.size w w' := by
  have HC := Lib.hid (spelt_any w pb s q c ts k 0 h (by omega))
  clear h
  have hq : ((textAt s ts k).toList == x.toList) = false := by
    rw [beq_eq_false_iff_ne]; intro he
    rw [ByteArray.toList_eq, ByteArray.toList_eq] at he
    exact hx (by rcases hy : textAt s ts k with ⟨⟨a⟩⟩; rcases x with ⟨⟨b⟩⟩; rw [hy] at he; cases he; rfl)
  clear hx
  go_enter Tryz.func111, Tryz.ntmps111
  go_wp2_with (go_at_call 119; refine (HC.out).mono ?_; rintro e w1 ⟨rfl, hb1⟩)
  go_ret
  exact ⟨rfl, hb1⟩
end Go.Proofs.YtfmkfabbiifolaaGreatDoor

/-
  Contracts: parser.giveUp, parser.want, parser.end.
-/
namespace Go.Proofs.YtfmkfabbiifolaaGreatDoor
open Go.RowKit

/-- the place of the next token, the text's end behind the last one -/
def placeAt (s : ByteArray) (ts : List Tok) (k : Nat) : Int := match ts[k]? with
  | some t => t.fr
  | none => s.size
/-- what a parser that gives up throws -/
def faultV (n p : Int) : List PanicEntry := [{ v := .iface 141 (.agg #[.int .i64 n, .int .i64 p]), recovered := false }]

set_option maxHeartbeats 2000000 in
theorem giveUp_any (w : World) (pb : Nat) (s : ByteArray) (q : Option Addr) (c : Nat) (ts : List Tok) (k : Nat) (n : Int) (h : Ps w pb s q c ts k) :
    Calls Tryz.prog 130 #[.pointer (some ⟨pb, 0, none⟩), .int .i64 n] w fun e w' => e = .panicked (faultV n (placeAt s ts k)) ∧ Below w.heap.size w w' := by
  have c0 := h.c0
  have c1 := h.c1
  have c2 := h.c2
  have hpb := h.lt
  have hle := h.le
  have hl := h.src.len
  have hsz := h.src.size
  have HB := Lib.hid (Below.refl w.heap.size w)
  by_cases hk : k = ts.length
  · have HK := Lib.hid (show placeAt s ts k = s.size by unfold placeAt; rw [List.getElem?_eq_none (by omega)])
    have he : ¬ (k : Int) < (ts.length : Int) := by omega
    clear h hle
    go_enter Tryz.func130, Tryz.ntmps130
    go_wp2_with fail
    go_quiet (fail)
    go_wp2_with fail
    exact ⟨rfl, by rw [HK.out]; rfl, below_drewN' HB.out _⟩
  · have hlt : k < ts.length := by omega
    have HK := Lib.hid (show placeAt s ts k = ts[k].fr by unfold placeAt; rw [List.getElem?_eq_getElem hlt])
    have he : (k : Int) < (ts.length : Int) := by omega
    have hk0 : (0 : Int) ≤ (k : Int) := by omega
    obtain ⟨b, o, rfl, hb, x0, x1, x2⟩ := rdT_at h.rd k hlt
    clear h hle x0 x2
    go_enter Tryz.func130, Tryz.ntmps130
    go_wp2_with fail
    go_quiet (fail)
    go_wp2_with fail
    go_quiet (fail)
    go_wp2_with fail
    exact ⟨rfl, by rw [HK.out]; rfl, below_drewN' HB.out _⟩

set_option maxHeartbeats 2000000 in
theorem want_yes (w : World) (pb : Nat) (s : ByteArray) (q : Option Addr) (c : Nat) (ts : List Tok) (k : Nat) (x : ByteArray) (h : Ps w pb s q c ts k) (hx : textAt s ts k = x) (hk : k < ts.length) :
    Calls Tryz.prog 115 #[.pointer (some ⟨pb, 0, none⟩), .string x] w fun e w' => e = .returned (.tuple #[]) ∧ Ps w' pb s q c ts (k + 1) ∧ Only pb w w' := by
  have HC := Lib.hid (took_yes w pb s q c ts k x h hx hk)
  clear h hx
  go_enter Tryz.func115, Tryz.ntmps115
  go_wp2_with (go_at_call 111; refine (HC.out).mono ?_; rintro e w1 ⟨rfl, hp1, ho1⟩)
  go_end0
  exact ⟨rfl, hp1, ho1⟩
set_option maxHeartbeats 2000000 in
theorem want_no (w : World) (pb : Nat) (s : ByteArray) (q : Option Addr) (c : Nat) (ts : List Tok) (k : Nat) (x : ByteArray) (h : Ps w pb s q c ts k) (hx : textAt s ts k ≠ x) :
    Calls Tryz.prog 115 #[.pointer (some ⟨pb, 0, none⟩), .string x] w fun e w' => e = .panicked (faultV 6 (placeAt s ts k)) ∧ Below w.heap.size w w' := by
  have HC := Lib.hid (took_no w pb s q c ts k x h hx)
  have HP := Lib.hid h
  clear h hx
  go_enter Tryz.func115, Tryz.ntmps115
  go_wp2_with (first
    | (go_at_call 111; refine (HC.out).mono ?_; rintro e w1 ⟨rfl, hb1⟩; have HB1 := Lib.hid hb1; clear hb1)
    | (go_at_call 130; refine (giveUp_any _ _ _ _ _ _ _ _ (HP.out.on HB1.out)).mono ?_; rintro e w2 ⟨rfl, hb2⟩))
  exact ⟨rfl, rfl, HB1.out.trans (hb2.mono HB1.out.size)⟩

set_option maxHeartbeats 2000000 in
theorem end_yes (w : World) (pb : Nat) (s : ByteArray) (q : Option Addr) (c : Nat) (ts : List Tok) (k : Nat) (h : Ps w pb s q c ts k) (hk : k = ts.length) :
    Calls Tryz.prog 109 #[.pointer (some ⟨pb, 0, none⟩)] w fun e w' => e = .returned (.tuple #[]) ∧ Below w.heap.size w w' := by
  have c1 := h.c1
  have c2 := h.c2
  have hpb := h.lt
  have hl := h.src.len
  have he : ¬ (k : Int) < (ts.length : Int) := by omega
  have HB := Lib.hid (Below.refl w.heap.size w)
  clear h
  go_enter Tryz.func109, Tryz.ntmps109
  go_wp2_with fail
  go_quiet (fail)
  go_wp2_with fail
  go_end0
  exact ⟨rfl, below_drewN' HB.out _⟩
set_option maxHeartbeats 2000000 in
theorem end_no (w : World) (pb : Nat) (s : ByteArray) (q : Option Addr) (c : Nat) (ts : List Tok) (k : Nat) (h : Ps w pb s q c ts k) (hk : k < ts.length) :
    Calls Tryz.prog 109 #[.pointer (some ⟨pb, 0, none⟩)] w fun e w' => e = .panicked (faultV 6 (placeAt s ts k)) ∧ Below w.heap.size w w' := by
  have c1 := h.c1
  have c2 := h.c2
  have hpb := h.lt
  have hl := h.src.len
  have he : (k : Int) < (ts.length : Int) := by omega
  have HB := Lib.hid (Below.refl w.heap.size w)
  have HP := Lib.hid h
  clear h
  go_enter Tryz.func109, Tryz.ntmps109
  go_wp2_with fail
  go_quiet (fail)
  go_wp2_with (go_at_call 130; refine (giveUp_any _ _ _ _ _ _ _ _ (HP.out.on (below_drewN' HB.out _))).mono ?_; rintro e w2 ⟨rfl, hb2⟩)
  exact ⟨rfl, rfl, (below_drewN' HB.out _).trans hb2⟩
end Go.Proofs.YtfmkfabbiifolaaGreatDoor

/-
  Contracts: value.Good, clause.variable and clause.term answer as goodB, varB and termB say.
-/
namespace Go.Proofs.YtfmkfabbiifolaaGreatDoor
open Go.RowKit

set_option maxHeartbeats 400000 in
theorem good_any (s : ByteArray) (n : Int) (w : World) (hs : s.size ≤ maxLen) :
    Calls Tryz.prog 143 #[.agg #[.string s, .int .i64 n]] w fun e w' => e = .returned (.bool (goodB s n)) ∧ Below w.heap.size w w' := by
  by_cases h0 : s.toList.isEmpty = true
  · go_enter Tryz.func143, Tryz.ntmps143
    go_wp2_with fail
    go_ret
    exact ⟨by simp [goodB, h0], (Below.refl _ _).alloc (Nat.le_refl _) _⟩
  · have h0 : s.toList.isEmpty = false := by simpa using h0
    by_cases hn : (n == 0) = true
    · go_enter Tryz.func143, Tryz.ntmps143
      go_wp2_with (go_at_call 38; refine (name_any _ _ hs).mono ?_; rintro e w' ⟨rfl, rfl⟩)
      go_ret
      exact ⟨by simp [goodB, h0, hn], (Below.refl _ _).alloc (Nat.le_refl _) _⟩
    · have hn : (n == 0) = false := by simpa using hn
      go_enter Tryz.func143, Tryz.ntmps143
      go_wp2_with fail
      go_ret
      exact ⟨by simp [goodB, h0, hn], (Below.refl _ _).alloc (Nat.le_refl _) _⟩

/-- a text is one token, a variable's -/
def varB (s : ByteArray) : Bool := ((oneA s.data.toList 0).err == 0) && ((oneA s.data.toList 0).kind == 2) && ((if (oneA s.data.toList 0).err = 0 then (0 : Int) + (oneA s.data.toList 0).len else 0) == (s.size : Int))
theorem oneV0 (s : ByteArray) : ∃ kd fr tz er : Int, oneV s.data.toList 0 = .tuple #[.agg #[.int .u8 kd, .int .i64 fr, .int .i64 tz], .int .i64 er] ∧ varB s = ((er == 0) && (kd == 2) && (tz == (s.size : Int))) :=
  ⟨_, _, _, _, rfl, rfl⟩

set_option maxHeartbeats 1000000 in
theorem variable_any (s : ByteArray) (w : World) (hm : s.size ≤ 140737488351232) (he : Env w) :
    Calls Tryz.prog 144 #[.string s] w fun e w' => e = .returned (.bool (varB s)) ∧ Below w.heap.size w w' := by
  obtain ⟨kd, fr, tz, er, hv, hb⟩ := oneV0 s
  rw [hb]
  have HO := Lib.hid (show ∀ wx, Env wx → Calls Tryz.prog 42 #[.string s, .int .i64 0] wx fun e w' => e = .returned (.tuple #[.agg #[.int .u8 kd, .int .i64 fr, .int .i64 tz], .int .i64 er]) ∧ Below wx.heap.size wx w' from fun wx hx => hv ▸ one_any s 0 wx hm hx)
  have HE := Lib.hid he
  clear hb hv he hm
  cases h1 : (er == 0) with
  | false =>
    go_enter Tryz.func144, Tryz.ntmps144
    go_wp2_with (go_at_call 42; refine (HO.out _ HE.out).mono ?_; rintro e w1 ⟨rfl, hb1⟩)
    have HB := Lib.hid (hb1.alloc hb1.size (.cells #[.int .u8 kd, .int .i64 fr, .int .i64 tz] 86))
    go_ret
    exact ⟨by simp, HB.out⟩
  | true =>
    cases h2 : (kd == 2) with
    | false =>
      go_enter Tryz.func144, Tryz.ntmps144
      go_wp2_with (go_at_call 42; refine (HO.out _ HE.out).mono ?_; rintro e w1 ⟨rfl, hb1⟩)
      have HB := Lib.hid (hb1.alloc hb1.size (.cells #[.int .u8 kd, .int .i64 fr, .int .i64 tz] 86))
      go_ret
      exact ⟨by simp, HB.out⟩
    | true =>
      go_enter Tryz.func144, Tryz.ntmps144
      go_wp2_with (go_at_call 42; refine (HO.out _ HE.out).mono ?_; rintro e w1 ⟨rfl, hb1⟩)
      have HB := Lib.hid (hb1.alloc hb1.size (.cells #[.int .u8 kd, .int .i64 fr, .int .i64 tz] 86))
      go_ret
      exact ⟨by simp, HB.out⟩

/-- may a term be -/
def termB (v s : ByteArray) (n : Int) : Bool := if v.toList.isEmpty then goodB s n else (s.toList.isEmpty && n == 0) && varB v

set_option maxHeartbeats 1000000 in
theorem term_any (v s : ByteArray) (n : Int) (w : World) (hv : v.size ≤ 140737488351232) (hs : s.size ≤ maxLen) (he : Env w) :
    Calls Tryz.prog 129 #[.agg #[.string v, .string s, .int .i64 n]] w fun e w' => e = .returned (.bool (termB v s n)) ∧ Below w.heap.size w w' := by
  have HG := Lib.hid (fun wx => good_any s n wx hs)
  have HB := Lib.hid ((Below.refl w.heap.size w).alloc (Nat.le_refl _) (.cells #[.string v, .string s, .int .i64 n] 25))
  have HV := Lib.hid (fun wx hx => variable_any v wx hv hx)
  have HE := Lib.hid (he.on HB.out)
  clear hv he hs
  cases h0 : v.toList.isEmpty with
  | true =>
    go_enter Tryz.func129, Tryz.ntmps129
    go_wp2_with (go_at_call 143; refine (HG.out _).mono ?_; rintro e w1 ⟨rfl, hb1⟩)
    go_ret
    exact ⟨by simp [termB, h0], HB.out.trans (hb1.mono HB.out.size)⟩
  | false =>
    cases h1 : s.toList.isEmpty with
    | false =>
      go_enter Tryz.func129, Tryz.ntmps129
      go_wp2
      go_ret
      exact ⟨by simp [termB, h0, h1], HB.out⟩
    | true =>
      cases h2 : (n == 0) with
      | false =>
        go_enter Tryz.func129, Tryz.ntmps129
        go_wp2
        go_ret
        exact ⟨by simp [termB, h0, h1, h2], HB.out⟩
      | true =>
        go_enter Tryz.func129, Tryz.ntmps129
        go_wp2_with (go_at_call 144; refine (HV.out _ HE.out).mono ?_; rintro e w1 ⟨rfl, hb1⟩)
        go_ret
        exact ⟨by simp [termB, h0, h1, h2], HB.out.trans (hb1.mono HB.out.size)⟩

end Go.Proofs.YtfmkfabbiifolaaGreatDoor

/-
  Terms and literals in memory.
-/
namespace Go.Proofs.YtfmkfabbiifolaaGreatDoor
open Go.RowKit

structure Tm where
  v : ByteArray
  s : ByteArray
  n : Int
def encM (t : Tm) : List Value := [.string t.v, .string t.s, .int .i64 t.n]
def Tm.agg (t : Tm) : Value := .agg #[.string t.v, .string t.s, .int .i64 t.n]
theorem EM : Enc encM 3 := ⟨fun _ => rfl, by decide, fun a u hu => by simp [encM] at hu; rcases hu with rfl | rfl | rfl <;> rfl⟩
abbrev Tms := Rd encM 3
theorem rdM_at {w : World} {B : Nat} {p : Option Addr} {l : List Tm} (h : Tms w B p l) (i : Nat) (hi : i < l.length) : ∃ b o, p = some ⟨b, o, none⟩ ∧ b < B ∧ w.cell? ⟨b, o + i * 3, none⟩ = some (.string l[i].v) ∧ w.cell? ⟨b, o + i * 3 + 1, none⟩ = some (.string l[i].s) ∧ w.cell? ⟨b, o + i * 3 + 2, none⟩ = some (.int .i64 l[i].n) := by
  obtain ⟨b, o, rfl, hb, hc⟩ := h.at i hi
  exact ⟨b, o, rfl, hb, hc 0 _ rfl, hc 1 _ rfl, hc 2 _ rfl⟩
theorem infoTerm : (Tryz.prog.info? 25).map (fun i => (i.zero, i.size, i.bytes)) = some (some (.agg #[.string ⟨#[]⟩, .string ⟨#[]⟩, .int .i64 0]), 3, 40) := by kernel_rfl
/-- the texts are of a size that a text can have -/
structure Tm.Sz (t : Tm) : Prop where
  v : t.v.size ≤ 140737488351232
  s : t.s.size ≤ 140737488351232

/-- A literal; where its terms lie. -/
structure Lp where
  kind : Int
  who : Tm
  pred : ByteArray
  ptr : Option Addr
  cap : Nat
  args : List Tm
def encL (l : Lp) : List Value := [.int .u8 l.kind, .string l.who.v, .string l.who.s, .int .i64 l.who.n, .string l.pred, .slice l.ptr l.args.length l.cap]
def Lp.agg (l : Lp) : Value := .agg #[.int .u8 l.kind, .string l.who.v, .string l.who.s, .int .i64 l.who.n, .string l.pred, .slice l.ptr l.args.length l.cap]
theorem EL : Enc encL 6 := ⟨fun _ => rfl, by decide, fun a u hu => by simp [encL] at hu; rcases hu with rfl | rfl | rfl | rfl | rfl | rfl <;> rfl⟩
theorem infoLit : (Tryz.prog.info? 28).map (fun i => (i.zero, i.size, i.bytes)) = some (some (.agg #[.int .u8 0, .string ⟨#[]⟩, .string ⟨#[]⟩, .int .i64 0, .string ⟨#[]⟩, .slice none 0 0]), 6, 88) := by kernel_rfl
/-- A literal lies in memory below B. -/
structure Lp.In (l : Lp) (w : World) (B : Nat) : Prop where
  args : Tms w B l.ptr l.args
  len : l.args.length ≤ 35184372088832
  who : l.who.Sz
  pred : l.pred.size ≤ 140737488351232
  sz : ∀ t ∈ l.args, t.Sz
theorem Lp.In.on {l : Lp} {w w' : World} {B B' : Nat} (h : l.In w B) (hb : Below B' w w') (hB : B ≤ B') : l.In w' B := ⟨h.args.below hb hB, h.len, h.who, h.pred, h.sz⟩
/-- Literals in memory. -/
structure Lits (w : World) (B : Nat) (p : Option Addr) (ls : List Lp) : Prop where
  rd : Rd encL 6 w B p ls
  each : ∀ l ∈ ls, l.In w B
  len : ls.length ≤ 35184372088832
theorem Lits.on {p : Option Addr} {ls : List Lp} {w w' : World} {B B' : Nat} (h : Lits w B p ls) (hb : Below B' w w') (hB : B ≤ B') : Lits w' B p ls := ⟨h.rd.below hb hB, fun l hl => (h.each l hl).on hb hB, h.len⟩
theorem rdL_at {w : World} {B : Nat} {p : Option Addr} {l : List Lp} (h : Rd encL 6 w B p l) (i : Nat) (hi : i < l.length) : ∃ b o, p = some ⟨b, o, none⟩ ∧ b < B ∧ w.cell? ⟨b, o + i * 6, none⟩ = some (.int .u8 l[i].kind) ∧ w.cell? ⟨b, o + i * 6 + 1, none⟩ = some (.string l[i].who.v) ∧ w.cell? ⟨b, o + i * 6 + 2, none⟩ = some (.string l[i].who.s) ∧ w.cell? ⟨b, o + i * 6 + 3, none⟩ = some (.int .i64 l[i].who.n) ∧ w.cell? ⟨b, o + i * 6 + 4, none⟩ = some (.string l[i].pred) ∧ w.cell? ⟨b, o + i * 6 + 5, none⟩ = some (.slice l[i].ptr l[i].args.length l[i].cap) := by
  obtain ⟨b, o, rfl, hb, hc⟩ := h.at i hi
  exact ⟨b, o, rfl, hb, hc 0 _ rfl, hc 1 _ rfl, hc 2 _ rfl, hc 3 _ rfl, hc 4 _ rfl, hc 5 _ rfl⟩
/-- a box's cells, and that it may be written, in a later world -/
theorem box_cell {w w1 : World} {cs : Array Value} {T : TypeId} (hb : Below (w.alloc (.cells cs T)).heap.size (w.alloc (.cells cs T)) w1) (i : Nat) (u : Value) (h : cs.toList[i]? = some u) : w1.cell? ⟨w.heap.size, i, none⟩ = some u := by
  rw [hb.cell (p := ⟨w.heap.size, i, none⟩) (by simp)]
  have := World.news_of_block (heap_alloc_new w (.cells cs T)) i u h
  rw [Addr.add_lit, Nat.zero_add] at this
  exact this
theorem box_soft {w w1 : World} {cs : Array Value} {T : TypeId} (hb : Below (w.alloc (.cells cs T)).heap.size (w.alloc (.cells cs T)) w1) (i : Nat) : w1.frozen? ⟨w.heap.size, i, none⟩ = false := by
  rw [hb.frozen (p := ⟨w.heap.size, i, none⟩) (by simp)]
  have : (w.alloc (.cells cs T)).heap[w.heap.size]? = some (.cells cs T) := heap_alloc_new w (.cells cs T)
  simp only [World.frozen?, this, Option.bind_some]
  simp
theorem box_lt {w w1 : World} {o : Obj} (hb : Below (w.alloc o).heap.size (w.alloc o) w1) : w.heap.size < w1.heap.size := Nat.lt_of_lt_of_le (by simp) hb.size
end Go.Proofs.YtfmkfabbiifolaaGreatDoor
