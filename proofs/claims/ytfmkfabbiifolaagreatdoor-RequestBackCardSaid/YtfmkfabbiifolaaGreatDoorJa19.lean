/-
  Joined of: Rqa, Rqb.
-/
import Derived.Test.YtfmkfabbiifolaaGreatDoorJa18
set_option linter.unusedVariables false
set_option linter.unusedSimpArgs false
/-
  The request's reader in memory. Contracts: kind, place, spelt, wrong, end.
-/
set_option linter.unusedVariables false
set_option linter.unusedSimpArgs false
namespace Go.Proofs.YtfmkfabbiifolaaGreatDoor
open Go.RowKit

/-- The request's reader lies at block rb: its text, its tokens, which one is next, where something is wrong, and what. -/
structure Rb (w : World) (rb : Nat) (s : ByteArray) (q : Option Addr) (c : Nat) (ts : List Tok) (k : Nat) (at_ er : Int) : Prop where
  box : Bk w rb 55 #[.string s, .slice q ts.length c, .int .i64 (k : Int), .int .i64 at_, .int .i64 er]
  rd : Rd encT 3 w rb q ts
  le : k ≤ ts.length
  src : Srcs s ts
  env : EnvB rb w
section
variable {w : World} {rb : Nat} {s : ByteArray} {q : Option Addr} {c : Nat} {ts : List Tok} {k : Nat} {at_ er : Int}
theorem Rb.lt (h : Rb w rb s q c ts k at_ er) : rb < w.heap.size := h.box.lt
theorem Rb.on {w' : World} (h : Rb w rb s q c ts k at_ er) (hb : Below w.heap.size w w') : Rb w' rb s q c ts k at_ er :=
  ⟨h.box.on hb, h.rd.below hb (Nat.le_of_lt h.lt), h.le, h.src, h.env.on (hb.mono (Nat.le_of_lt h.lt))⟩
theorem Rb.c0 (h : Rb w rb s q c ts k at_ er) : w.cell? ⟨rb, 0, none⟩ = some (.string s) := h.box.cell 0 _ rfl
theorem Rb.c1 (h : Rb w rb s q c ts k at_ er) : w.cell? ⟨rb, 1, none⟩ = some (.slice q ts.length c) := h.box.cell 1 _ rfl
theorem Rb.c2 (h : Rb w rb s q c ts k at_ er) : w.cell? ⟨rb, 2, none⟩ = some (.int .i64 k) := h.box.cell 2 _ rfl
theorem Rb.c3 (h : Rb w rb s q c ts k at_ er) : w.cell? ⟨rb, 3, none⟩ = some (.int .i64 at_) := h.box.cell 3 _ rfl
theorem Rb.c4 (h : Rb w rb s q c ts k at_ er) : w.cell? ⟨rb, 4, none⟩ = some (.int .i64 er) := h.box.cell 4 _ rfl
theorem Rb.set (h : Rb w rb s q c ts k at_ er) (k' : Nat) (hk : k' ≤ ts.length) : Rb (w.setCell ⟨rb, 2, none⟩ (.int .i64 k')) rb s q c ts k' at_ er := by
  have hb : Below rb w (w.setCell ⟨rb, 2, none⟩ (.int .i64 k')) := (Below.refl rb w).setCell (p := ⟨rb, 2, none⟩) (Nat.le_refl _) _
  exact ⟨h.box.set 2 _, h.rd.below hb (Nat.le_refl _), hk, h.src, h.env.on hb⟩
theorem Rb.put (h : Rb w rb s q c ts k at_ er) (a e : Int) : Rb ((w.setCell ⟨rb, 3, none⟩ (.int .i64 a)).setCell ⟨rb, 4, none⟩ (.int .i64 e)) rb s q c ts k a e := by
  have hb : Below rb w ((w.setCell ⟨rb, 3, none⟩ (.int .i64 a)).setCell ⟨rb, 4, none⟩ (.int .i64 e)) := ((Below.refl rb w).setCell (p := ⟨rb, 3, none⟩) (Nat.le_refl _) _).setCell (p := ⟨rb, 4, none⟩) (Nat.le_refl _) _
  exact ⟨(h.box.set 3 _).set 4 _, h.rd.below hb (Nat.le_refl _), h.le, h.src, h.env.on hb⟩
end
set_option maxHeartbeats 2000000 in
theorem qkind_any (w : World) (rb : Nat) (s : ByteArray) (q : Option Addr) (c : Nat) (ts : List Tok) (k n : Nat) (at_ er : Int) (h : Rb w rb s q c ts k at_ er) (hn : n ≤ 1) :
    Calls Tryz.prog 83 #[.pointer (some ⟨rb, 0, none⟩), .int .i64 n] w fun e w' => e = .returned (.int .u8 (kindAt ts (k + n))) ∧ Below w.heap.size w w' := by
  have c1 := h.c1
  have c2 := h.c2
  have hpb := h.lt
  have hle := h.le
  have hl := h.src.len
  have HB := Lib.hid (Below.refl w.heap.size w)
  by_cases hk : ts.length ≤ k + n
  · have HK := Lib.hid (show kindAt ts (k + n) = 0 by unfold kindAt; rw [List.getElem?_eq_none hk]; rfl)
    have he : (ts.length : Int) - (k : Int) ≤ (n : Int) := by omega
    clear h
    go_enter Tryz.func83, Tryz.ntmps83
    go_wp2_with fail
    have hw1 : wrap64 ((ts.length : Int) - (k : Int)) = (ts.length : Int) - (k : Int) := by unfold wrap64; omega
    have hw0 : IntKind.i64.wrap ((ts.length : Int) - (k : Int)) = (ts.length : Int) - (k : Int) := IntWalk.i64_in _ (by clear hw1; omega)
    go_quiet (fail)
    clear hw1 hw0
    go_wp2_with fail
    go_ret
    exact ⟨by rw [HK.out]; rfl, below_drewN' HB.out _⟩
  · have hlt : k + n < ts.length := by omega
    have HK := Lib.hid (kindAt_eq hlt)
    have he : ¬ (ts.length : Int) - (k : Int) ≤ (n : Int) := by omega
    obtain ⟨b, o, rfl, hb, x0, x1, x2⟩ := rdT_at h.rd (k + n) hlt
    clear h hle x1 x2
    go_enter Tryz.func83, Tryz.ntmps83
    go_wp2_with fail
    have hw1 : wrap64 ((ts.length : Int) - (k : Int)) = (ts.length : Int) - (k : Int) := by unfold wrap64; omega
    have hw0 : IntKind.i64.wrap ((ts.length : Int) - (k : Int)) = (ts.length : Int) - (k : Int) := IntWalk.i64_in _ (by clear hw1; omega)
    go_quiet (fail)
    clear hw1 hw0
    go_wp2_with fail
    have hi2 : (0 : Int) ≤ (k : Int) + (n : Int) := by omega
    have hi3 : (k : Int) + (n : Int) < (ts.length : Int) := by omega
    have hi5 : ((k : Int) + (n : Int)).toNat = k + n := by omega
    have hi1 : IntKind.i64.wrap ((k : Int) + (n : Int)) = (k : Int) + (n : Int) := IntWalk.i64_in _ (by omega)
    have hi4 : wrap64 ((k : Int) + (n : Int)) = (k : Int) + (n : Int) := by clear hi1; unfold wrap64; omega
    go_quiet (fail)
    clear hi1 hi4
    go_wp2_with fail
    go_ret
    exact ⟨by rw [HK.out]; rfl, below_drewN' (below_drewN' HB.out _) _⟩
set_option maxHeartbeats 2000000 in
theorem rplace_any (w : World) (rb : Nat) (s : ByteArray) (q : Option Addr) (c : Nat) (ts : List Tok) (k : Nat) (at_ er : Int) (h : Rb w rb s q c ts k at_ er) :
    Calls Tryz.prog 19 #[.pointer (some ⟨rb, 0, none⟩)] w fun e w' => e = .returned (.int .i64 (placeAt s ts k)) ∧ Below w.heap.size w w' := by
  have c0 := h.c0
  have c1 := h.c1
  have c2 := h.c2
  have hpb := h.lt
  have hle := h.le
  have hl := h.src.len
  have HB := Lib.hid (Below.refl w.heap.size w)
  by_cases hk : k = ts.length
  · have HK := Lib.hid (show placeAt s ts k = s.size by unfold placeAt; rw [List.getElem?_eq_none (by omega)])
    have he : ((k : Int) == (ts.length : Int)) = true := by simp; omega
    clear h hle
    go_enter Tryz.func19, Tryz.ntmps19
    go_wp2_with fail
    go_quiet (fail)
    go_wp2_with fail
    go_ret
    exact ⟨by rw [HK.out]; rfl, below_drewN' HB.out _⟩
  · have hlt : k < ts.length := by omega
    have HK := Lib.hid (show placeAt s ts k = ts[k].fr by unfold placeAt; rw [List.getElem?_eq_getElem hlt])
    have he : ((k : Int) == (ts.length : Int)) = false := by simp; omega
    obtain ⟨b, o, rfl, hb, x0, x1, x2⟩ := rdT_at h.rd k hlt
    clear h hle x0 x2
    go_enter Tryz.func19, Tryz.ntmps19
    go_wp2_with fail
    go_quiet (fail)
    go_wp2_with fail
    go_quiet (fail)
    go_wp2_with fail
    go_ret
    exact ⟨by rw [HK.out]; rfl, below_drewN' (below_drewN' HB.out _) _⟩
set_option maxHeartbeats 4000000 in
theorem rspelt_any (w : World) (rb : Nat) (s : ByteArray) (q : Option Addr) (c : Nat) (ts : List Tok) (k : Nat) (at_ er : Int) (h : Rb w rb s q c ts k at_ er) :
    Calls Tryz.prog 17 #[.pointer (some ⟨rb, 0, none⟩)] w fun e w' => e = .returned (.string (textAt s ts k)) ∧ Below w.heap.size w w' := by
  have c0 := h.c0
  have c1 := h.c1
  have c2 := h.c2
  have hpb := h.lt
  have hle := h.le
  have hl := h.src.len
  have hsz := h.src.size
  have HB := Lib.hid (Below.refl w.heap.size w)
  by_cases hk : k = ts.length
  · have HK := Lib.hid (textAt_none (s := s) (show ts.length ≤ k by omega))
    have he : ((k : Int) == (ts.length : Int)) = true := by simp; omega
    clear h
    go_enter Tryz.func17, Tryz.ntmps17
    go_wp2_with fail
    go_quiet (fail)
    go_wp2_with fail
    go_ret
    exact ⟨by rw [HK.out]; rfl, below_drewN' HB.out _⟩
  · have hlt : k < ts.length := by omega
    have HK := Lib.hid (textAt_some (s := s) hlt)
    have he : ((k : Int) == (ts.length : Int)) = false := by simp; omega
    have hp := h.src.pos _ (List.getElem_mem hlt)
    obtain ⟨b, o, rfl, hb, x0, x1, x2⟩ := rdT_at h.rd k hlt
    generalize ts[k] = t at *
    obtain ⟨kd, fr, te⟩ := t
    simp only at hp x0 x1 x2 HK
    obtain ⟨f, rfl⟩ := Int.eq_ofNat_of_zero_le hp.1
    obtain ⟨g, rfl⟩ := Int.eq_ofNat_of_zero_le (Int.le_trans hp.1 hp.2.1)
    have hfg : f ≤ g := by omega
    have hgs : g ≤ s.size := by omega
    have hb' : b < w.heap.size := by omega
    have hbn : b ≠ rb := by omega
    clear h hle hp
    have hk0 : (0 : Int) ≤ (k : Int) := by omega
    have hk1 : (k : Int) < (ts.length : Int) := by omega
    go_enter Tryz.func17, Tryz.ntmps17
    go_wp2_with fail
    go_quiet (fail)
    go_wp2_with fail
    have D0 := fun m => drew_box w m #[.int .u8 0, .int .i64 0, .int .i64 0] 86 0 _ rfl
    have D1 := fun m => drew_box w m #[.int .u8 0, .int .i64 0, .int .i64 0] 86 1 _ rfl
    have D2 := fun m => drew_box w m #[.int .u8 0, .int .i64 0, .int .i64 0] 86 2 _ rfl
    have E0 := fun m => drew_soft w m #[.int .u8 0, .int .i64 0, .int .i64 0] 86 0
    have E1 := fun m => drew_soft w m #[.int .u8 0, .int .i64 0, .int .i64 0] 86 1
    have E2 := fun m => drew_soft w m #[.int .u8 0, .int .i64 0, .int .i64 0] 86 2
    have KP := Lib.hid (show ∀ X, Below w.heap.size w X → X.cell? ⟨rb, 1, none⟩ = some (.slice (some ⟨b, o, none⟩) ts.length c) ∧ X.cell? ⟨rb, 2, none⟩ = some (.int .i64 k) ∧ X.cell? ⟨b, o + k * 3, none⟩ = some (.int .u8 kd) ∧ X.cell? ⟨b, o + k * 3 + 1, none⟩ = some (.int .i64 f) ∧ X.cell? ⟨b, o + k * 3 + 2, none⟩ = some (.int .i64 g) from
      fun X hX => ⟨(hX.cell (p := ⟨rb, 1, none⟩) hpb).trans c1, (hX.cell (p := ⟨rb, 2, none⟩) hpb).trans c2, (hX.cell (p := ⟨b, o + k * 3, none⟩) hb').trans x0, (hX.cell (p := ⟨b, o + k * 3 + 1, none⟩) hb').trans x1, (hX.cell (p := ⟨b, o + k * 3 + 2, none⟩) hb').trans x2⟩)
    have HS3 := Lib.hid (show ∀ m ob u0 u1 u2, Below w.heap.size w (((((w.drewN m).alloc ob).setCell ⟨w.heap.size, 0, none⟩ u0).setCell ⟨w.heap.size, 1, none⟩ u1).setCell ⟨w.heap.size, 2, none⟩ u2) from
      fun m ob u0 u1 u2 => ((((below_drewN' (Below.refl w.heap.size w) m).alloc (Nat.le_refl _) ob).setCell (p := ⟨w.heap.size, 0, none⟩) (Nat.le_refl _) u0).setCell (p := ⟨w.heap.size, 1, none⟩) (Nat.le_refl _) u1).setCell (p := ⟨w.heap.size, 2, none⟩) (Nat.le_refl _) u2)
    go_region_held3 (fun X => X.cell? ⟨rb, 1, none⟩ = some (.slice (some ⟨b, o, none⟩) ts.length c) ∧ X.cell? ⟨rb, 2, none⟩ = some (.int .i64 k) ∧ X.cell? ⟨b, o + k * 3, none⟩ = some (.int .u8 kd) ∧ X.cell? ⟨b, o + k * 3 + 1, none⟩ = some (.int .i64 f) ∧ X.cell? ⟨b, o + k * 3 + 2, none⟩ = some (.int .i64 g))
      (first
        | (exact KP.out _ (HS3.out _ _ _ _ _))
        | go_keep) (fail)
    have Z0 : ∀ m ob u0 u1 u2, (((((w.drewN m).alloc ob).setCell ⟨w.heap.size, 0, none⟩ u0).setCell ⟨w.heap.size, 1, none⟩ u1).setCell ⟨w.heap.size, 2, none⟩ u2).cell? ⟨rb, 0, none⟩ = some (.string s) :=
      fun m ob u0 u1 u2 => ((HS3.out m ob u0 u1 u2).cell (p := ⟨rb, 0, none⟩) hpb).trans c0
    have Z1 : ∀ m u0 u1 u2, (((((w.drewN m).alloc (.cells #[.int .u8 0, .int .i64 0, .int .i64 0] 86)).setCell ⟨w.heap.size, 0, none⟩ u0).setCell ⟨w.heap.size, 1, none⟩ u1).setCell ⟨w.heap.size, 2, none⟩ u2).cell? ⟨w.heap.size, 1, none⟩ = some u1 := fun m u0 u1 u2 => (load3' (D0 m) (D1 m) (D2 m) u0 u1 u2).2.1
    have Z2 : ∀ m u0 u1 u2, (((((w.drewN m).alloc (.cells #[.int .u8 0, .int .i64 0, .int .i64 0] 86)).setCell ⟨w.heap.size, 0, none⟩ u0).setCell ⟨w.heap.size, 1, none⟩ u1).setCell ⟨w.heap.size, 2, none⟩ u2).cell? ⟨w.heap.size, 2, none⟩ = some u2 := fun m u0 u1 u2 => (load3' (D0 m) (D1 m) (D2 m) u0 u1 u2).2.2
    clear D0 D1 D2 E0 E1 E2 KP
    have hf0 : (0 : Int) ≤ (f : Int) := by omega
    have hfg' : (f : Int) ≤ (g : Int) := by omega
    have hgs' : (g : Int) ≤ (s.size : Int) := by omega
    go_wp2_with fail
    go_quiet (fail)
    go_wp2_with fail
    go_ret
    exact ⟨by rw [HK.out]; simp, below_drewN' (HS3.out _ _ _ _ _) _⟩
/-- of what is wrong the first thing is kept -/
def firstW (er a e : Int) (at_ : Int) : Int × Int := if er = 0 then (a, e) else (at_, er)
set_option maxHeartbeats 2000000 in
theorem rwrong_any (w : World) (rb : Nat) (s : ByteArray) (q : Option Addr) (c : Nat) (ts : List Tok) (k : Nat) (at_ er a e : Int) (h : Rb w rb s q c ts k at_ er) :
    Calls Tryz.prog 18 #[.pointer (some ⟨rb, 0, none⟩), .int .i64 a, .int .i64 e] w fun en w' => en = .returned (.tuple #[]) ∧ Rb w' rb s q c ts k (firstW er a e at_).1 (firstW er a e at_).2 ∧ Only rb w w' := by
  have c3 := h.c3
  have c4 := h.c4
  have f3 := h.box.soft 3
  have f4 := h.box.soft 4
  have hpb := h.lt
  have HP := Lib.hid h
  clear h
  by_cases h0 : er = 0
  · subst h0
    go_enter Tryz.func18, Tryz.ntmps18
    go_wp2_with fail
    refine bodyPost_end (v := .tuple #[]) (results_none rfl _ _ _) rfl ?_
    exact ⟨rfl, HP.out.put a e, (Only.set rb w 3 _).trans (Only.set rb _ 4 _)⟩
  · have h1 : (er == 0) = false := beq_eq_false_iff_ne.2 h0
    have HF := Lib.hid (show firstW er a e at_ = (at_, er) by unfold firstW; rw [if_neg h0])
    go_enter Tryz.func18, Tryz.ntmps18
    go_wp2_with fail
    refine bodyPost_end (v := .tuple #[]) (results_none rfl _ _ _) rfl ?_
    exact ⟨rfl, by rw [HF.out]; exact HP.out, Only.refl _ _⟩
set_option maxHeartbeats 2000000 in
theorem rend_any (w : World) (rb : Nat) (s : ByteArray) (q : Option Addr) (c : Nat) (ts : List Tok) (k : Nat) (at_ er : Int) (h : Rb w rb s q c ts k at_ er) :
    Calls Tryz.prog 50 #[.pointer (some ⟨rb, 0, none⟩)] w fun en w' => en = .returned (.tuple #[]) ∧ Rb w' rb s q c ts k (if k < ts.length then (firstW er (placeAt s ts k) 6 at_).1 else at_) (if k < ts.length then (firstW er (placeAt s ts k) 6 at_).2 else er) ∧ Only rb w w' := by
  have c1 := h.c1
  have c2 := h.c2
  have hpb := h.lt
  have hle := h.le
  have HP := Lib.hid h
  have HB := Lib.hid (Below.refl w.heap.size w)
  by_cases hk : k < ts.length
  · have he : (k : Int) < (ts.length : Int) := by omega
    have HC := Lib.hid (fun X (hX : Below w.heap.size w X) => rplace_any X rb s q c ts k at_ er (HP.out.on hX))
    have HW := Lib.hid (fun X (hX : Below w.heap.size w X) => rwrong_any X rb s q c ts k at_ er (placeAt s ts k) 6 (HP.out.on hX))
    clear h
    rw [if_pos hk, if_pos hk]
    go_enter Tryz.func50, Tryz.ntmps50
    go_wp2_with fail
    go_quiet (fail)
    go_wp2_with (first
      | (go_at_call 19; refine (HC.out _ (below_drewN' HB.out _)).mono ?_; rintro e w1 ⟨rfl, hb1⟩; have HB1 := Lib.hid ((below_drewN' HB.out _).trans (hb1.mono (below_drewN' HB.out _).size)); clear hb1)
      | (go_at_call 18; refine (HW.out _ HB1.out).mono ?_; rintro e w2 ⟨rfl, hr2, ho2⟩; have HR2 := Lib.hid hr2; have HO2 := Lib.hid ho2; clear hr2 ho2))
    refine bodyPost_end (v := .tuple #[]) (results_none rfl _ _ _) rfl ?_
    exact ⟨rfl, HR2.out, (Only.of HB1.out).trans HO2.out⟩
  · have he : ¬ (k : Int) < (ts.length : Int) := by omega
    rw [if_neg hk, if_neg hk]
    clear h
    go_enter Tryz.func50, Tryz.ntmps50
    go_wp2_with fail
    go_quiet (fail)
    go_wp2_with fail
    refine bodyPost_end (v := .tuple #[]) (results_none rfl _ _ _) rfl ?_
    exact ⟨rfl, HP.out.on (below_drewN' HB.out _), Only.of (below_drewN' HB.out _)⟩
end Go.Proofs.YtfmkfabbiifolaaGreatDoor

/-
  Contracts: bounded; the request reader's number, name, life.
-/
set_option linter.unusedVariables false
set_option linter.unusedSimpArgs false
namespace Go.Proofs.YtfmkfabbiifolaaGreatDoor
open Go.RowKit

def boundB (n : Int) : Bool := decide (1 ≤ n) && decide (n ≤ 1099511627776)
theorem bounded_any (n : Int) (w : World) : Calls Tryz.prog 39 #[.int .i64 n] w fun e w' => e = .returned (.bool (boundB n)) ∧ w' = w := by
  by_cases h1 : 1 ≤ n
  · by_cases h2 : n ≤ 1099511627776
    · have HP := Lib.hid (show boundB n = true by unfold boundB; rw [decide_eq_true h1, decide_eq_true h2]; rfl)
      go_enter Tryz.func39, Tryz.ntmps39
      go_wp2_with fail
      go_ret
      exact ⟨by rw [HP.out]; rfl, by first | rfl | trivial⟩
    · have HP := Lib.hid (show boundB n = false by unfold boundB; rw [decide_eq_false h2]; simp)
      go_enter Tryz.func39, Tryz.ntmps39
      go_wp2_with fail
      go_ret
      exact ⟨by rw [HP.out]; rfl, by first | rfl | trivial⟩
  · have HP := Lib.hid (show boundB n = false by unfold boundB; rw [decide_eq_false h1]; rfl)
    go_enter Tryz.func39, Tryz.ntmps39
    go_wp2_with fail
    go_ret
    exact ⟨by rw [HP.out]; rfl, by first | rfl | trivial⟩
theorem readV_form (t : ByteArray) : ∃ b, readV t = .tuple #[.agg #[.string (readP t).1, .int .i64 (readP t).2], .bool b] ∧ (b = false → (readP t).2 = 0) := by
  unfold readV readP
  cases nameB t with
  | true => exact ⟨true, rfl, fun h => by cases h⟩
  | false =>
    rw [if_neg (by decide), if_neg (by decide)]
    cases readN t with
    | some v => exact ⟨true, rfl, fun h => by cases h⟩
    | none => exact ⟨false, rfl, fun _ => rfl⟩
theorem numR_yes {t : ByteArray} (h : boundB (readP t).2 = true) : numR t = (readP t).2 ∧ numR t ≠ 0 := by
  unfold boundB at h
  simp at h
  unfold numR
  rw [if_pos h]
  exact ⟨rfl, by omega⟩
theorem numR_no {t : ByteArray} (h : boundB (readP t).2 = false) : numR t = 0 := by
  unfold numR
  rw [if_neg]
  intro h2
  unfold boundB at h
  rw [decide_eq_true h2.1, decide_eq_true h2.2] at h
  cases h
theorem numR_empty : numR ⟨#[]⟩ = 0 := by decide +kernel
/-- what is left behind a number -/
structure NumPost (w : World) (rb : Nat) (s : ByteArray) (q : Option Addr) (c : Nat) (ts : List Tok) (k : Nat) (at_ er : Int) (e : Ending) (w' : World) : Prop where
  v : e = .returned (.int .i64 (numR (textAt s ts k)))
  r : Rb w' rb s q c ts (if numR (textAt s ts k) = 0 then k else k + 1) (if numR (textAt s ts k) = 0 then (firstW er (placeAt s ts k) 6 at_).1 else at_) (if numR (textAt s ts k) = 0 then (firstW er (placeAt s ts k) 6 at_).2 else er)
  o : Only rb w w'
set_option maxHeartbeats 4000000 in
set_option maxRecDepth 100000 in
theorem rnumber_any (w : World) (rb : Nat) (s : ByteArray) (q : Option Addr) (c : Nat) (ts : List Tok) (k : Nat) (at_ er : Int) (h : Rb w rb s q c ts k at_ er) :
    Calls Tryz.prog 49 #[.pointer (some ⟨rb, 0, none⟩)] w fun e w' => NumPost w rb s q c ts k at_ er e w' := by
  have HP := Lib.hid h
  have HSP := Lib.hid (rspelt_any w rb s q c ts k at_ er h)
  have htz : (textAt s ts k).size ≤ 140737488351232 := Nat.le_trans (textAt_size ts k h.src.size) (by decide)
  have HRD := Lib.hid (fun X (hX : Below w.heap.size w X) => read_any (textAt s ts k) X htz (h.on hX).env.env)
  have HPL := Lib.hid (fun X (hX : Below w.heap.size w X) => rplace_any X rb s q c ts k at_ er (h.on hX))
  have HWR := Lib.hid (fun X (hX : Below w.heap.size w X) => rwrong_any X rb s q c ts k at_ er (placeAt s ts k) 6 (h.on hX))
  obtain ⟨bk, hrv, hb0⟩ := readV_form (textAt s ts k)
  rw [hrv] at HRD
  have HB2 := Lib.hid (fun X (hX : Below w.heap.size w X) (o : Obj) => hX.trans ((below1 X o).mono hX.size))
  cases hbd : boundB (readP (textAt s ts k)).2 with
  | false =>
    have HN := Lib.hid (numR_no hbd)
    have HBD := Lib.hid (fun X => bounded_any (readP (textAt s ts k)).2 X)
    rw [hbd] at HBD
    clear hrv hbd htz h hb0
    suffices H : Calls Tryz.prog 49 #[.pointer (some ⟨rb, 0, none⟩)] w (fun e w' => e = .returned (.int .i64 0) ∧ Rb w' rb s q c ts k (firstW er (placeAt s ts k) 6 at_).1 (firstW er (placeAt s ts k) 6 at_).2 ∧ Only rb w w') from H.mono (fun e w' ⟨h1, h2, h3⟩ => ⟨by rw [HN.out]; exact h1, by rw [if_pos HN.out, if_pos HN.out, if_pos HN.out]; exact h2, h3⟩)
    generalize (readP (textAt s ts k)).1 = v1 at *
    generalize (readP (textAt s ts k)).2 = v2 at *
    generalize textAt s ts k = T at *
    generalize placeAt s ts k = L at *
    cases bk
    all_goals
      go_enter Tryz.func49, Tryz.ntmps49
      go_wp2_with (first
        | (go_at_call 17; refine (HSP.out).mono ?_; rintro e w1 ⟨rfl, hb1⟩; have HB1 := Lib.hid hb1; clear hb1)
        | (go_at_call 86; refine (HRD.out _ HB1.out).mono ?_; rintro e w2 ⟨rfl, hb2⟩; have HB3 := Lib.hid (HB2.out _ (HB1.out.trans (hb2.mono HB1.out.size)) (.cells #[.string v1, .int .i64 v2] 23)); clear hb2)
        | (go_at_call 39; refine (HBD.out _).mono ?_; rintro e w4 ⟨rfl, hw4⟩; rw [hw4]; clear hw4)
        | (go_at_call 19; refine (HPL.out _ HB3.out).mono ?_; rintro e w5 ⟨rfl, hb5⟩; have HB5 := Lib.hid (HB3.out.trans (hb5.mono HB3.out.size)); clear hb5)
        | (go_at_call 18; refine (HWR.out _ HB5.out).mono ?_; rintro e w6 ⟨rfl, hr6, ho6⟩; have HR6 := Lib.hid hr6; have HO6 := Lib.hid ((Only.of HB5.out).trans ho6); clear hr6 ho6))
      go_ret
      exact ⟨rfl, HR6.out, HO6.out⟩
  | true =>
    have HN := Lib.hid (numR_yes hbd)
    have HBD := Lib.hid (fun X => bounded_any (readP (textAt s ts k)).2 X)
    rw [hbd] at HBD
    have hlt : k < ts.length := by
      rcases Nat.lt_or_ge k ts.length with h' | h'
      · exact h'
      · exact absurd (by rw [textAt_none h']; exact numR_empty) HN.out.2
    obtain rfl : bk = true := by
      cases bk with
      | true => rfl
      | false =>
        have := hb0 rfl
        rw [this] at hbd
        cases hbd
    have hll := h.src.len
    have hpb := h.lt
    have HOK := Lib.hid (fun X (hX : Below w.heap.size w X) => h.on hX)
    clear hrv hbd htz h hb0
    suffices H : Calls Tryz.prog 49 #[.pointer (some ⟨rb, 0, none⟩)] w (fun e w' => e = .returned (.int .i64 (readP (textAt s ts k)).2) ∧ Rb w' rb s q c ts (k + 1) at_ er ∧ Only rb w w') from H.mono (fun e w' ⟨h1, h2, h3⟩ => ⟨by rw [HN.out.1]; exact h1, by rw [if_neg HN.out.2, if_neg HN.out.2, if_neg HN.out.2]; exact h2, h3⟩)
    generalize (readP (textAt s ts k)).1 = v1 at *
    generalize (readP (textAt s ts k)).2 = v2 at *
    generalize textAt s ts k = T at *
    generalize placeAt s ts k = L at *
    go_enter Tryz.func49, Tryz.ntmps49
    go_upto_region 5 with (first
        | (go_at_call 17; refine (HSP.out).mono ?_; rintro e w1 ⟨rfl, hb1⟩; have HB1 := Lib.hid hb1; clear hb1)
        | (go_at_call 86; refine (HRD.out _ HB1.out).mono ?_; rintro e w2 ⟨rfl, hb2⟩; have HB3 := Lib.hid (HB2.out _ (HB1.out.trans (hb2.mono HB1.out.size)) (.cells #[.string v1, .int .i64 v2] 23)); have HV3 := Lib.hid (Bk.new w2 23 #[.string v1, .int .i64 v2]); have hvs : w.heap.size ≤ w2.heap.size := (HB1.out.trans (hb2.mono HB1.out.size)).size; clear hb2)
        | (go_at_call 39; refine (HBD.out _).mono ?_; rintro e w4 ⟨rfl, hw4⟩; rw [hw4]; clear hw4))
    generalize w2.alloc (.cells #[.string v1, .int .i64 v2] 23) = w3 at *
    have HR3 := Lib.hid (HOK.out _ HB3.out)
    have c2 := HR3.out.c2
    have f2 := HR3.out.box.soft 2
    have hk1 : (k : Int) + 1 ≤ 4096 := by omega
    go_upto_region 6 with fail
    have HR4 := Lib.hid (HR3.out.set (k + 1) (by omega))
    have HV4 := Lib.hid (HV3.out.other (show w2.heap.size ≠ rb by omega) 2 (.int .i64 ((k + 1 : Nat) : Int)))
    have HO4 := Lib.hid ((Only.of HB3.out).trans (Only.set rb w3 2 (.int .i64 ((k + 1 : Nat) : Int))))
    have hcast : ((k + 1 : Nat) : Int) = (k : Int) + 1 := by omega
    rw [hcast] at HR4 HV4 HO4
    clear c2 f2 hcast
    generalize w3.setCell ⟨rb, 2, none⟩ (.int .i64 ((k : Int) + 1)) = w4 at *
    have d1 := HV4.out.cell 1 _ rfl
    go_wp2_with fail
    go_ret
    exact ⟨rfl, HR4.out, HO4.out⟩
/-- what is left behind a name -/
structure NamePost (w : World) (rb : Nat) (s : ByteArray) (q : Option Addr) (c : Nat) (ts : List Tok) (k : Nat) (at_ er : Int) (e : Ending) (w' : World) : Prop where
  v : e = .returned (.string (if kindAt ts k = 1 then textAt s ts k else ⟨#[]⟩))
  r : Rb w' rb s q c ts (if kindAt ts k = 1 then k + 1 else k) (if kindAt ts k = 1 then at_ else (firstW er (placeAt s ts k) 6 at_).1) (if kindAt ts k = 1 then er else (firstW er (placeAt s ts k) 6 at_).2)
  o : Only rb w w'
set_option maxHeartbeats 4000000 in
set_option maxRecDepth 100000 in
theorem rname_any (w : World) (rb : Nat) (s : ByteArray) (q : Option Addr) (c : Nat) (ts : List Tok) (k : Nat) (at_ er : Int) (h : Rb w rb s q c ts k at_ er) :
    Calls Tryz.prog 44 #[.pointer (some ⟨rb, 0, none⟩)] w fun e w' => NamePost w rb s q c ts k at_ er e w' := by
  have HKD := Lib.hid (qkind_any w rb s q c ts k 0 at_ er h (by omega))
  rw [Nat.add_zero] at HKD
  have HSP := Lib.hid (fun X (hX : Below w.heap.size w X) => rspelt_any X rb s q c ts k at_ er (h.on hX))
  have HPL := Lib.hid (fun X (hX : Below w.heap.size w X) => rplace_any X rb s q c ts k at_ er (h.on hX))
  have HWR := Lib.hid (fun X (hX : Below w.heap.size w X) => rwrong_any X rb s q c ts k at_ er (placeAt s ts k) 6 (h.on hX))
  have HOK := Lib.hid (fun X (hX : Below w.heap.size w X) => h.on hX)
  have hll := h.src.len
  by_cases hk : kindAt ts k = 1
  · have hlt := kindAt_lt (ts := ts) (k := k) (by rw [hk]; decide)
    clear h
    suffices H : Calls Tryz.prog 44 #[.pointer (some ⟨rb, 0, none⟩)] w (fun e w' => e = .returned (.string (textAt s ts k)) ∧ Rb w' rb s q c ts (k + 1) at_ er ∧ Only rb w w') from H.mono (fun e w' ⟨h1, h2, h3⟩ => ⟨by rw [if_pos hk]; exact h1, by rw [if_pos hk, if_pos hk, if_pos hk]; exact h2, h3⟩)
    rw [hk] at HKD
    clear hk
    generalize textAt s ts k = T at *
    generalize placeAt s ts k = L at *
    go_enter Tryz.func44, Tryz.ntmps44
    go_upto_region 5 with (first
        | (go_at_call 83; refine (HKD.out).mono ?_; rintro e w1 ⟨rfl, hb1⟩; have HB1 := Lib.hid hb1; clear hb1)
        | (go_at_call 17; refine (HSP.out _ HB1.out).mono ?_; rintro e w2 ⟨rfl, hb2⟩; have HB2 := Lib.hid (HB1.out.trans (hb2.mono HB1.out.size)); clear hb2))
    have HR3 := Lib.hid (HOK.out _ HB2.out)
    have c2 := HR3.out.c2
    have f2 := HR3.out.box.soft 2
    have hk1 : (k : Int) + 1 ≤ 4096 := by omega
    go_wp2_with fail
    go_ret
    exact ⟨rfl, HR3.out.set (k + 1) (by omega), (Only.of HB2.out).trans (Only.set rb w2 2 _)⟩
  · have hk2 : (kindAt ts k != 1) = true := by simpa using hk
    clear h
    suffices H : Calls Tryz.prog 44 #[.pointer (some ⟨rb, 0, none⟩)] w (fun e w' => e = .returned (.string ⟨#[]⟩) ∧ Rb w' rb s q c ts k (firstW er (placeAt s ts k) 6 at_).1 (firstW er (placeAt s ts k) 6 at_).2 ∧ Only rb w w') from H.mono (fun e w' ⟨h1, h2, h3⟩ => ⟨by rw [if_neg hk]; exact h1, by rw [if_neg hk, if_neg hk, if_neg hk]; exact h2, h3⟩)
    clear hk
    generalize kindAt ts k = K at *
    generalize placeAt s ts k = L at *
    go_enter Tryz.func44, Tryz.ntmps44
    go_wp2_with (first
        | (go_at_call 83; refine (HKD.out).mono ?_; rintro e w1 ⟨rfl, hb1⟩; have HB1 := Lib.hid hb1; clear hb1)
        | (go_at_call 19; refine (HPL.out _ HB1.out).mono ?_; rintro e w5 ⟨rfl, hb5⟩; have HB5 := Lib.hid (HB1.out.trans (hb5.mono HB1.out.size)); clear hb5)
        | (go_at_call 18; refine (HWR.out _ HB5.out).mono ?_; rintro e w6 ⟨rfl, hr6, ho6⟩; have HR6 := Lib.hid hr6; have HO6 := Lib.hid ((Only.of HB5.out).trans ho6); clear hr6 ho6))
    go_ret
    exact ⟨rfl, HR6.out, HO6.out⟩
/-- are the next tokens 'for' and a number -/
def forB (s : ByteArray) (ts : List Tok) (k : Nat) : Prop := textAt s ts k = wdFor ∧ kindAt ts (k + 1) = 3
set_option maxHeartbeats 4000000 in
set_option maxRecDepth 100000 in
theorem rlife_yes (w : World) (rb : Nat) (s : ByteArray) (q : Option Addr) (c : Nat) (ts : List Tok) (k : Nat) (at_ er : Int) (h : Rb w rb s q c ts k at_ er) (hf : forB s ts k) :
    Calls Tryz.prog 45 #[.pointer (some ⟨rb, 0, none⟩)] w fun e w' => NumPost w rb s q c ts (k + 1) at_ er e w' := by
  have HSP := Lib.hid (rspelt_any w rb s q c ts k at_ er h)
  have HKD := Lib.hid (fun X (hX : Below w.heap.size w X) => qkind_any X rb s q c ts k 1 at_ er (h.on hX) (by omega))
  have HNU := Lib.hid (fun X (hX : Rb X rb s q c ts (k + 1) at_ er) => rnumber_any X rb s q c ts (k + 1) at_ er hX)
  have HOK := Lib.hid (fun X (hX : Below w.heap.size w X) => h.on hX)
  have hll := h.src.len
  have hlt := kindAt_lt (ts := ts) (k := k + 1) (by rw [hf.2]; decide)
  rw [hf.1] at HSP
  rw [hf.2] at HKD
  unfold wdFor at HSP
  clear h hf
  go_enter Tryz.func45, Tryz.ntmps45
  go_upto_region 3 with (first
        | (go_at_call 17; refine (HSP.out).mono ?_; rintro e w1 ⟨rfl, hb1⟩; have HB1 := Lib.hid hb1; clear hb1)
        | (go_at_call 83; refine (HKD.out _ HB1.out).mono ?_; rintro e w2 ⟨rfl, hb2⟩; have HB2 := Lib.hid (HB1.out.trans (hb2.mono HB1.out.size)); clear hb2))
  have HR3 := Lib.hid (HOK.out _ HB2.out)
  have c2 := HR3.out.c2
  have f2 := HR3.out.box.soft 2
  have hk1 : (k : Int) + 1 ≤ 4096 := by omega
  have HR4 := Lib.hid (HR3.out.set (k + 1) (by omega))
  have HO4 := Lib.hid ((Only.of HB2.out).trans (Only.set rb w2 2 (.int .i64 ((k + 1 : Nat) : Int))))
  have hcast : ((k + 1 : Nat) : Int) = (k : Int) + 1 := by omega
  rw [hcast] at HR4 HO4
  clear hcast
  go_upto_region 4 with fail
  clear c2 f2
  generalize w2.setCell ⟨rb, 2, none⟩ (.int .i64 ((k : Int) + 1)) = w4 at *
  have HCN := Lib.hid (HNU.out _ HR4.out)
  go_wp2_with (go_at_call 49; refine (HCN.out).mono ?_; rintro e w5 ⟨rfl, hr5, ho5⟩; have HR5 := Lib.hid hr5; have HO5 := Lib.hid (HO4.out.trans ho5); clear hr5 ho5)
  go_ret
  exact ⟨rfl, HR5.out, HO5.out⟩
set_option maxHeartbeats 4000000 in
set_option maxRecDepth 100000 in
theorem rlife_no (w : World) (rb : Nat) (s : ByteArray) (q : Option Addr) (c : Nat) (ts : List Tok) (k : Nat) (at_ er : Int) (h : Rb w rb s q c ts k at_ er) (hf : ¬ forB s ts k) :
    Calls Tryz.prog 45 #[.pointer (some ⟨rb, 0, none⟩)] w fun e w' => e = .returned (.int .i64 0) ∧ Below w.heap.size w w' := by
  have HSP := Lib.hid (rspelt_any w rb s q c ts k at_ er h)
  have HKD := Lib.hid (fun X (hX : Below w.heap.size w X) => qkind_any X rb s q c ts k 1 at_ er (h.on hX) (by omega))
  clear h
  by_cases hw : textAt s ts k = wdFor
  · have hk : (kindAt ts (k + 1) != 3) = true := by rw [bne_iff_ne]; exact fun e => hf ⟨hw, e⟩
    rw [hw] at HSP
    unfold wdFor at HSP
    clear hf hw
    generalize kindAt ts (k + 1) = K at *
    go_enter Tryz.func45, Tryz.ntmps45
    go_wp2_with (first
        | (go_at_call 17; refine (HSP.out).mono ?_; rintro e w1 ⟨rfl, hb1⟩; have HB1 := Lib.hid hb1; clear hb1)
        | (go_at_call 83; refine (HKD.out _ HB1.out).mono ?_; rintro e w2 ⟨rfl, hb2⟩; have HB2 := Lib.hid (HB1.out.trans (hb2.mono HB1.out.size)); clear hb2))
    go_ret
    exact ⟨rfl, HB2.out⟩
  · have hq : ¬ (textAt s ts k).toList = [102, 111, 114] := fun he => by
      rw [ByteArray.toList_eq] at he
      exact hw (by unfold wdFor; rcases hy : textAt s ts k with ⟨⟨a⟩⟩; rw [hy] at he; cases he; rfl)
    clear hf hw
    generalize textAt s ts k = T at *
    go_enter Tryz.func45, Tryz.ntmps45
    go_wp2_with (go_at_call 17; refine (HSP.out).mono ?_; rintro e w1 ⟨rfl, hb1⟩; have HB1 := Lib.hid hb1; clear hb1)
    go_ret
    exact ⟨rfl, HB1.out⟩
end Go.Proofs.YtfmkfabbiifolaaGreatDoor
