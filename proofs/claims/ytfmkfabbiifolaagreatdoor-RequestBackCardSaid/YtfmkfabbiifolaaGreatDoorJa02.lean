/-
  Joined of: Text, Read, Read2, Dec, Back, Num, NumA, NumB, NumC, Num2.
-/
import Derived.Test.YtfmkfabbiifolaaGreatDoorJa01
import Derived.Lib.SmallJoins
import Derived.Lib.ParseIntB
import Derived.Lib.ItoaNum
import Derived.RegionTactic
import Derived.Deep.RegionHeld3
import Derived.Laws.BytesString
set_option linter.unusedVariables false
set_option linter.unusedSimpArgs false
/-
  Contracts: strconv.FormatInt at base 10 with 'Below', value.Text, value.Read; the tables and sentinels that they read.
-/
namespace Go.Proofs.YtfmkfabbiifolaaGreatDoor
open Go.RowKit Go.Sort

/-- What the listed variables hold, as the walks need it. -/
structure Env (w : World) : Prop where
  tab : Lib.TabIs Tryz.prog w "internal/strconv.uint64pow10" .u64 Lib.pow10Tab
  syn : ∃ t p, w.var? Tryz.prog "strconv.ErrSyntax" = some #[.iface t p]
  rng : ∃ t p, w.var? Tryz.prog "strconv.ErrRange" = some #[.iface t p]
theorem var_on {w w' : World} {n : String} {v : Array Value} (h : w.var? Tryz.prog n = some v) (hb : Below w.heap.size w w') : w'.var? Tryz.prog n = some v := by
  unfold World.var? at *
  cases hg : Tryz.prog.globalNamed n with
  | none => simp [hg] at h
  | some g =>
    simp only [hg, Option.bind_some] at h ⊢
    have hlt : g < w.heap.size := by
      rcases Nat.lt_or_ge g w.heap.size with h' | h'
      · exact h'
      · rw [Array.getElem?_eq_none h'] at h; simp at h
    rw [hb.block g hlt]
    exact h
theorem Env.on {w w' : World} (h : Env w) (hb : Below w.heap.size w w') : Env w' :=
  ⟨var_on h.tab hb, by obtain ⟨t, p, e⟩ := h.syn; exact ⟨t, p, var_on e hb⟩, by obtain ⟨t, p, e⟩ := h.rng; exact ⟨t, p, var_on e hb⟩⟩

theorem below_grow (w : World) (os : Array Obj) : Below w.heap.size w (grow w os) :=
  ⟨rfl, rfl, rfl, by simp [grow], fun k hk => by simp [grow, Array.getElem?_append, hk]⟩
theorem below_drewN' {B : Nat} {a w : World} (h : Below B a w) : ∀ n, Below B a (w.drewN n)
  | 0 => h
  | n + 1 => (below_drewN' h n).drew

def itoaS (n : Int) : ByteArray := ⟨(Lib.itoa n).toArray⟩

theorem formatInt_any (n : Int) (w : World) (h0 : -9223372036854775808 ≤ n) (h1 : n ≤ 9223372036854775807) (he : Env w) :
    Calls Tryz.prog 96 #[.int .i64 n, .int .i64 10] w fun e w' => e = .returned (.string (itoaS n)) ∧ Below w.heap.size w w' := by
  refine (Tryz.strconv_FormatInt_10 n h0 h1 w he.tab).mono ?_
  rintro e w' ⟨rfl, k, os, rfl⟩
  refine ⟨rfl, ?_⟩
  have h := below_drewN' (Below.refl w.heap.size w) k
  have g := below_grow (w.drewN k) os
  exact h.trans (g.mono h.size)

/-- what value.Text answers. -/
def textS (s : ByteArray) (n : Int) : ByteArray := if goodB s n = true then (if s.toList.isEmpty = true then itoaS n else s) else ⟨#[]⟩

theorem app1 {w w1 : World} {o : Obj} (hb : Below (w.alloc o).heap.size (w.alloc o) w1) : Below w.heap.size w w1 :=
  ((Below.refl _ _).alloc (Nat.le_refl _) _).trans (hb.mono (by simp))

set_option maxHeartbeats 400000 in
theorem read_name (s : ByteArray) (w : World) (hs : s.size ≤ maxLen) (hn : nameB s = true) :
    Calls Tryz.prog 86 #[.string s] w fun e w' => e = .returned (.tuple #[.agg #[.string s, .int .i64 0], .bool true]) ∧ Below w.heap.size w w' := by
  go_enter Tryz.func86, Tryz.ntmps86
  go_wp2_with (go_at_call 38; refine (name_any _ _ hs).mono ?_; rintro e w' ⟨rfl, rfl⟩)
  refine bodyPost_ret (v := .tuple #[.agg #[.string s, .int .i64 0], .bool true]) (by simp [results, Tryz.results86, go_sem]) rfl ⟨rfl, ?_⟩
  exact ((Below.refl _ _).alloc (Nat.le_refl _) _)

end Go.Proofs.YtfmkfabbiifolaaGreatDoor

/-
  Contract: value.Read at every text.
-/
namespace Go.Proofs.YtfmkfabbiifolaaGreatDoor
open Go.RowKit Go.Sort

/-- the number that a text is the text of -/
def readN (s : ByteArray) : Option Int := match Lib.parseIntB 64 s.data.toList with
  | .ok v => if Lib.itoa v = s.data.toList then some v else none
  | _ => none
/-- what value.Read answers -/
def readV (s : ByteArray) : Value := if nameB s = true then .tuple #[.agg #[.string s, .int .i64 0], .bool true] else
  match readN s with
  | some v => .tuple #[.agg #[.string ⟨#[]⟩, .int .i64 v], .bool true]
  | none => .tuple #[.agg #[.string ⟨#[]⟩, .int .i64 0], .bool false]

theorem parseUintM_le (M : Nat) : ∀ (l : List UInt8) (acc u : Nat), acc ≤ M → Lib.parseUintM M acc l = .ok u → u ≤ M
  | [], acc, u, h, e => by simp [Lib.parseUintM] at e; omega
  | c :: r, acc, u, h, e => by
    rw [Lib.parseUintM] at e
    by_cases h1 : 48 ≤ c.toNat ∧ c.toNat ≤ 57
    · rw [if_pos h1] at e
      by_cases h2 : 1844674407370955162 ≤ acc
      · rw [if_pos h2] at e; cases e
      · rw [if_neg h2] at e
        by_cases h3 : M < acc * 10 + (c.toNat - 48)
        · rw [if_pos h3] at e; cases e
        · rw [if_neg h3] at e; exact parseUintM_le M r _ u (by omega) e
    · rw [if_neg h1] at e; cases e
theorem parseIntB_bd (l : List UInt8) (v : Int) (h : Lib.parseIntB 64 l = .ok v) : -9223372036854775808 ≤ v ∧ v ≤ 9223372036854775807 := by
  unfold Lib.parseIntB at h
  cases l with
  | nil => cases h
  | cons c r =>
    simp only at h
    split at h
    · cases h
    · cases h
    · rename_i u hu
      by_cases h1 : ¬ (c.toNat = 45) ∧ 2 ^ (64 - 1) ≤ u
      · rw [if_pos h1] at h; cases h
      · rw [if_neg h1] at h
        by_cases h2 : c.toNat = 45 ∧ 2 ^ (64 - 1) < u
        · rw [if_pos h2] at h; cases h
        · rw [if_neg h2] at h
          simp only [Lib.NumEnd.ok.injEq] at h
          have e63 : (2 : Nat) ^ (64 - 1) = 9223372036854775808 := by decide
          rw [e63] at h1 h2
          by_cases h3 : c.toNat = 45
          · rw [if_pos h3] at h; omega
          · rw [if_neg h3] at h; omega

theorem below_bytes {w w1 : World} (h : w1 = w ∨ ∃ t, w1 = Lib.bytesWorld w 5 t) : Below w.heap.size w w1 := by
  rcases h with rfl | ⟨t, rfl⟩
  · exact Below.refl _ _
  · exact Lib.bytesWorld_below _ _ _

set_option maxHeartbeats 1000000 in
theorem read_num (s : ByteArray) (w : World) (hs : s.size ≤ 140737488351232) (hn : nameB s = false) (v : Int) (hp : Lib.parseIntB 64 s.data.toList = .ok v) (he : Env w) :
    Calls Tryz.prog 86 #[.string s] w fun e w' => e = .returned (if Lib.itoa v = s.data.toList then .tuple #[.agg #[.string ⟨#[]⟩, .int .i64 v], .bool true] else .tuple #[.agg #[.string ⟨#[]⟩, .int .i64 0], .bool false]) ∧ Below w.heap.size w w' := by
  obtain ⟨h0, h1⟩ := parseIntB_bd _ _ hp
  have hm : s.size ≤ maxLen := by unfold maxLen; omega
  have hB := (Below.refl w.heap.size w).alloc (Nat.le_refl _) (.cells #[.string ⟨#[]⟩, .int .i64 0] 23)
  have HB := Lib.hid hB
  have HE := Lib.hid he
  have HP := Lib.hid hp
  clear he hp hB
  by_cases hi : Lib.itoa v = s.data.toList
  · rw [if_pos hi]
    have hq : ((itoaS v).toList == s.toList) = true := by rw [ByteArray.toList_eq, ByteArray.toList_eq]; simp [itoaS, hi]
    clear hi
    go_enter Tryz.func86, Tryz.ntmps86
    go_wp2_with (go_at_call 38; refine (name_any _ _ hm).mono ?_; rintro e w' ⟨rfl, rfl⟩)
    refine (Tryz.strconv_ParseInt_10_at64_ok s (by omega) v HP.out _).mono ?_
    rintro e w1 ⟨rfl, hw1⟩
    have hb1 := below_bytes hw1
    clear hw1
    obtain ⟨hc1, hf1⟩ := bcell hb1
    have hs1 := hb1.size
    go_wp2_with fail
    refine (formatInt_any v _ h0 h1 ((HE.out.on HB.out).on hb1)).mono ?_
    rintro e w2 ⟨rfl, hb2⟩
    obtain ⟨hc2, hf2⟩ := bcell hb2
    have hs2 := hb2.size
    have hz : w.heap.size < w1.heap.size := by simp at hs1; omega
    have hz2 : w.heap.size < w2.heap.size := by omega
    go_wp2_with fail
    refine bodyPost_ret (v := .tuple #[.agg #[.string ⟨#[]⟩, .int .i64 v], .bool true]) (by simp [results, Tryz.results86, go_sem, hc1, hc2, hz]) rfl ⟨rfl, ?_⟩
    exact (((HB.out.trans (hb1.mono HB.out.size)).trans (hb2.mono (by have := HB.out.size; omega))).setCell (Nat.le_refl _) _).setCell (Nat.le_refl _) _
  · rw [if_neg hi]
    have hq : ((itoaS v).toList == s.toList) = false := by rw [ByteArray.toList_eq, ByteArray.toList_eq]; simp [itoaS, hi]
    clear hi
    go_enter Tryz.func86, Tryz.ntmps86
    go_wp2_with (go_at_call 38; refine (name_any _ _ hm).mono ?_; rintro e w' ⟨rfl, rfl⟩)
    refine (Tryz.strconv_ParseInt_10_at64_ok s (by omega) v HP.out _).mono ?_
    rintro e w1 ⟨rfl, hw1⟩
    have hb1 := below_bytes hw1
    clear hw1
    obtain ⟨hc1, hf1⟩ := bcell hb1
    have hs1 := hb1.size
    go_wp2_with fail
    refine (formatInt_any v _ h0 h1 ((HE.out.on HB.out).on hb1)).mono ?_
    rintro e w2 ⟨rfl, hb2⟩
    obtain ⟨hc2, hf2⟩ := bcell hb2
    have hs2 := hb2.size
    have hz : w.heap.size < w1.heap.size := by simp at hs1; omega
    have hz2 : w.heap.size < w2.heap.size := by omega
    go_wp2_with fail
    refine bodyPost_ret (v := .tuple #[.agg #[.string ⟨#[]⟩, .int .i64 0], .bool false]) (by simp [results, Tryz.results86, go_sem, hc1, hc2, hz]) rfl ⟨rfl, ?_⟩
    exact (((HB.out.trans (hb1.mono HB.out.size)).trans (hb2.mono (by have := HB.out.size; omega))).setCell (Nat.le_refl _) _).setCell (Nat.le_refl _) _
end Go.Proofs.YtfmkfabbiifolaaGreatDoor

/-
  Contract: value.Read, whole.
-/
namespace Go.Proofs.YtfmkfabbiifolaaGreatDoor
open Go.RowKit Go.Sort

set_option maxHeartbeats 1000000 in
set_option maxRecDepth 100000 in
theorem read_err (s : ByteArray) (w : World) (hs : s.size ≤ 140737488351232) (hn : nameB s = false) (he : Env w) (hp : ∀ v, Lib.parseIntB 64 s.data.toList ≠ .ok v) :
    Calls Tryz.prog 86 #[.string s] w fun e w' => e = .returned (.tuple #[.agg #[.string ⟨#[]⟩, .int .i64 0], .bool false]) ∧ Below w.heap.size w w' := by
  have hm : s.size ≤ maxLen := by unfold maxLen; omega
  have hB := (Below.refl w.heap.size w).alloc (Nat.le_refl _) (.cells #[.string ⟨#[]⟩, .int .i64 0] 23)
  have he2 := he.on hB
  have HB := Lib.hid hB
  have hC : ∃ v : Int, Calls Tryz.prog 116 #[.string s, .int .i64 10, .int .i64 64] (w.alloc (.cells #[.string ⟨#[]⟩, .int .i64 0] 23)) fun e w' => ∃ N, e = .returned (.tuple #[.int .i64 v, .iface 166 (.pointer (some ⟨N, 0, none⟩))]) ∧ Below (w.alloc (.cells #[.string ⟨#[]⟩, .int .i64 0] 23)).heap.size (w.alloc (.cells #[.string ⟨#[]⟩, .int .i64 0] 23)) w' := by
    cases hpp : Lib.parseIntB 64 s.data.toList with
    | ok v => exact absurd hpp (hp v)
    | range =>
      obtain ⟨t, p, e⟩ := he2.rng
      exact ⟨_, (Any.strconv_ParseInt_10_at64_range_var Tryz.laysC174 s (by omega) hpp t p _ e).mono fun e w' ⟨N, h1, _, _, h4⟩ => ⟨N, h1, h4⟩⟩
    | _ =>
      obtain ⟨t, p, e⟩ := he2.syn
      exact ⟨_, (Any.strconv_ParseInt_10_at64_syntax_var Tryz.laysC174 s (by omega) hpp t p _ e).mono fun e w' ⟨N, h1, _, _, h4⟩ => ⟨N, h1, h4⟩⟩
  obtain ⟨v, hC⟩ := hC
  have HC := Lib.hid hC
  clear he he2 hB hp hC
  go_enter Tryz.func86, Tryz.ntmps86
  go_wp2_with (go_at_call 38; refine (name_any _ _ hm).mono ?_; rintro e w' ⟨rfl, rfl⟩)
  refine HC.out.mono ?_
  rintro e w1 ⟨N, rfl, hb1⟩
  obtain ⟨hc1, hf1⟩ := bcell hb1
  have hs1 := hb1.size
  have hz : w.heap.size < w1.heap.size := by simp at hs1; omega
  go_wp2_with fail
  refine bodyPost_ret (v := .tuple #[.agg #[.string ⟨#[]⟩, .int .i64 0], .bool false]) (by simp [results, Tryz.results86, go_sem, hc1]) rfl ⟨rfl, ?_⟩
  exact ((HB.out.trans (hb1.mono HB.out.size)).setCell (Nat.le_refl _) _).setCell (Nat.le_refl _) _

/-- WHAT value.Read ANSWERS, at every text. -/
theorem read_any (s : ByteArray) (w : World) (hs : s.size ≤ 140737488351232) (he : Env w) :
    Calls Tryz.prog 86 #[.string s] w fun e w' => e = .returned (readV s) ∧ Below w.heap.size w w' := by
  by_cases hn : nameB s = true
  · rw [show readV s = .tuple #[.agg #[.string s, .int .i64 0], .bool true] by simp [readV, hn]]
    exact read_name s w (by unfold maxLen; omega) hn
  · have hn : nameB s = false := by simpa using hn
    cases hpp : Lib.parseIntB 64 s.data.toList with
    | ok v =>
      have e : readV s = if Lib.itoa v = s.data.toList then .tuple #[.agg #[.string ⟨#[]⟩, .int .i64 v], .bool true] else .tuple #[.agg #[.string ⟨#[]⟩, .int .i64 0], .bool false] := by
        unfold readV readN; rw [hn, hpp]; by_cases h : Lib.itoa v = s.data.toList <;> simp [h]
      rw [e]; exact read_num s w hs hn v hpp he
    | _ =>
      have e : readV s = .tuple #[.agg #[.string ⟨#[]⟩, .int .i64 0], .bool false] := by
        unfold readV readN; rw [hn, hpp]; rfl
      rw [e]; exact read_err s w hs hn he (by rw [hpp]; intro v h; cases h)
end Go.Proofs.YtfmkfabbiifolaaGreatDoor

/-
  Plain mathematics: a decimal numeral is read back as the number. Nothing of the program.
-/
namespace Go.Proofs.YtfmkfabbiifolaaGreatDoor
open Go.Lib

theorem dec_byte (d : Nat) (h : d < 10) : (UInt8.ofNat (48 + d)).toNat = 48 + d := by
  rw [UInt8.toNat_ofNat']; omega
theorem parse_dec (M : Nat) (hM : M ≤ 18446744073709551615) (u : Nat) : u ≤ M → ∀ r, parseUintM M 0 (decDigits u ++ r) = parseUintM M u r := by
  induction u using Nat.strongRecOn with
  | ind u ih =>
    intro hu r
    by_cases h : u < 10
    · rw [decDigits, dif_pos h, List.cons_append, List.nil_append, parseUintM, dec_byte u h, if_pos (by omega), if_neg (by omega), if_neg (by omega)]
      congr 1; omega
    · rw [decDigits, dif_neg h, List.append_assoc, ih (u / 10) (by omega) (by omega), List.cons_append, List.nil_append, parseUintM, dec_byte (u % 10) (by omega), if_pos (by omega), if_neg (by omega), if_neg (by omega)]
      congr 1; omega
theorem dec_head (u : Nat) : ∃ c r, decDigits u = c :: r ∧ 48 ≤ c.toNat ∧ c.toNat ≤ 57 := by
  induction u using Nat.strongRecOn with
  | ind u ih =>
    by_cases h : u < 10
    · exact ⟨_, [], by rw [decDigits, dif_pos h], by rw [dec_byte u h]; omega, by rw [dec_byte u h]; omega⟩
    · obtain ⟨c, r, e, h1, h2⟩ := ih (u / 10) (by omega)
      exact ⟨c, _, by rw [decDigits, dif_neg h, e]; rfl, h1, h2⟩
theorem parse_all (u : Nat) (hu : u ≤ 18446744073709551615) : parseUintB 64 (decDigits u) = .ok u := by
  obtain ⟨c, r, e, _, _⟩ := dec_head u
  have e64 : (2 : Nat) ^ 64 - 1 = 18446744073709551615 := by decide
  unfold parseUintB
  rw [if_neg (by rw [e]; exact List.cons_ne_nil _ _), e64]
  have := parse_dec 18446744073709551615 (Nat.le_refl _) u hu []
  rw [List.append_nil] at this
  rw [this, parseUintM]
theorem e63 : (2 : Nat) ^ (64 - 1) = 9223372036854775808 := by decide
/-- A number's text is read as the number. -/
theorem parse_itoa (n : Int) (h0 : -9223372036854775808 ≤ n) (h1 : n ≤ 9223372036854775807) : parseIntB 64 (itoa n) = .ok n := by
  unfold itoa
  by_cases hn : n < 0
  · rw [if_pos hn]
    unfold parseIntB
    have h45 : (45 : UInt8).toNat = 45 := rfl
    simp only [h45, if_true, or_true]
    rw [parse_all n.natAbs (by omega)]
    simp only [not_true, false_and, if_false, true_and, e63]
    rw [if_neg (by omega)]
    congr 1; omega
  · rw [if_neg hn]
    obtain ⟨c, r, e, hc1, hc2⟩ := dec_head n.toNat
    unfold parseIntB
    rw [e]
    have g1 : ¬ (c.toNat = 43 ∨ c.toNat = 45) := by omega
    have g2 : ¬ c.toNat = 45 := by omega
    simp only [g1, if_false]
    rw [← e, parse_all n.toNat (by omega)]
    simp only [g2, not_false_eq_true, true_and, false_and, if_false, e63]
    rw [if_neg (by omega)]
    congr 1; omega
theorem itoa_head (n : Int) : ∃ c r, itoa n = c :: r ∧ c.toNat ≤ 57 := by
  unfold itoa
  by_cases hn : n < 0
  · exact ⟨45, _, by rw [if_pos hn], by decide⟩
  · obtain ⟨c, r, e, _, h⟩ := dec_head n.toNat
    exact ⟨c, r, by rw [if_neg hn, e], h⟩
end Go.Proofs.YtfmkfabbiifolaaGreatDoor

/-
  Plain facts on value.Text and value.Read: there and back.
-/
namespace Go.Proofs.YtfmkfabbiifolaaGreatDoor
open Go.RowKit

def readS (s : ByteArray) : ByteArray := if nameB s = true then s else ⟨#[]⟩
def readI (s : ByteArray) : Int := if nameB s = true then 0 else (readN s).getD 0
def readB (s : ByteArray) : Bool := nameB s || (readN s).isSome
theorem readV_eq (s : ByteArray) : readV s = .tuple #[.agg #[.string (readS s), .int .i64 (readI s)], .bool (readB s)] := by
  unfold readV readS readI readB
  by_cases h : nameB s = true
  · simp [h]
  · have h : nameB s = false := by simpa using h
    rw [h]
    cases readN s <;> simp
theorem nil_of_empty (s : ByteArray) (h : s.toList.isEmpty = true) : s = ⟨#[]⟩ := by
  rw [ByteArray.toList_eq] at h
  obtain ⟨⟨l⟩⟩ := s
  cases l with
  | nil => rfl
  | cons c r => cases h
theorem isEmpty_nil : (⟨#[]⟩ : ByteArray).toList.isEmpty = true := by rw [ByteArray.toList_eq]; rfl
theorem good_nil (n : Int) : goodB ⟨#[]⟩ n = true := by unfold goodB; rw [isEmpty_nil]; rfl
theorem nameB_ne (s : ByteArray) (h : nameB s = true) : s.toList.isEmpty = false := by
  unfold nameB at h
  cases e : s.toList.isEmpty with
  | false => rfl
  | true => rw [e] at h; simp at h
theorem nameB_size (s : ByteArray) (h : nameB s = true) : s.size ≤ 16 := by
  unfold nameB at h
  simp only [Bool.and_eq_true, decide_eq_true_eq] at h
  exact h.1.1.1.2
theorem name_itoa (n : Int) : nameB (itoaS n) = false := by
  obtain ⟨c, r, e, hc⟩ := itoa_head n
  have h : hdB (itoaS n) = c.toNat := by unfold hdB itoaS; rw [e]; rfl
  have : letB (hdB (itoaS n)) = false := by rw [h]; simp only [letB, Bool.and_eq_false_iff, decide_eq_false_iff_not]; omega
  unfold nameB; rw [this]; simp
theorem readN_itoa (n : Int) (h0 : -9223372036854775808 ≤ n) (h1 : n ≤ 9223372036854775807) : readN (itoaS n) = some n := by
  have e : (itoaS n).data.toList = Lib.itoa n := rfl
  unfold readN
  rw [e, parse_itoa n h0 h1]
  simp
theorem dec_len (k : Nat) : ∀ u, u < 10 ^ (k + 1) → (Lib.decDigits u).length ≤ k + 1 := by
  induction k with
  | zero => intro u h; rw [Lib.decDigits, dif_pos (by simpa using h)]; simp
  | succ k ih =>
    intro u h
    by_cases hu : u < 10
    · rw [Lib.decDigits, dif_pos hu]; simp
    · rw [Lib.decDigits, dif_neg hu, List.length_append]
      have := ih (u / 10) (by rw [Nat.pow_succ] at h; omega)
      simp; omega
theorem itoa_size (n : Int) (h0 : -9223372036854775808 ≤ n) (h1 : n ≤ 9223372036854775807) : (itoaS n).size ≤ 30 := by
  show (Lib.itoa n).length ≤ 30
  have e : (10 : Nat) ^ (19 + 1) = 100000000000000000000 := by decide
  unfold Lib.itoa
  by_cases hn : n < 0
  · rw [if_pos hn]
    have := dec_len 19 n.natAbs (by omega)
    simp; omega
  · rw [if_neg hn]
    have := dec_len 19 n.toNat (by omega)
    omega
theorem text_size (s : ByteArray) (n : Int) (h0 : -9223372036854775808 ≤ n) (h1 : n ≤ 9223372036854775807) : (textS s n).size ≤ 140737488351232 := by
  unfold textS
  by_cases g : goodB s n = true
  · rw [if_pos g]
    by_cases e : s.toList.isEmpty = true
    · rw [if_pos e]; have := itoa_size n h0 h1; omega
    · rw [if_neg e]
      have : nameB s = true := by unfold goodB at g; simp at e; simp [e] at g; exact g.2
      have := nameB_size s this; omega
  · rw [if_neg g]; decide
/-- what is written is read as it was -/
theorem back_text (s : ByteArray) (n : Int) (h0 : -9223372036854775808 ≤ n) (h1 : n ≤ 9223372036854775807) (g : goodB s n = true) : readB (textS s n) = true ∧ readS (textS s n) = s ∧ readI (textS s n) = n := by
  by_cases e : s.toList.isEmpty = true
  · have ht : textS s n = itoaS n := by unfold textS; rw [if_pos g, if_pos e]
    rw [ht]
    refine ⟨by unfold readB; rw [readN_itoa n h0 h1]; simp, by unfold readS; rw [name_itoa, nil_of_empty s e]; rfl, by unfold readI; rw [name_itoa, readN_itoa n h0 h1]; rfl⟩
  · have e' : s.toList.isEmpty = false := by simpa using e
    have ht : textS s n = s := by unfold textS; rw [if_pos g, if_neg e]
    have g2 : n = 0 ∧ nameB s = true := by unfold goodB at g; rw [e'] at g; simpa using g
    rw [ht]
    refine ⟨by unfold readB; rw [g2.2]; rfl, by unfold readS; rw [if_pos g2.2], by unfold readI; rw [if_pos g2.2]; exact g2.1.symm⟩
/-- what is read is written as it was -/
theorem back_read (s : ByteArray) (h : readB s = true) : goodB (readS s) (readI s) = true ∧ textS (readS s) (readI s) = s := by
  by_cases hn : nameB s = true
  · have e := nameB_ne s hn
    have g : goodB s 0 = true := by unfold goodB; rw [hn, e]; rfl
    unfold readS readI; rw [if_pos hn, if_pos hn]
    exact ⟨g, by unfold textS; rw [if_pos g, e]; rfl⟩
  · have hn : nameB s = false := by simpa using hn
    unfold readB at h; rw [hn, Bool.false_or] at h
    unfold readS readI; rw [hn]
    obtain ⟨v, hv⟩ := Option.isSome_iff_exists.1 h
    rw [hv]
    refine ⟨good_nil _, ?_⟩
    show textS ⟨#[]⟩ v = s
    unfold textS
    rw [if_pos (good_nil v), if_pos isEmpty_nil]
    unfold readN at hv
    split at hv
    · rename_i u _
      by_cases h2 : Lib.itoa u = s.data.toList
      · rw [if_pos h2] at hv; cases hv
        unfold itoaS; rw [h2]
      · rw [if_neg h2] at hv; cases hv
    · cases hv
theorem readI_bd (s : ByteArray) : -9223372036854775808 ≤ readI s ∧ readI s ≤ 9223372036854775807 := by
  unfold readI
  by_cases hn : nameB s = true
  · rw [if_pos hn]; omega
  · rw [if_neg hn]
    cases hv : readN s with
    | none => simp
    | some v =>
      unfold readN at hv
      split at hv
      · rename_i u hu
        by_cases h2 : Lib.itoa u = s.data.toList
        · rw [if_pos h2] at hv; cases hv; exact parseIntB_bd _ _ hu
        · rw [if_neg h2] at hv; cases hv
      · cases hv
theorem readS_size (s : ByteArray) : (readS s).size ≤ maxLen := by
  unfold readS
  by_cases hn : nameB s = true
  · rw [if_pos hn]; have := nameB_size s hn; unfold maxLen; omega
  · rw [if_neg hn]; decide
end Go.Proofs.YtfmkfabbiifolaaGreatDoor

/-
  Contract: the reference's Number writes the decimal numeral.
-/
namespace Go.Proofs.YtfmkfabbiifolaaGreatDoor
open Go.RowKit

/-- what is written so far, of N, where n is still to be written -/
def dByte (k : Nat) : UInt8 := UInt8.ofNat (48 + k % 10)
def NumTo (N n : Nat) (out : ByteArray) : Prop := Lib.decDigits N = Lib.decDigits n ++ out.data.toList

theorem dByte_nat (k : Nat) : (((dByte k).toNat : Nat) : Int) = 48 + (k : Int) % 10 := by unfold dByte; rw [UInt8.toNat_ofNat']; omega
theorem numTo_size (N k : Nat) (out : ByteArray) (h : NumTo N k out) (hN : N ≤ 9223372036854775807) : out.size ≤ 30 := by
  have e : (10 : Nat) ^ (19 + 1) = 100000000000000000000 := by decide
  have h1 := dec_len 19 N (by omega)
  unfold NumTo at h
  rw [h, List.length_append] at h1
  have : out.size = out.data.toList.length := by simp
  omega
theorem num_last (N k : Nat) (out : ByteArray) (h : NumTo N k out) (hk : k < 10) : ((⟨#[dByte k]⟩ : ByteArray) ++ out).data.toList = Lib.decDigits N := by
  unfold NumTo at h
  rw [h, Lib.decDigits, dif_pos hk]
  have e : dByte k = UInt8.ofNat (48 + k) := by unfold dByte; rw [Nat.mod_eq_of_lt hk]
  rw [e, ByteArray.data_append]; simp
theorem num_more (N k : Nat) (out : ByteArray) (h : NumTo N k out) (hk : ¬ k < 10) : NumTo N (k / 10) ((⟨#[dByte k]⟩ : ByteArray) ++ out) := by
  unfold NumTo at *
  rw [h]
  conv => lhs; rw [Lib.decDigits, dif_neg hk]
  rw [ByteArray.data_append]; simp [dByte]

set_option maxHeartbeats 2000000 in
set_option maxRecDepth 100000 in
theorem number_pos (n : Int) (w : World) (h0 : 0 ≤ n) (h1 : n ≤ 9223372036854775807) :
    Calls Tryz.prog 34 #[.int .i64 n] w fun e w' => e = .returned (.string ⟨(Lib.decDigits n.toNat).toArray⟩) ∧ Below w.heap.size w w' := by
  obtain ⟨N, rfl⟩ := Int.eq_ofNat_of_zero_le h0
  have g0 : (((N : Nat) : Int) == -9223372036854775808) = false := by rw [beq_eq_false_iff_ne]; omega
  have g1 : ¬ ((N : Nat) : Int) < 0 := by omega
  go_enter Tryz.func34, Tryz.ntmps34
  go_wp2_with fail
  go_loopw [0, 3, 4] (fun a o g wr => ∃ (k : Nat) (out : ByteArray), a = .int .i64 k ∧ o = .string out ∧ k ≤ N ∧ Below w.heap.size w wr ∧ ((g = .bool true ∧ NumTo N k out) ∨ (g = .bool false ∧ k = 0 ∧ out.data.toList = Lib.decDigits N))) (fun a _ g _ => (intOf a).toNat + (match g with | .bool true => 1 | _ => 0))
  case atStart => exact ⟨N, ⟨#[]⟩, rfl, rfl, Nat.le_refl _, Below.refl _ _, .inl ⟨rfl, by unfold NumTo; simp⟩⟩
  case round =>
    obtain ⟨k, out, rfl, rfl, hk, hb, hg⟩ := hrel
    have HB := Lib.hid hb
    rcases hg with ⟨rfl, hn⟩ | ⟨rfl, hk0, hd⟩
    · have HN := Lib.hid hn
      clear hn hb
      have k0 : (0 : Int) ≤ (k : Int) := by omega
      have k1 : (k : Int) ≤ 9223372036854775807 := by omega
      have hcv : (convert 111 9 (.slice (some ⟨wr.heap.size, 0, none⟩) 1 1)).run Tryz.prog (wr.alloc (.cells #[.int .u8 (48 + (k : Int) % 10)] 5)) = .ok (.string ⟨#[dByte k]⟩) (wr.alloc (.cells #[.int .u8 (48 + (k : Int) % 10)] 5)) :=
        run_convert_bytes_back _ 111 9 5 ⟨wr.heap.size, 0, none⟩ 1 [dByte k] Tryz.underlying111 Tryz.underlying5 Tryz.underlying9 (fun j hj => by
          obtain rfl : j = 0 := by simp at hj; exact hj
          rw [Addr.add_lit]
          show _ = some (Value.int .u8 ((dByte k).toNat : Int))
          rw [dByte_nat]
          simp [go_sem])
      have hos := numTo_size N k out HN.out (by omega)
      by_cases hk9 : k < 10
      · have q1 : ¬ (0 : Int) < (k : Int) / 10 := by omega
        have HL := Lib.hid (num_last N k out HN.out hk9)
        go_wp2_with fail
        refine ⟨⟨0, ⟨#[dByte k]⟩ ++ out, by congr 1; omega, rfl, Nat.zero_le _, HB.out.alloc HB.out.size _, .inr ⟨rfl, rfl, HL.out⟩⟩, by simp [intOf]; omega⟩
      · have q1 : (0 : Int) < (k : Int) / 10 := by omega
        have HL := Lib.hid (num_more N k out HN.out hk9)
        go_wp2_with fail
        refine ⟨⟨k / 10, ⟨#[dByte k]⟩ ++ out, by go_num, rfl, by omega, HB.out.alloc HB.out.size _, .inl ⟨rfl, HL.out⟩⟩, by simp [intOf]; omega⟩
    · have HD := Lib.hid hd
      subst hk0
      clear hd hb
      go_wp2_with fail
      go_ret
      refine ⟨?_, HB.out⟩
      rw [show (((N : Nat) : Int)).toNat = N from rfl, ← HD.out]
      rfl
end Go.Proofs.YtfmkfabbiifolaaGreatDoor

/-
  The least number's numeral.
-/
namespace Go.Proofs.YtfmkfabbiifolaaGreatDoor
open Go.RowKit

theorem dd_step (n q r : Nat) (h : n = 10 * q + r) (hr : r < 10) (hq : 0 < q) : Lib.decDigits n = Lib.decDigits q ++ [UInt8.ofNat (48 + r)] := by
  rw [Lib.decDigits, dif_neg (by omega), show n / 10 = q by omega, show n % 10 = r by omega]
theorem itoa_least : itoaS (-9223372036854775808) = ⟨#[45, 57, 50, 50, 51, 51, 55, 50, 48, 51, 54, 56, 53, 52, 55, 55, 53, 56, 48, 56]⟩ := by
  have e0 : Lib.decDigits 9 = [57] := by rw [Lib.decDigits, dif_pos (by decide)]; rfl
  have e1 : Lib.decDigits 922337203 = [57, 50, 50, 51, 51, 55, 50, 48, 51] := by
    rw [dd_step _ 92233720 3 rfl (by decide) (by decide), dd_step _ 9223372 0 rfl (by decide) (by decide), dd_step _ 922337 2 rfl (by decide) (by decide), dd_step _ 92233 7 rfl (by decide) (by decide), dd_step _ 9223 3 rfl (by decide) (by decide), dd_step _ 922 3 rfl (by decide) (by decide), dd_step _ 92 2 rfl (by decide) (by decide), dd_step _ 9 2 rfl (by decide) (by decide), e0]; rfl
  have e : Lib.decDigits 9223372036854775808 = [57, 50, 50, 51, 51, 55, 50, 48, 51, 54, 56, 53, 52, 55, 55, 53, 56, 48, 56] := by
    rw [dd_step _ 922337203685477580 8 rfl (by decide) (by decide), dd_step _ 92233720368547758 0 rfl (by decide) (by decide), dd_step _ 9223372036854775 8 rfl (by decide) (by decide), dd_step _ 922337203685477 5 rfl (by decide) (by decide), dd_step _ 92233720368547 7 rfl (by decide) (by decide), dd_step _ 9223372036854 7 rfl (by decide) (by decide), dd_step _ 922337203685 4 rfl (by decide) (by decide), dd_step _ 92233720368 5 rfl (by decide) (by decide), dd_step _ 9223372036 8 rfl (by decide) (by decide), dd_step _ 922337203 6 rfl (by decide) (by decide), e1]; rfl
  unfold itoaS Lib.itoa
  rw [if_pos (by decide), show ((-9223372036854775808 : Int)).natAbs = 9223372036854775808 from rfl, e]
theorem itoa_neg (n : Int) (h : n < 0) : itoaS n = (⟨#[45]⟩ : ByteArray) ++ ⟨(Lib.decDigits (-n).toNat).toArray⟩ := by
  unfold itoaS Lib.itoa
  rw [if_pos h, show n.natAbs = (-n).toNat by omega]
  apply ByteArray.ext
  rw [ByteArray.data_append]
  simp
theorem itoa_pos (n : Int) (h : 0 ≤ n) : itoaS n = ⟨(Lib.decDigits n.toNat).toArray⟩ := by
  unfold itoaS Lib.itoa
  rw [if_neg (by omega)]
end Go.Proofs.YtfmkfabbiifolaaGreatDoor

/-
  Contract: the reference's Number below zero.
-/
namespace Go.Proofs.YtfmkfabbiifolaaGreatDoor
open Go.RowKit

set_option maxHeartbeats 200000 in
set_option maxRecDepth 100000 in
theorem number_neg (n : Int) (d : ByteArray) (w : World) (h0 : -9223372036854775808 < n) (h1 : n < 0) (hz : d.size ≤ 30) (hd : d = ⟨(Lib.decDigits (-n).toNat).toArray⟩) :
    Calls Tryz.prog 34 #[.int .i64 n] w fun e w' => e = .returned (.string ((⟨#[45]⟩ : ByteArray) ++ d)) ∧ Below w.heap.size w w' := by
  have g0 : (n == -9223372036854775808) = false := by rw [beq_eq_false_iff_ne]; omega
  have hc : ∀ wx, Calls Tryz.prog 34 #[.int .i64 (-n)] wx fun e w' => e = .returned (.string d) ∧ Below wx.heap.size wx w' := by
    intro wx; rw [hd]; exact number_pos (-n) wx (by omega) (by omega)
  have HC := Lib.hid hc
  clear hc hd
  go_enter Tryz.func34, Tryz.ntmps34
  go_wp2_with fail
  refine (HC.out _).mono ?_
  rintro e w1 ⟨rfl, hb⟩
  go_wp2_with fail
  go_ret
  exact ⟨rfl, hb⟩
end Go.Proofs.YtfmkfabbiifolaaGreatDoor

/-
  Contract: the reference's Number of the least number.
-/
namespace Go.Proofs.YtfmkfabbiifolaaGreatDoor
open Go.RowKit

set_option maxHeartbeats 1000000 in
set_option maxRecDepth 100000 in
theorem number_least (n : Int) (w : World) (g0 : (n == -9223372036854775808) = true) :
    Calls Tryz.prog 34 #[.int .i64 n] w fun e w' => e = .returned (.string ⟨#[45, 57, 50, 50, 51, 51, 55, 50, 48, 51, 54, 56, 53, 52, 55, 55, 53, 56, 48, 56]⟩) ∧ Below w.heap.size w w' := by
  go_enter Tryz.func34, Tryz.ntmps34
  go_wp2_with fail
  go_ret
  exact ⟨rfl, Below.refl _ _⟩
end Go.Proofs.YtfmkfabbiifolaaGreatDoor

/-
  Contracts: the reference's Number at any number, and its Text.
-/
namespace Go.Proofs.YtfmkfabbiifolaaGreatDoor
open Go.RowKit

theorem number_any (n : Int) (w : World) (h0 : -9223372036854775808 ≤ n) (h1 : n ≤ 9223372036854775807) :
    Calls Tryz.prog 34 #[.int .i64 n] w fun e w' => e = .returned (.string (itoaS n)) ∧ Below w.heap.size w w' := by
  by_cases hp : 0 ≤ n
  · rw [itoa_pos n hp]; exact number_pos n w hp h1
  · by_cases hl : n = -9223372036854775808
    · rw [show itoaS n = _ from hl ▸ itoa_least]
      exact number_least n w (by rw [hl]; rfl)
    · have e : (10 : Nat) ^ (19 + 1) = 100000000000000000000 := by decide
      have hz : (⟨(Lib.decDigits (-n).toNat).toArray⟩ : ByteArray).size ≤ 30 := by
        show (Lib.decDigits (-n).toNat).length ≤ 30
        have := dec_len 19 (-n).toNat (by omega)
        omega
      rw [itoa_neg n (by omega)]
      exact number_neg n _ w (by omega) (by omega) hz rfl

end Go.Proofs.YtfmkfabbiifolaaGreatDoor
