/-
  Terms, bindings, values in memory; what a term's value is. Contracts: bind.atom, bind.finder and what it makes.
-/
import Derived.Test.YtmfaallipfhajaaRws
import Derived.Test.YtmfaallipfhajaaVls
namespace Go.Proofs.Ytmfaallipfhajaa
open Go.RowKit

structure Tm where
  v : ByteArray
  s : ByteArray
  n : Int
def Tm.val (t : Tm) : Vl := (t.s, t.n)
def encM (t : Tm) : List Value := [.string t.v, .string t.s, .int .i64 t.n]
def Tm.agg (t : Tm) : Value := .agg #[.string t.v, .string t.s, .int .i64 t.n]
def encV (v : Vl) : List Value := [.string v.1, .int .i64 v.2]
theorem EM : Enc encM 3 := ⟨fun _ => rfl, by decide, fun a u hu => by simp [encM] at hu; rcases hu with rfl | rfl | rfl <;> rfl⟩
theorem EV : Enc encV 2 := ⟨fun _ => rfl, by decide, fun a u hu => by simp [encV] at hu; rcases hu with rfl | rfl <;> rfl⟩
abbrev Tms := Rd encM 3
theorem rdM_at {w : World} {B : Nat} {p : Option Addr} {l : List Tm} (h : Tms w B p l) (i : Nat) (hi : i < l.length) : ∃ b o, p = some ⟨b, o, none⟩ ∧ b < B ∧ w.cell? ⟨b, o + i * 3, none⟩ = some (.string l[i].v) ∧ w.cell? ⟨b, o + i * 3 + 1, none⟩ = some (.string l[i].s) ∧ w.cell? ⟨b, o + i * 3 + 2, none⟩ = some (.int .i64 l[i].n) := by
  obtain ⟨b, o, rfl, hb, hc⟩ := h.at i hi
  exact ⟨b, o, rfl, hb, hc 0 _ rfl, hc 1 _ rfl, hc 2 _ rfl⟩
theorem rdV_at {w : World} {B : Nat} {p : Option Addr} {l : List Vl} (h : Rd encV 2 w B p l) (i : Nat) (hi : i < l.length) : ∃ b o, p = some ⟨b, o, none⟩ ∧ b < B ∧ w.cell? ⟨b, o + i * 2, none⟩ = some (.string l[i].1) ∧ w.cell? ⟨b, o + i * 2 + 1, none⟩ = some (.int .i64 l[i].2) := by
  obtain ⟨b, o, rfl, hb, hc⟩ := h.at i hi
  exact ⟨b, o, rfl, hb, hc 0 _ rfl, hc 1 _ rfl⟩
theorem vals_rd {w : World} {B : Nat} {p : Option Addr} {l : List Vl} (h : Rd encV 2 w B p l) : Vals w B p l := by
  rcases h with h | ⟨b, off, rfl, hl, hc⟩
  · exact .inl h
  · exact .inr ⟨b, off, rfl, hl, fun i hi => ⟨hc i hi 0 _ rfl, hc i hi 1 _ rfl⟩⟩

theorem infoBind : (Try.prog.info? 50).map (fun i => (i.zero, i.size, i.bytes)) = some (some (.agg #[.string ⟨#[]⟩, .string ⟨#[]⟩, .int .i64 0]), 3, 40) := by kernel_rfl
theorem infoTerm : (Try.prog.info? 48).map (fun i => (i.zero, i.size, i.bytes)) = some (some (.agg #[.string ⟨#[]⟩, .string ⟨#[]⟩, .int .i64 0]), 3, 40) := by kernel_rfl
theorem infoValue : (Try.prog.info? 46).map (fun i => (i.zero, i.size, i.bytes)) = some (some (.agg #[.string ⟨#[]⟩, .int .i64 0]), 2, 24) := by kernel_rfl
theorem infoTuple : (Try.prog.info? 27).map (fun i => (i.zero, i.size, i.bytes)) = some (some (.agg #[.string ⟨#[]⟩, .slice none 0 0]), 2, 40) := by kernel_rfl

/-! what a term's value is -/
def lookL : List Tm → ByteArray → Option Vl
  | [], _ => none
  | x :: r, s => if x.v.toList == s.toList then some x.val else lookL r s
def look (b : List Tm) (t : Tm) : Option Vl := if t.v.toList.isEmpty then some t.val else lookL b t.v
theorem lookL_step (l : List Tm) (s : ByteArray) (k : Nat) (h : k < l.length) : lookL (l.drop k) s = if l[k].v.toList == s.toList then some l[k].val else lookL (l.drop (k + 1)) s := by
  rw [List.drop_eq_getElem_cons h, lookL]
theorem lookL_end (l : List Tm) (s : ByteArray) (k : Nat) (h : l.length ≤ k) : lookL (l.drop k) s = none := by
  rw [List.drop_eq_nil_of_le h]; rfl
def lookV : Option Vl → Value
  | some v => .tuple #[.agg #[.string v.1, .int .i64 v.2], .bool true]
  | none => .tuple #[.agg #[.string ⟨#[]⟩, .int .i64 0], .bool false]

theorem set2 {w : World} {B b : Nat} (h : B ≤ b) (o : Nat) (u v : Value) : Below B w ((w.setCell ⟨b, o, none⟩ u).setCell ⟨b, o + 1, none⟩ v) :=
  ((Below.refl _ _).setCell (p := ⟨b, o, none⟩) h _).setCell (p := ⟨b, o + 1, none⟩) h _
theorem load2 {w : World} {b o : Nat} {c1 c2 : Value} (h1 : w.cell? ⟨b, o, none⟩ = some c1) (h2 : w.cell? ⟨b, o + 1, none⟩ = some c2) (u v : Value) :
    (w.setCell ⟨b, o, none⟩ u).cell? ⟨b, o, none⟩ = some u ∧ ((w.setCell ⟨b, o, none⟩ u).setCell ⟨b, o + 1, none⟩ v).cell? ⟨b, o, none⟩ = some u ∧ ((w.setCell ⟨b, o, none⟩ u).setCell ⟨b, o + 1, none⟩ v).cell? ⟨b, o + 1, none⟩ = some v := by
  have e1 := World.cell?_setCell_same w _ u h1
  have ne : (⟨b, o + 1, none⟩ : Addr) ≠ ⟨b, o, none⟩ := by intro h; injection h with _ h _; omega
  refine ⟨e1, ?_, ?_⟩
  · rw [World.cell?_setCell_other _ _ _ _ ne]; exact e1
  · exact World.cell?_setCell_same _ _ v (by rw [World.cell?_setCell_other _ _ _ _ ne.symm]; exact h2)
def atomB (k : Int) : Bool := k == 1 || k == 2
set_option maxHeartbeats 400000 in
theorem atom_any (k : Int) (p : ByteArray) (q : Option Addr) (n c : Nat) (w : World) :
    Calls Try.prog 20 #[.agg #[.int .u8 k, .string p, .slice q n c]] w fun e w' => e = .returned (.bool (atomB k)) ∧ Below w.heap.size w w' := by
  have HB := Lib.hid (show ∀ o, Below w.heap.size w (w.alloc o) from below1 w)
  by_cases h1 : (k == 1) = true
  · have HC := Lib.hid (show atomB k = true by simp [atomB, h1])
    go_enter Try.func20, Try.ntmps20
    go_wp2_with fail
    go_ret
    exact ⟨by rw [HC.out]; rfl, HB.out _⟩
  · have h1 : (k == 1) = false := by simpa using h1
    have HC := Lib.hid (show atomB k = (k == 2) by simp [atomB, h1])
    go_enter Try.func20, Try.ntmps20
    go_wp2_with fail
    go_ret
    exact ⟨by rw [HC.out]; rfl, HB.out _⟩

set_option maxHeartbeats 400000 in
theorem finder_any (a : Addr) (w : World) :
    Calls Try.prog 22 #[.pointer (some a)] w fun e w' => e = .returned (.func (.func 30) #[] #[.pointer (some ⟨w.heap.size, 0, none⟩)]) ∧ w' = w.alloc (.cells #[.pointer (some a)] 55) := by
  go_enter Try.func22, Try.ntmps22
  go_wp2_with fail
  go_ret
  exact ⟨rfl, rfl⟩

set_option maxHeartbeats 2000000 in
set_option maxRecDepth 100000 in
theorem find_any (t : Tm) (cb ab : Nat) (q : Option Addr) (l : List Tm) (c : Nat) (w : World) (hc : w.cell? ⟨cb, 0, none⟩ = some (.pointer (some ⟨ab, 0, none⟩))) (ha : w.cell? ⟨ab, 0, none⟩ = some (.slice q l.length c)) (hl : Tms w w.heap.size q l) (hm : l.length ≤ maxLen) :
    Calls Try.prog 30 #[t.agg, .pointer (some ⟨cb, 0, none⟩)] w fun e w' => e = .returned (lookV (look l t)) ∧ Below w.heap.size w w' := by
  obtain ⟨v, s, n⟩ := t
  unfold Tm.agg
  simp only
  unfold maxLen at hm
  have HB := Lib.hid (show ∀ o1 o2, Below w.heap.size w ((w.alloc o1).alloc o2) from fun o1 o2 => below2 w o1 o2)
  cases h0 : v.toList.isEmpty with
  | true =>
    have HC := Lib.hid (show look l ⟨v, s, n⟩ = some (s, n) by simp [look, h0, Tm.val])
    clear hc ha hl
    go_enter Try.func30, Try.ntmps30
    go_wp2_with fail
    refine bodyPost_ret (v := .tuple #[.agg #[.string s, .int .i64 n], .bool true]) (by simp [results, Try.results30, go_sem]) rfl ⟨by rw [HC.out]; rfl, ?_⟩
    exact HB.out _ _
  | false =>
    have HC := Lib.hid (show look l ⟨v, s, n⟩ = lookL l v by simp [look, h0])
    have hcb := lt_of_cell hc
    have hab := lt_of_cell ha
    have HL := Lib.hid hl
    clear hl
    go_enter Try.func30, Try.ntmps30
    go_wp2_with fail
    have k0 : ((w.alloc (.cells #[.string v, .string s, .int .i64 n] 48)).alloc (.cells #[.string ⟨#[]⟩, .int .i64 0] 46)).cell? ⟨w.heap.size, 0, none⟩ = some (.string v) := by simp [go_sem]
    have k1 : (((w.alloc (.cells #[.string v, .string s, .int .i64 n] 48)).alloc (.cells #[.string ⟨#[]⟩, .int .i64 0] 46)).cell? ⟨w.heap.size + 1, 0, none⟩).isSome = true := by simp [go_sem]
    have k2 : (((w.alloc (.cells #[.string v, .string s, .int .i64 n] 48)).alloc (.cells #[.string ⟨#[]⟩, .int .i64 0] 46)).cell? ⟨w.heap.size + 1, 1, none⟩).isSome = true := by simp [go_sem]
    have f1 : ((w.alloc (.cells #[.string v, .string s, .int .i64 n] 48)).alloc (.cells #[.string ⟨#[]⟩, .int .i64 0] 46)).frozen? ⟨w.heap.size + 1, 0, none⟩ = false := by simp [go_sem]
    have f2 : ((w.alloc (.cells #[.string v, .string s, .int .i64 n] 48)).alloc (.cells #[.string ⟨#[]⟩, .int .i64 0] 46)).frozen? ⟨w.heap.size + 1, 1, none⟩ = false := by simp [go_sem]
    have hb2 := HB.out (.cells #[.string v, .string s, .int .i64 n] 48) (.cells #[.string ⟨#[]⟩, .int .i64 0] 46)
    have hsz : w.heap.size + 2 ≤ ((w.alloc (.cells #[.string v, .string s, .int .i64 n] 48)).alloc (.cells #[.string ⟨#[]⟩, .int .i64 0] 46)).heap.size := by simp
    have HL2 := Lib.hid (HL.out.grow hb2)
    have HB2 := Lib.hid hb2
    clear hb2 HL HB hc ha
    generalize (w.alloc (.cells #[.string v, .string s, .int .i64 n] 48)).alloc (.cells #[.string ⟨#[]⟩, .int .i64 0] 46) = W2 at *
    generalize hhs : w.heap.size = hs at *
    have HH := Lib.hid hhs
    clear hhs
    go_loopw [16] (fun i wr => ∃ k : Nat, k ≤ l.length ∧ i = .int .i64 k ∧ lookL l v = lookL (l.drop k) v ∧ Below W2.heap.size W2 wr) (fun i _ => l.length - (intOf i).toNat)
    case atStart => exact ⟨0, Nat.zero_le _, rfl, rfl, Below.refl _ _⟩
    case round =>
      obtain ⟨k, hk, rfl, he, hbw⟩ := hrel
      have HE := Lib.hid he
      have HBW := Lib.hid hbw
      have r0 : wr.cell? ⟨hs, 0, none⟩ = some (.string v) := by rw [hbw.cell (p := ⟨hs, 0, none⟩) (by show hs < _; omega)]; exact k0
      have r1 : wr.frozen? ⟨hs + 1, 0, none⟩ = false := by rw [hbw.frozen (p := ⟨hs + 1, 0, none⟩) (by show hs + 1 < _; omega)]; exact f1
      have r2 : wr.frozen? ⟨hs + 1, 1, none⟩ = false := by rw [hbw.frozen (p := ⟨hs + 1, 1, none⟩) (by show hs + 1 < _; omega)]; exact f2
      obtain ⟨c1, r3⟩ := Option.isSome_iff_exists.1 (show (wr.cell? ⟨hs + 1, 0, none⟩).isSome = true by rw [hbw.cell (p := ⟨hs + 1, 0, none⟩) (by show hs + 1 < _; omega)]; exact k1)
      obtain ⟨c2, r4⟩ := Option.isSome_iff_exists.1 (show (wr.cell? ⟨hs + 1, 1, none⟩).isSome = true by rw [hbw.cell (p := ⟨hs + 1, 1, none⟩) (by show hs + 1 < _; omega)]; exact k2)
      have hw := hbw.size
      clear he hbw k0 k1 k2 f1 f2
      by_cases hlt : k < l.length
      · obtain ⟨b, o, rfl, hb, x0, x1, x2⟩ := rdM_at (HL2.out.below HBW.out (Nat.le_refl _)) k hlt
        have hb' : b < wr.heap.size := by omega
        have hs1 : hs + 1 < wr.heap.size := by omega
        have hs2 : hs < wr.heap.size := by omega
        have HS := Lib.hid (lookL_step l v k hlt)
        cases hq : (l[k].v.toList == v.toList) with
        | true =>
          have HR := Lib.hid (show look l ⟨v, s, n⟩ = some l[k].val by rw [HC.out, HE.out, HS.out, if_pos hq])
          go_wp2_with fail
          refine bodyPost_ret (v := .tuple #[.agg #[.string l[k].s, .int .i64 l[k].n], .bool true]) ?_ rfl ?_
          · obtain ⟨_, L1, L2⟩ := load2 (w := wr) (b := hs + 1) (o := 0) r3 r4 (.string l[k].s) (.int .i64 l[k].n)
            have L1' : ((wr.setCell ⟨hs + 1, 0, none⟩ (.string l[k].s)).setCell ⟨hs + 1, 1, none⟩ (.int .i64 l[k].n)).cell? ⟨hs + 1, 0, none⟩ = some (.string l[k].s) := L1
            have L2' : ((wr.setCell ⟨hs + 1, 0, none⟩ (.string l[k].s)).setCell ⟨hs + 1, 1, none⟩ (.int .i64 l[k].n)).cell? ⟨hs + 1, 1, none⟩ = some (.int .i64 l[k].n) := L2
            simp [results, Try.results30, go_sem, L1', L2', hs1]
          refine ⟨by rw [HR.out]; rfl, ?_⟩
          exact HH.out.symm ▸ (HB2.out.trans ((HBW.out.mono (by omega)).trans ((set2 (B := hs) (b := hs + 1) (by omega) 0 _ _).alloc (by simp only [World.size_setCell]; omega) _)))
        | false =>
          have HR := Lib.hid (show lookL l v = lookL (l.drop (k + 1)) v by rw [HE.out, HS.out, if_neg (by rw [hq]; decide)])
          go_wp2_with fail
          go_roundw
          case rel => exact ⟨k + 1, by omega, by go_num, HR.out, HBW.out.alloc (by omega) _⟩
          case measure => simp [intOf]; omega
      · have hs1 : hs + 1 < wr.heap.size := by omega
        have HR := Lib.hid (show look l ⟨v, s, n⟩ = none by rw [HC.out, HE.out, lookL_end l v k (by omega)])
        go_wp2_with fail
        refine bodyPost_ret (v := .tuple #[.agg #[.string ⟨#[]⟩, .int .i64 0], .bool false]) ?_ rfl ?_
        · obtain ⟨_, L1, L2⟩ := load2 (w := wr) (b := hs + 1) (o := 0) r3 r4 (.string ⟨#[]⟩) (.int .i64 0)
          have L1' : ((wr.setCell ⟨hs + 1, 0, none⟩ (.string ⟨#[]⟩)).setCell ⟨hs + 1, 1, none⟩ (.int .i64 0)).cell? ⟨hs + 1, 0, none⟩ = some (.string ⟨#[]⟩) := L1
          have L2' : ((wr.setCell ⟨hs + 1, 0, none⟩ (.string ⟨#[]⟩)).setCell ⟨hs + 1, 1, none⟩ (.int .i64 0)).cell? ⟨hs + 1, 1, none⟩ = some (.int .i64 0) := L2
          simp [results, Try.results30, go_sem, L1', L2']
        refine ⟨by rw [HR.out]; rfl, ?_⟩
        exact HH.out.symm ▸ (HB2.out.trans ((HBW.out.mono (by omega)).trans (set2 (B := hs) (b := hs + 1) (by omega) 0 _ _)))
end Go.Proofs.Ytmfaallipfhajaa
