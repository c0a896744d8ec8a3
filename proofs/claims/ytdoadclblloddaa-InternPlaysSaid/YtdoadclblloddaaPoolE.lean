/-
  Contract: Values of a pool (or of none).
-/
import Derived.Test.YtdoadclblloddaaPoolD
namespace Go.Proofs.Ytdoadclblloddaa
open Go.RowKit Go.Maps Go.WideMaps

/-- A slice of numbers in memory, below block B. -/
def Ints (w : World) (B : Nat) (p : Option Addr) (ns : List Int) : Prop :=
  ns = [] ∨ ∃ b off, p = some ⟨b, off, none⟩ ∧ b < B ∧ ∀ i (h : i < ns.length), w.cell? ⟨b, off + i, none⟩ = some (.int .i64 ns[i])
theorem Ints.below {w w' : World} {B : Nat} {p : Option Addr} {ns : List Int} (h : Ints w B p ns) {B' : Nat} (hb : Below B' w w') (hB : B ≤ B') : Ints w' B p ns := by
  rcases h with h | ⟨b, off, rfl, hl, hc⟩
  · exact .inl h
  · refine .inr ⟨b, off, rfl, hl, fun i hi => ?_⟩
    rw [hb.cell (p := ⟨b, off + i, none⟩) (Nat.lt_of_lt_of_le hl hB)]
    exact hc i hi
theorem Ints.at {w : World} {B : Nat} {p : Option Addr} {ns : List Int} (h : Ints w B p ns) (k : Nat) (hk : k < ns.length) : ∃ b off, p = some ⟨b, off, none⟩ ∧ b < B ∧ w.cell? ⟨b, off + k, none⟩ = some (.int .i64 ns[k]) := by
  rcases h with h | ⟨b, off, rfl, hl, hc⟩
  · subst h; simp at hk
  · exact ⟨b, off, rfl, hl, hc k hk⟩
theorem Ints.up {w : World} {B B' : Nat} {p : Option Addr} {ns : List Int} (h : Ints w B p ns) (hB : B ≤ B') : Ints w B' p ns :=
  h.imp id (fun ⟨b, o, h1, h2, h3⟩ => ⟨b, o, h1, Nat.lt_of_lt_of_le h2 hB, h3⟩)
theorem Vals.up {w : World} {B B' : Nat} {p : Option Addr} {ns : List Vl} (h : Vals w B p ns) (hB : B ≤ B') : Vals w B' p ns :=
  h.imp id (fun ⟨b, o, h1, h2, h3⟩ => ⟨b, o, h1, Nat.lt_of_lt_of_le h2 hB, h3⟩)

def zv : Vl := (⟨#[]⟩, 0)
theorem flatV_append (a b : List Vl) : flatV (a ++ b) = flatV a ++ flatV b := by simp [flatV]
theorem flatV_set (a b : List Vl) (z v : Vl) : ((flatV (a ++ z :: b)).set (a.length * 2) (.string v.1)).set (a.length * 2 + 1) (.int .i64 v.2) = flatV (a ++ v :: b) := by
  rw [flatV_append, flatV_append]
  have hl := flatV_length a
  rw [List.set_append_right _ _ (by omega), List.set_append_right _ _ (by omega), hl, Nat.sub_self, Nat.add_sub_cancel_left]
  rfl
theorem made_vals (n : Nat) : (madeCells #[.string ⟨#[]⟩, .int .i64 0] (n * 2)).toList = flatV (List.replicate n zv) := by
  apply List.ext_getElem
  · simp [madeCells, flatV_length]
  · intro i h1 h2
    have hi : i < n * 2 := by simpa [madeCells] using h1
    obtain ⟨p, q⟩ := flatV_get (List.replicate n zv) (i / 2) (by simp; omega)
    simp only [madeCells, Array.getElem_toList, Array.getElem_map, Array.getElem_range]
    rcases Nat.mod_two_eq_zero_or_one i with e | e
    · have e2 : i / 2 * 2 = i := by omega
      rw [e2] at p
      rw [List.getElem?_eq_getElem h2] at p
      rw [Option.some.inj p]; simp [e, zv]
    · have e2 : i / 2 * 2 + 1 = i := by omega
      rw [e2] at q
      rw [List.getElem?_eq_getElem h2] at q
      rw [Option.some.inj q]; simp [e, zv]
theorem rowOf_made2 {w' : World} {g n t : Nat} {xs : List Value} (h : w'.ownsRow 0 t 2 (.slice (some ⟨g, 0, none⟩) n n) n xs) : RowOf w' g t xs := by
  obtain ⟨h1, h2⟩ := h
  rcases h2 with ⟨h2, _⟩ | ⟨g', cap, cur, e, _, hg, _, _, hs, hx⟩
  · cases h2
  · injection e with e1 e2 e3
    injection e1 with e1
    injection e1 with e1 e4 e5
    subst e1
    subst e3
    rw [List.take_of_length_le (by simp; omega)] at hx
    subst hx
    exact hg

/-- the values of numbers -/
def sel (l : List Vl) (ks : List Nat) : List Vl := ks.map fun k => l.getD k zv
def selTo (l : List Vl) (ks : List Nat) (i : Nat) : List Vl := sel l (ks.take i) ++ List.replicate (ks.length - i) zv
theorem selTo_zero (l : List Vl) (ks : List Nat) : selTo l ks 0 = List.replicate ks.length zv := by simp [selTo, sel]
theorem selTo_all (l : List Vl) (ks : List Nat) : selTo l ks ks.length = sel l ks := by simp [selTo]
theorem selTo_step (l : List Vl) (ks : List Nat) (i : Nat) (h : i < ks.length) (hk : ks[i] < l.length) : ((flatV (selTo l ks i)).set (i * 2) (.string (l[ks[i]]).1)).set (i * 2 + 1) (.int .i64 (l[ks[i]]).2) = flatV (selTo l ks (i + 1)) := by
  have hl : (sel l (ks.take i)).length = i := by simp [sel]; omega
  have e1 : selTo l ks i = sel l (ks.take i) ++ zv :: List.replicate (ks.length - (i + 1)) zv := by
    unfold selTo; rw [show ks.length - i = (ks.length - (i + 1)) + 1 by omega, List.replicate_succ]
  have e2 : selTo l ks (i + 1) = sel l (ks.take i) ++ l[ks[i]] :: List.replicate (ks.length - (i + 1)) zv := by
    unfold selTo
    rw [List.take_succ_eq_append_getElem h]
    unfold sel
    rw [List.map_append, List.append_assoc, List.map_singleton, List.getD_eq_getElem?_getD, List.getElem?_eq_getElem hk]; rfl
  have := flatV_set (sel l (ks.take i)) (List.replicate (ks.length - (i + 1)) zv) zv l[ks[i]]
  rw [hl] at this
  rw [e1, e2]; exact this
theorem selTo_cells (l : List Vl) (ks : List Nat) (i : Nat) (h : i < ks.length) : (flatV (selTo l ks i))[i * 2]? = some (.string ⟨#[]⟩) ∧ (flatV (selTo l ks i))[i * 2 + 1]? = some (.int .i64 0) := by
  have hs : i < (selTo l ks i).length := by simp [selTo, sel]; omega
  obtain ⟨p, q⟩ := flatV_get (selTo l ks i) i hs
  have e : (selTo l ks i)[i] = zv := by
    have hl : (sel l (ks.take i)).length = i := by simp [sel]; omega
    have h2 : (selTo l ks i)[i]? = some zv := by
      unfold selTo
      rw [List.getElem?_append_right (by omega), hl, Nat.sub_self, List.getElem?_replicate, if_pos (by omega)]
    rw [List.getElem?_eq_getElem hs] at h2
    exact Option.some.inj h2
  rw [e] at p q
  exact ⟨p, q⟩

def ints (ks : List Nat) : List Int := ks.map fun (k : Nat) => Int.ofNat k

set_option maxHeartbeats 4000000 in
set_option maxRecDepth 100000 in
theorem values_ok (w : World) (p : Option Addr) (l : List Vl) (hget : ∀ wx, Below w.heap.size w wx → ∀ k (hk : k < l.length), Calls Try.prog 12 #[.pointer p, .int .i64 k] wx fun e w' => e = .returned (.tuple #[.agg #[.string l[k].1, .int .i64 l[k].2], .bool true]) ∧ Below wx.heap.size wx w')
    (q : Option Addr) (ks : List Nat) (c : Nat) (hv : Ints w w.heap.size q (ints ks)) (hall : ∀ k ∈ ks, k < l.length) (hm : ks.length ≤ maxLen) (hb24 : ks.length * 24 ≤ 281474976710656) :
    Calls Try.prog 15 #[.pointer p, .slice q ks.length c] w fun e w' => ∃ R, e = .returned (.tuple #[.slice (some ⟨R, 0, none⟩) ks.length ks.length, .bool true]) ∧ RowOf w' R 31 (flatV (sel l ks)) ∧ w.heap.size ≤ R ∧ Below w.heap.size w w' := by
  obtain ⟨i0, hi, hz0, hz1, hz2⟩ := info_parts info31
  have HM := Lib.hid hm
  unfold maxLen at hm
  have HG := Lib.hid hget
  have HV := Lib.hid hv
  have HA := Lib.hid hall
  clear hget hv hall
  go_enter Try.func15, Try.ntmps15
  go_wp2_with (at_make; refine wpList_make_full _ rfl _ _ 26 rfl 0 31 i0 (.agg #[.string ⟨#[]⟩, .int .i64 0]) 2 Try.underlying26 hi hz0 hz1 .i64 .i64 _ _ ks.length rfl rfl rfl rfl (by rw [hz2]; omega) HM.out (Nat.zero_le _) ?_; intro w2 hown0 hgrow0; have HOW := Lib.hid hown0; have HGR := Lib.hid hgrow0; clear hown0 hgrow0)
  have hb2 : Below w.heap.size w w2 := (Below.refl _ _).grown HGR.out (Nat.le_refl _) (fun k hk => by cases hk)
  have hR0 : RowOf w2 w.heap.size 31 (flatV (selTo l ks 0)) := by
    rw [selTo_zero]
    have := rowOf_made2 HOW.out
    rwa [show (Value.agg #[.string ⟨#[]⟩, .int .i64 0]).cells = #[.string ⟨#[]⟩, .int .i64 0] from rfl, made_vals] at this
  have HS := Lib.hid (show RowOf w2 w.heap.size 31 (flatV (selTo l ks 0)) ∧ Below w.heap.size w w2 from ⟨hR0, hb2⟩)
  generalize hRR : w.heap.size = R at *
  clear hb2 hR0 HOW HGR
  go_loopw [16] (fun i wx => ∃ (k : Nat), k ≤ ks.length ∧ i = .int .i64 k ∧ Hid (RowOf wx R 31 (flatV (selTo l ks k)) ∧ Below R w wx)) (fun i _ => ks.length - (intOf i).toNat)
  case atStart => exact ⟨0, Nat.zero_le _, rfl, HS⟩
  case round =>
    obtain ⟨k, hk, rfl, hs⟩ := hrel
    clear HS
    have HK := Lib.hid hs.out
    clear hs
    by_cases hlt : k < ks.length
    · obtain ⟨b, off, rfl, hbl, x0⟩ := (HV.out.below HK.out.2 (Nat.le_refl _)).at k (by simp [ints]; omega)
      have hkl := HA.out ks[k] (List.getElem_mem hlt)
      rw [show (ints ks)[k]'(by simp [ints]; omega) = (ks[k] : Int) by simp [ints]] at x0
      have hRl := HK.out.1.lt
      have hbx : b < _ := Nat.lt_trans hbl hRl
      have HGK := Lib.hid (HG.out _ HK.out.2 ks[k] hkl)
      obtain ⟨z0, z1⟩ := selTo_cells l ks k hlt
      have hst := selTo_step l ks k hlt hkl
      generalize hs1 : (l[ks[k]]).1 = s1 at *
      generalize hn1 : (l[ks[k]]).2 = n1 at *
      clear hs1 hn1
      go_wp2_with fail
      refine HGK.out.mono ?_
      rintro e w3 ⟨rfl, hb3⟩
      have hR3 := HK.out.1.below hb3 hRl
      have y0 := hR3.cell (k * 2)
      have y1 := hR3.cell (k * 2 + 1)
      have f0 := hR3.frozen (k * 2)
      have f1 := hR3.frozen (k * 2 + 1)
      rw [z0] at y0
      rw [z1] at y1
      have hR5 := (hR3.set (k * 2) (.string s1)).set (k * 2 + 1) (.int .i64 n1)
      rw [hst] at hR5
      have hR3l := hR3.lt
      have HB3 := Lib.hid (((HK.out.2.trans (hb3.mono (Nat.le_of_lt hRl))).setCell (p := ⟨R, k * 2, none⟩) (Nat.le_refl _) (.string s1)).setCell (p := ⟨R, k * 2 + 1, none⟩) (Nat.le_refl _) (.int .i64 n1))
      have HR5 := Lib.hid hR5
      clear hb3 hR3 hR5 hst z0 z1
      go_wp2_with fail
      go_roundw
      case rel => exact ⟨k + 1, by omega, by go_num, HR5.out.below (alloc_below _ _) HR5.out.lt, HB3.out.alloc (by simp [World.setCell]; omega) _⟩
      case measure => simp [intOf]; omega
    · obtain rfl : k = ks.length := by omega
      go_wp2_with fail
      go_ret2
      have h := HK.out
      rw [selTo_all] at h
      exact ⟨R, rfl, h.1, by omega, by rw [hRR]; exact h.2⟩
end Go.Proofs.Ytdoadclblloddaa
