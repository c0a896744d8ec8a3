/-
  Contract: the reference's Holds.
-/
import Derived.Test.YtmfaallipfhajaaBhy
import Derived.Test.YtmfaallipfhajaaBrm
import Derived.Test.YtmfaallipfhajaaRefC
namespace Go.Proofs.Ytmfaallipfhajaa
open Go.RowKit

theorem lookL_sz : ∀ (b : List Tm) (s : ByteArray) (u : Vl), SzM b → lookL b s = some u → u.1.size ≤ maxLen
  | [], _, _, _, h => by cases h
  | x :: r, s, u, hz, h => by
    rw [lookL] at h
    split at h
    · cases h; exact (hz 0 (by simp)).2
    · exact lookL_sz r s u (fun i hi => hz (i + 1) (by simpa using hi)) h
theorem look_sz {b : List Tm} {t : Tm} (hz : SzM b) (ht : t.s.size ≤ maxLen) {u : Vl} {ok : Bool} (h : lookP (look b t) = (u, ok)) : u.1.size ≤ maxLen := by
  cases h1 : look b t with
  | none => rw [h1] at h; cases h; show (0 : Nat) ≤ _; exact Nat.zero_le _
  | some v =>
    rw [h1] at h; cases h
    unfold look at h1
    split at h1
    · cases h1; exact ht
    · exact lookL_sz b _ _ hz h1

set_option maxHeartbeats 8000000 in
set_option maxRecDepth 100000 in
theorem refholds_walk (k : Int) (hk : k = 3 ∨ k = 4) (p : ByteArray) (qa qb : Option Addr) (x y : Tm) (b : List Tm) (ca cb : Nat) (w : World) (h1 : Tms w w.heap.size qa [x, y]) (h3 : Tms w w.heap.size qb b) (hlb : b.length ≤ maxLen) (hsz : SzM b) (hx1 : x.v.size ≤ maxLen) (hx2 : x.s.size ≤ maxLen) (hy1 : y.v.size ≤ maxLen) (hy2 : y.s.size ≤ maxLen)
    (u v : Vl) (okx oky : Bool) (hx : lookP (look b x) = (u, okx)) (hy : lookP (look b y) = (v, oky)) :
    Calls Try.prog 16 #[.agg #[.int .u8 k, .string p, .slice qa 2 ca], .slice qb b.length cb] w fun e w' => e = .returned (toldS (fun n => if k == 3 then decide (n < 0) else n != 0) (u, okx) (v, oky)) ∧ Below w.heap.size w w' := by
  obtain ⟨ab, ao, rfl, hab, t0, t1, t2, t3, t4, t5⟩ := tms2 h1
  have HB := Lib.hid (below1 w (.cells #[.int .u8 k, .string p, .slice (some ⟨ab, ao, none⟩) 2 ca] 24))
  have hzu := look_sz hsz hx2 hx
  have hzv := look_sz hsz hy2 hy
  have HX := Lib.hid hx
  have HY := Lib.hid hy
  have hn : ((2 : Int) != 2) = false := rfl
  have c0 : (w.alloc (.cells #[.int .u8 k, .string p, .slice (some ⟨ab, ao, none⟩) 2 ca] 24)).cell? ⟨w.heap.size, 0, none⟩ = some (.int .u8 k) := by simp [go_sem]
  have c2 : (w.alloc (.cells #[.int .u8 k, .string p, .slice (some ⟨ab, ao, none⟩) 2 ca] 24)).cell? ⟨w.heap.size, 2, none⟩ = some (.slice (some ⟨ab, ao, none⟩) 2 ca) := by simp [go_sem]
  have hz : w.heap.size < (w.alloc (.cells #[.int .u8 k, .string p, .slice (some ⟨ab, ao, none⟩) 2 ca] 24)).heap.size := by simp
  have HA := Lib.hid (h1.grow HB.out)
  have HT := Lib.hid (h3.grow HB.out)
  have C0 := Lib.hid c0
  have C2 := Lib.hid c2
  have HZ := Lib.hid hz
  have hq : (k != 3) = false ∧ (k == 3) = true ∨ (k != 3) = true ∧ (k != 4) = false ∧ (k == 3) = false := by rcases hk with rfl | rfl <;> simp
  clear h1 h3 hx hy c0 c2 hz hk hsz
  have W0 := Lib.hid (fun (o : Obj) (h : ab < w.heap.size) (off : Nat) => (below1 w o).cell (p := ⟨ab, off, none⟩) h)
  have x0 := (W0.out (.cells #[.int .u8 k, .string p, .slice (some ⟨ab, ao, none⟩) 2 ca] 24) hab _).trans t0
  have x1 := (W0.out (.cells #[.int .u8 k, .string p, .slice (some ⟨ab, ao, none⟩) 2 ca] 24) hab _).trans t1
  have x2 := (W0.out (.cells #[.int .u8 k, .string p, .slice (some ⟨ab, ao, none⟩) 2 ca] 24) hab _).trans t2
  have x3 := (W0.out (.cells #[.int .u8 k, .string p, .slice (some ⟨ab, ao, none⟩) 2 ca] 24) hab _).trans t3
  have x4 := (W0.out (.cells #[.int .u8 k, .string p, .slice (some ⟨ab, ao, none⟩) 2 ca] 24) hab _).trans t4
  have x5 := (W0.out (.cells #[.int .u8 k, .string p, .slice (some ⟨ab, ao, none⟩) 2 ca] 24) hab _).trans t5
  have X3 := Lib.hid x3
  have X4 := Lib.hid x4
  have X5 := Lib.hid x5
  have HAB := Lib.hid (show ab < (w.alloc (.cells #[.int .u8 k, .string p, .slice (some ⟨ab, ao, none⟩) 2 ca] 24)).heap.size by simp; omega)
  clear x0 x1 x2 x3 x4 x5 W0
  rcases hq with ⟨hq1, hq3⟩ | ⟨hq1, hq2, hq3⟩
  all_goals
    have HQ3 := Lib.hid hq3
    go_enter Try.func16, Try.ntmps16
    go_wp2_with fail
    refine (refvalue_any x qb b cb _ HT.out hlb hx1 u okx HX.out).mono ?_
    rintro e w2 ⟨rfl, hb2⟩
    have HB2 := Lib.hid hb2
    have e2 := (hb2.cell (p := ⟨w.heap.size, 2, none⟩) HZ.out).trans C2.out
    have y3 := (hb2.cell (p := ⟨ab, ao + 3, none⟩) HAB.out).trans X3.out
    have y4 := (hb2.cell (p := ⟨ab, ao + 3 + 1, none⟩) HAB.out).trans X4.out
    have y5 := (hb2.cell (p := ⟨ab, ao + 3 + 2, none⟩) HAB.out).trans X5.out
    have q1 : w.heap.size < w2.heap.size := Nat.lt_of_lt_of_le HZ.out hb2.size
    have q2 : ab < w2.heap.size := Nat.lt_of_lt_of_le HAB.out hb2.size
    have HT2 := Lib.hid (HT.out.grow (hb2.trans ((below1 w2 (.cells #[.string u.1, .int .i64 u.2] 46)).mono hb2.size)))
    clear hb2 t0 t1 t2 t3 t4 t5
    go_wp2_with fail
    refine (refvalue_any y qb b cb _ HT2.out hlb hy1 v oky HY.out).mono ?_
    rintro e w3 ⟨rfl, hb3⟩
    have z0 : w3.cell? ⟨w2.heap.size, 0, none⟩ = some (.string u.1) := by rw [hb3.cell (p := ⟨w2.heap.size, 0, none⟩) (by simp)]; simp [go_sem]
    have z1 : w3.cell? ⟨w2.heap.size, 1, none⟩ = some (.int .i64 u.2) := by rw [hb3.cell (p := ⟨w2.heap.size, 1, none⟩) (by simp)]; simp [go_sem]
    have q3 : w2.heap.size < w3.heap.size := by have := hb3.size; simp at this; omega
    have HB23 := Lib.hid (HB2.out.trans (((below1 w2 _).trans (hb3.mono (below1 w2 _).size)).mono HB2.out.size))
    have HB3 := Lib.hid (show Below w.heap.size w w3 from HB.out.trans (HB23.out.mono (Nat.le_of_lt HZ.out)))
    have hw3 : w.heap.size < w3.heap.size := by omega
    have e0 := (HB23.out.cell (p := ⟨w.heap.size, 0, none⟩) HZ.out).trans C0.out
    clear hb3 y3 y4 y5 e2
    generalize hhs : w.heap.size = hs at *
    have HH := Lib.hid hhs
    clear hhs
    cases okx with
    | false =>
      go_wp2_with fail
      go_ret2
      exact ⟨rfl, HH.out.symm ▸ HB3.out.alloc (by omega) _⟩
    | true =>
      cases oky with
      | false =>
        go_wp2_with fail
        go_ret2
        exact ⟨rfl, HH.out.symm ▸ HB3.out.alloc (by omega) _⟩
      | true =>
        go_wp2_with fail
        refine (refcompare_any _ _ _ _ _ hzu hzv).mono ?_
        rintro e w4 ⟨rfl, hb4⟩
        have e1 : w4.cell? ⟨hs, 0, none⟩ = some (.int .u8 k) := (hb4.cell (p := ⟨hs, 0, none⟩) (by simp; omega)).trans (((below1 w3 _).cell (p := ⟨hs, 0, none⟩) hw3).trans e0)
        have HB4 := Lib.hid (show Below hs w w4 from (HB3.out.alloc (by omega) _).trans (hb4.mono (by simp; omega)))
        clear hb4
        go_wp2_with fail
        go_ret2
        exact ⟨by unfold toldS; simp only; rfl, HH.out.symm ▸ HB4.out⟩

set_option maxHeartbeats 4000000 in
set_option maxRecDepth 100000 in
theorem refholds_no (k : Int) (p : ByteArray) (qa qb : Option Addr) (n nb ca cb : Nat) (w : World) (_hn : n ≤ maxLen) (h : (k ≠ 3 ∧ k ≠ 4) ∨ n ≠ 2) :
    Calls Try.prog 16 #[.agg #[.int .u8 k, .string p, .slice qa n ca], .slice qb nb cb] w fun e w' => e = .returned (.tuple #[.bool false, .bool false]) ∧ Below w.heap.size w w' := by
  have HB := Lib.hid (show ∀ o1, Below w.heap.size w (w.alloc o1) from fun o1 => below1 w o1)
  skip
  have hq : (k != 3) = true ∧ (k != 4) = true ∨ (((k != 3) = false ∨ ((k != 3) = true ∧ (k != 4) = false)) ∧ ((n : Int) != 2) = true) := by
    by_cases h3 : k = 3
    · subst h3
      right
      refine ⟨.inl rfl, ?_⟩
      rcases h with h | h
      · exact absurd rfl h.1
      · simp; omega
    · by_cases h4 : k = 4
      · subst h4
        right
        refine ⟨.inr ⟨rfl, rfl⟩, ?_⟩
        rcases h with h | h
        · exact absurd rfl h.2
        · simp; omega
      · left; exact ⟨by simpa using h3, by simpa using h4⟩
  clear h
  rcases hq with ⟨h1, h2⟩ | ⟨h1 | ⟨h1, h2⟩, h3⟩
  all_goals
    go_enter Try.func16, Try.ntmps16
    go_wp2_with fail
    go_ret2
    exact ⟨rfl, HB.out _⟩

theorem refholds_any (k : Int) (p : ByteArray) (qa qb : Option Addr) (args b : List Tm) (ca cb : Nat) (w : World) (h1 : Tms w w.heap.size qa args) (h3 : Tms w w.heap.size qb b) (hla : args.length ≤ maxLen) (hlb : b.length ≤ maxLen) (hza : SzM args) (hsz : SzM b) :
    Calls Try.prog 16 #[.agg #[.int .u8 k, .string p, .slice qa args.length ca], .slice qb b.length cb] w fun e w' => e = .returned (.tuple #[.bool (holdsS k args b).1, .bool (holdsS k args b).2]) ∧ Below w.heap.size w w' := by
  by_cases hl : args.length = 2
  · obtain ⟨x, y, rfl⟩ : ∃ x y, args = [x, y] := by
      match args, hl with
      | [x, y], _ => exact ⟨x, y, rfl⟩
    by_cases hk : k = 3 ∨ k = 4
    · refine (refholds_walk k hk p qa qb x y b ca cb w h1 h3 hlb hsz (hza 0 (by simp)).1 (hza 0 (by simp)).2 (hza 1 (by simp)).1 (hza 1 (by simp)).2 (lookP (look b x)).1 (lookP (look b y)).1 (lookP (look b x)).2 (lookP (look b y)).2 rfl rfl).mono ?_
      rintro e w' ⟨rfl, hb⟩
      refine ⟨?_, hb⟩
      rcases hk with rfl | rfl
      · cases hx : look b x <;> cases hy : look b y <;> simp [holdsS, toldS, lookP, hx, hy]
        exact decide_eq_decide.2 Iff.rfl
      · cases hx : look b x <;> cases hy : look b y <;> simp [holdsS, toldS, lookP, hx, hy]
    · have h3' : k ≠ 3 := fun h => hk (.inl h)
      have h4' : k ≠ 4 := fun h => hk (.inr h)
      have e3 : (k == 3) = false := by simpa using h3'
      have e4 : (k == 4) = false := by simpa using h4'
      refine (refholds_no k p qa qb [x, y].length b.length ca cb w hla (.inl ⟨h3', h4'⟩)).mono ?_
      rintro e w' ⟨rfl, hb⟩
      refine ⟨?_, hb⟩
      cases hx : look b x <;> cases hy : look b y <;> simp [holdsS, e3, e4, hx, hy]
  · refine (refholds_no k p qa qb args.length b.length ca cb w hla (.inr hl)).mono ?_
    rintro e w' ⟨rfl, hb⟩
    refine ⟨?_, hb⟩
    unfold holdsS
    split
    · simp at hl
    · rfl
end Go.Proofs.Ytmfaallipfhajaa
