/-
  Contract: the reference's Value.
-/
import Derived.Test.YtmfaallipfhajaaBmt
namespace Go.Proofs.Ytmfaallipfhajaa
open Go.RowKit

def lookP (o : Option Vl) : Vl × Bool := match o with
  | some v => (v, true)
  | none => ((⟨#[]⟩, 0), false)

set_option maxHeartbeats 4000000 in
set_option maxRecDepth 100000 in
theorem refvalue_any (t : Tm) (q : Option Addr) (l : List Tm) (c : Nat) (w : World) (hl : Tms w w.heap.size q l) (hm : l.length ≤ maxLen) (hs : t.v.size ≤ maxLen) (u : Vl) (ok : Bool) (hu : lookP (look l t) = (u, ok)) :
    Calls Try.prog 24 #[.slice q l.length c, .agg #[.string t.v, .string t.s, .int .i64 t.n]] w fun e w' => e = .returned (.tuple #[.agg #[.string u.1, .int .i64 u.2], .bool ok]) ∧ Below w.heap.size w w' := by
  obtain ⟨v, s, n⟩ := t
  simp only at hs ⊢
  unfold maxLen at hm hs
  have HB := Lib.hid (show ∀ o1 o2, Below w.heap.size w ((w.alloc o1).alloc o2) from fun o1 o2 => below2 w o1 o2)
  cases h0 : v.toList.isEmpty with
  | true =>
    have h1 : ((v.size : Int) == 0) = true := by rw [sz_eq, h0]
    obtain ⟨rfl, rfl⟩ : u = (s, n) ∧ ok = true := by
      have : look l ⟨v, s, n⟩ = some (s, n) := by simp [look, h0, Tm.val]
      rw [this] at hu; cases hu; exact ⟨rfl, rfl⟩
    clear hl hu
    go_enter Try.func24, Try.ntmps24
    go_wp2_with fail
    refine bodyPost_ret (v := .tuple #[.agg #[.string s, .int .i64 n], .bool true]) (by simp [results, Try.results24, go_sem]) rfl ⟨rfl, ?_⟩
    exact HB.out _ _
  | false =>
    have h1 : ((v.size : Int) == 0) = false := by rw [sz_eq, h0]
    have HC := Lib.hid (show look l ⟨v, s, n⟩ = lookL l v by simp [look, h0])
    have HU := Lib.hid hu
    have HL := Lib.hid hl
    clear hl hu
    go_enter Try.func24, Try.ntmps24
    go_wp2_with fail
    have k0 : ((w.alloc (.cells #[.string v, .string s, .int .i64 n] 48)).alloc (.cells #[.string ⟨#[]⟩, .int .i64 0] 46)).cell? ⟨w.heap.size, 0, none⟩ = some (.string v) := by simp [go_sem]
    have k1 : (((w.alloc (.cells #[.string v, .string s, .int .i64 n] 48)).alloc (.cells #[.string ⟨#[]⟩, .int .i64 0] 46)).cell? ⟨w.heap.size + 1, 0, none⟩).isSome = true := by simp [go_sem]
    have k2 : (((w.alloc (.cells #[.string v, .string s, .int .i64 n] 48)).alloc (.cells #[.string ⟨#[]⟩, .int .i64 0] 46)).cell? ⟨w.heap.size + 1, 1, none⟩).isSome = true := by simp [go_sem]
    have f1 : ((w.alloc (.cells #[.string v, .string s, .int .i64 n] 48)).alloc (.cells #[.string ⟨#[]⟩, .int .i64 0] 46)).frozen? ⟨w.heap.size + 1, 0, none⟩ = false := by simp [go_sem]
    have f2 : ((w.alloc (.cells #[.string v, .string s, .int .i64 n] 48)).alloc (.cells #[.string ⟨#[]⟩, .int .i64 0] 46)).frozen? ⟨w.heap.size + 1, 1, none⟩ = false := by simp [go_sem]
    have hb2 := HB.out (.cells #[.string v, .string s, .int .i64 n] 48) (.cells #[.string ⟨#[]⟩, .int .i64 0] 46)
    have hsz : w.heap.size + 2 ≤ ((w.alloc (.cells #[.string v, .string s, .int .i64 n] 48)).alloc (.cells #[.string ⟨#[]⟩, .int .i64 0] 46)).heap.size := by simp
    have HL2 := Lib.hid (HL.out.grow hb2)
    have HB2 := Lib.hid hb2
    clear hb2 HL HB
    generalize (w.alloc (.cells #[.string v, .string s, .int .i64 n] 48)).alloc (.cells #[.string ⟨#[]⟩, .int .i64 0] 46) = W2 at *
    generalize hhs : w.heap.size = hs at *
    have HH := Lib.hid hhs
    clear hhs
    go_loopw [6] (fun i wr => ∃ k : Nat, k ≤ l.length ∧ i = .int .i64 k ∧ lookL l v = lookL (l.drop k) v ∧ Below W2.heap.size W2 wr) (fun i _ => l.length - (intOf i).toNat)
    case atStart => exact ⟨0, Nat.zero_le _, rfl, rfl, Below.refl _ _⟩
    case round =>
      obtain ⟨k, hk, rfl, he, hbw⟩ := hrel
      have HE := Lib.hid he
      have HBW := Lib.hid hbw
      have r0 : wr.cell? ⟨hs, 0, none⟩ = some (.string v) := by rw [hbw.cell (p := ⟨hs, 0, none⟩) (by show hs < _; omega)]; exact k0
      have r1 : wr.frozen? ⟨hs + 1, 0, none⟩ = false := by rw [hbw.frozen (p := ⟨hs + 1, 0, none⟩) (by show hs + 1 < _; omega)]; exact f1
      have r2 : wr.frozen? ⟨hs + 1, 1, none⟩ = false := by rw [hbw.frozen (p := ⟨hs + 1, 1, none⟩) (by show hs + 1 < _; omega)]; exact f2
      obtain ⟨c1, r3⟩ := Option.isSome_iff_exists.1 (show (wr.cell? ⟨hs + 1, 0, none⟩).isSome = true by rw [hbw.cell (p := ⟨hs + 1, 0, none⟩) (by show hs + 1 < _; omega)]; exact k1)
      obtain ⟨c2, r4⟩ := Option.isSome_iff_exists.1 (show (wr.cell? ⟨hs + 1, 1, none⟩).isSome = true by rw [hbw.cell (p := ⟨hs + 1, 1, none⟩) (by show hs + 1 < _; omega)]; exact k2)
      have hw := hbw.size
      clear he hbw k0 k1 k2 f1 f2
      by_cases hlt : k < l.length
      · obtain ⟨b, o, rfl, hb, x0, x1, x2⟩ := rdM_at (HL2.out.below HBW.out (Nat.le_refl _)) k hlt
        have HS := Lib.hid (lookL_step l v k hlt)
        have hkn : (0 : Int) ≤ (k : Int) := by omega
        have hki : (k : Int) < (l.length : Int) := by omega
        cases hq : (l[k].v.toList == v.toList) with
        | true =>
          obtain ⟨rfl, rfl⟩ : u = l[k].val ∧ ok = true := by
            have : look l ⟨v, s, n⟩ = some l[k].val := by rw [HC.out, HE.out, HS.out, if_pos hq]
            have h := HU.out
            rw [this] at h; cases h; exact ⟨rfl, rfl⟩
          go_wp2_with fail
          go_quiet (fail)
          go_wp2_with fail
          have D3 : ∀ m, (wr.drewN m).cell? ⟨hs + 1, 0, none⟩ = some c1 := fun m => ((below_drewN' (Below.refl wr.heap.size wr) m).cell (p := ⟨hs + 1, 0, none⟩) (by show hs + 1 < _; omega)).trans r3
          have D4 : ∀ m, (wr.drewN m).cell? ⟨hs + 1, 1, none⟩ = some c2 := fun m => ((below_drewN' (Below.refl wr.heap.size wr) m).cell (p := ⟨hs + 1, 1, none⟩) (by show hs + 1 < _; omega)).trans r4
          have L1 : ∀ m, (((wr.drewN m).setCell ⟨hs + 1, 0, none⟩ (.string l[k].s)).setCell ⟨hs + 1, 1, none⟩ (.int .i64 l[k].n)).cell? ⟨hs + 1, 0, none⟩ = some (.string l[k].s) := fun m => (load2 (w := wr.drewN m) (b := hs + 1) (o := 0) (D3 m) (D4 m) (.string l[k].s) (.int .i64 l[k].n)).2.1
          have L2 : ∀ m, (((wr.drewN m).setCell ⟨hs + 1, 0, none⟩ (.string l[k].s)).setCell ⟨hs + 1, 1, none⟩ (.int .i64 l[k].n)).cell? ⟨hs + 1, 1, none⟩ = some (.int .i64 l[k].n) := fun m => (load2 (w := wr.drewN m) (b := hs + 1) (o := 0) (D3 m) (D4 m) (.string l[k].s) (.int .i64 l[k].n)).2.2
          refine bodyPost_ret (v := .tuple #[.agg #[.string l[k].s, .int .i64 l[k].n], .bool true]) ?_ rfl ?_
          · simp [results, Try.results24, go_sem, L1, L2]
          refine ⟨rfl, ?_⟩
          exact HH.out.symm ▸ (HB2.out.trans ((((below_drewN' HBW.out _).mono (by omega))).trans (set2 (B := hs) (b := hs + 1) (by omega) 0 _ _)))
        | false =>
          have HR := Lib.hid (show lookL l v = lookL (l.drop (k + 1)) v by rw [HE.out, HS.out, if_neg (by rw [hq]; decide)])
          go_wp2_with fail
          go_quiet (fail)
          go_wp2_with fail
          go_roundw
          case rel => exact ⟨k + 1, by omega, by go_num, HR.out, below_drewN' HBW.out _⟩
          case measure => simp [intOf]; omega
      · obtain ⟨rfl, rfl⟩ : u = (⟨#[]⟩, 0) ∧ ok = false := by
          have : look l ⟨v, s, n⟩ = none := by rw [HC.out, HE.out, lookL_end l v k (by omega)]
          have h := HU.out
          rw [this] at h; cases h; exact ⟨rfl, rfl⟩
        go_wp2_with fail
        refine bodyPost_ret (v := .tuple #[.agg #[.string ⟨#[]⟩, .int .i64 0], .bool false]) ?_ rfl ?_
        · obtain ⟨_, L1, L2⟩ := load2 (w := wr) (b := hs + 1) (o := 0) r3 r4 (.string ⟨#[]⟩) (.int .i64 0)
          have L1' : ((wr.setCell ⟨hs + 1, 0, none⟩ (.string ⟨#[]⟩)).setCell ⟨hs + 1, 1, none⟩ (.int .i64 0)).cell? ⟨hs + 1, 0, none⟩ = some (.string ⟨#[]⟩) := L1
          have L2' : ((wr.setCell ⟨hs + 1, 0, none⟩ (.string ⟨#[]⟩)).setCell ⟨hs + 1, 1, none⟩ (.int .i64 0)).cell? ⟨hs + 1, 1, none⟩ = some (.int .i64 0) := L2
          simp [results, Try.results24, go_sem, L1', L2']
        refine ⟨rfl, ?_⟩
        exact HH.out.symm ▸ (HB2.out.trans ((HBW.out.mono (by omega)).trans (set2 (B := hs) (b := hs + 1) (by omega) 0 _ _)))
end Go.Proofs.Ytmfaallipfhajaa
