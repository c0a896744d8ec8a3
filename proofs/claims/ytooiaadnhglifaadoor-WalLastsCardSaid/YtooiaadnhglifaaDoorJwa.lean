/-
  Dsd, Wdo, Wcl, Wlg, Wmk, Wpn, Wch, Wac, Wap2, Wpg, joined.
-/
import Derived.Test.YtooiaadnhglifaaDoorJdb
import Derived.Test.YtooiaadnhglifaaDoorWpl
import Derived.Test.YtooiaadnhglifaaDoorWre
import Derived.Test.YtooiaadnhglifaaDoorWsp
import Derived.Deep.RegionHeld3
namespace Go.Proofs.YtooiaadnhglifaaDoor
section
set_option linter.unusedVariables false
set_option linter.unusedSimpArgs false
open Go.Maps Go.RowKit

/-- the law's disk -/
structure Sd (X w : World) (s : DS) : Prop where
  dk : ∃ O, Dk X w.heap.size (w.heap.size + 1) s O
  bel : Below w.heap.size w X
theorem Sd.on {X X' w : World} {s : DS} (h : Sd X w s) (hb : Below X.heap.size X X') : Sd X' w s := by
  obtain ⟨O, hD⟩ := h.dk
  exact ⟨⟨O, hD.on_ hb⟩, h.bel.trans (hb.mono h.bel.size)⟩
theorem Sd.go {X X' w : World} {s s' : DS} {O : Nat → Prop} (h : Sd X w s) (hD : Dk X w.heap.size (w.heap.size + 1) s O) (ha : After X' X w.heap.size (w.heap.size + 1) O s') : Sd X' w s' := by
  obtain ⟨O', h1, h2⟩ := ha
  exact ⟨⟨O', h1⟩, h.bel.trans (h2.below (fun b hb => (hD.lt b hb).2) h.bel.size)⟩
theorem sd_new (w : World) : Calls Tryd.prog 15 #[] w fun r w' => r = .returned (.pointer (some ⟨w.heap.size + 1, 0, none⟩)) ∧ Sd w' w newS :=
  (new_disk w).mono fun r w' ⟨h1, h2, h3⟩ => ⟨h1, h2, h3⟩
theorem sd_append {X w : World} {s : DS} (h : Sd X w s) (nm : ByteArray) (hs : nm.size ≤ maxLen) (q : Option Addr) (m : List UInt8) (n c : Nat) (hn : n = m.length) (hc : m.length ≤ c) (hz : n ≤ 1000000000000) (hR : Rd0 X q m) (hq : m = [] ∨ ∀ b, q = some b → b.block < w.heap.size) :
    Calls Tryd.prog 39 #[.pointer (some ⟨w.heap.size + 1, 0, none⟩), .string nm, .slice q n c] X fun r w' => r = .returned (.int .i64 (appS s nm.data.toList m).2) ∧ Sd w' w (appS s nm.data.toList m).1 := by
  obtain ⟨O, hD⟩ := h.dk
  refine (append_any w.heap.size (w.heap.size + 1) s O nm hs q m n c hn hc hz X hD h.bel.size hR (fun a ha => ?_)).mono fun r w' ⟨h1, h2⟩ => ⟨h1, h.go hD h2⟩
  rcases hq with hq | hq
  · exact .inl hq
  · exact .inr fun ho => by have := hq a ha; have := (hD.lt _ ho).2; omega
theorem sd_sync {X w : World} {s : DS} (h : Sd X w s) (nm : ByteArray) (hs : nm.size ≤ maxLen) :
    Calls Tryd.prog 40 #[.pointer (some ⟨w.heap.size + 1, 0, none⟩), .string nm] X fun r w' => r = .returned (.int .i64 (syncS s nm.data.toList).2) ∧ Sd w' w (syncS s nm.data.toList).1 := by
  obtain ⟨O, hD⟩ := h.dk
  exact (sync_any w.heap.size (w.heap.size + 1) s O nm hs X hD).mono fun r w' ⟨h1, h2⟩ => ⟨h1, h.go hD h2⟩
theorem sd_rename {X w : World} {s : DS} (h : Sd X w s) (nm tn : ByteArray) (hs : nm.size ≤ maxLen) (hs2 : tn.size ≤ maxLen) :
    Calls Tryd.prog 42 #[.pointer (some ⟨w.heap.size + 1, 0, none⟩), .string nm, .string tn] X fun r w' => r = .returned (.int .i64 (renS s nm.data.toList tn.data.toList).2) ∧ Sd w' w (renS s nm.data.toList tn.data.toList).1 := by
  obtain ⟨O, hD⟩ := h.dk
  exact (rename_any w.heap.size (w.heap.size + 1) s O nm tn hs hs2 X hD).mono fun r w' ⟨h1, h2⟩ => ⟨h1, h.go hD h2⟩
theorem sd_remove {X w : World} {s : DS} (h : Sd X w s) (nm : ByteArray) (hs : nm.size ≤ maxLen) :
    Calls Tryd.prog 35 #[.pointer (some ⟨w.heap.size + 1, 0, none⟩), .string nm] X fun r w' => r = .returned (.int .i64 (remS s nm.data.toList).2) ∧ Sd w' w (remS s nm.data.toList).1 := by
  obtain ⟨O, hD⟩ := h.dk
  exact (remove_any w.heap.size (w.heap.size + 1) s O nm hs X hD).mono fun r w' ⟨h1, h2⟩ => ⟨h1, h.go hD h2⟩
theorem sd_cut {X w : World} {s : DS} (h : Sd X w s) (nm : ByteArray) (hs : nm.size ≤ maxLen) (n : Int) :
    Calls Tryd.prog 44 #[.pointer (some ⟨w.heap.size + 1, 0, none⟩), .string nm, .int .i64 n] X fun r w' => r = .returned (.int .i64 (cutS s nm.data.toList n).2) ∧ Sd w' w (cutS s nm.data.toList n).1 := by
  obtain ⟨O, hD⟩ := h.dk
  exact (cut_any w.heap.size (w.heap.size + 1) s O nm hs n X hD).mono fun r w' ⟨h1, h2⟩ => ⟨h1, h.go hD h2⟩
theorem sd_crash {X w : World} {s : DS} (h : Sd X w s) (keep : Int) (hk : keep ≤ 9223372036854775807) :
    Calls Tryd.prog 20 #[.pointer (some ⟨w.heap.size + 1, 0, none⟩), .int .i64 keep] X fun r w' => r = .returned (.tuple #[]) ∧ Sd w' w (crashS s keep) := by
  obtain ⟨O, hD⟩ := h.dk
  exact (crash_any w.heap.size (w.heap.size + 1) s O keep hk X hD).mono fun r w' ⟨h1, h2⟩ => ⟨h1, h.go hD h2⟩
theorem sd_fuse {X w : World} {s : DS} (h : Sd X w s) (n : Int) (hn : n ≤ 9223372036854775807) :
    Calls Tryd.prog 19 #[.pointer (some ⟨w.heap.size + 1, 0, none⟩), .int .i64 n] X fun r w' => r = .returned (.tuple #[]) ∧ Sd w' w (fuseS s n) := by
  obtain ⟨O, mb, l, hD, hfs, rfl⟩ := h.dk
  obtain ⟨fs, on, left⟩ := s
  simp only at hD hfs
  subst hfs
  refine (fuse_any w.heap.size (w.heap.size + 1) mb l on left n hn X hD).mono fun r w' ⟨h1, h2, h3⟩ => ⟨h1, ⟨⟨_, mb, l, ?_, ?_, rfl⟩, h.bel.trans ((Only.fr h3 (O := OwnD (w.heap.size + 1) mb l) (.inl rfl)).below (fun b hb => (hD.lt b hb).2) h.bel.size)⟩⟩
  · cases on <;> exact h2
  · cases on <;> rfl
theorem sd_read {X w : World} {s : DS} (h : Sd X w s) (nm : ByteArray) (hs : nm.size ≤ maxLen) :
    Calls Tryd.prog 22 #[.pointer (some ⟨w.heap.size + 1, 0, none⟩), .string nm] X fun r w' => ∃ q c, r = .returned (.tuple #[.slice q (readS s nm.data.toList).1.length c, .int .i64 (readS s nm.data.toList).2]) ∧ Rd0 w' q (readS s nm.data.toList).1 ∧ Sd w' w s := by
  obtain ⟨O, hD⟩ := h.dk
  refine (read_any w.heap.size (w.heap.size + 1) s O nm hs X hD).mono fun r w' ⟨v, h1, h2, h3⟩ => ?_
  obtain ⟨q, c, rfl, _, hr⟩ := h2.rd
  exact ⟨q, c, h1, hr, h.on h3⟩
theorem sd_on {X w : World} {s : DS} (h : Sd X w s) : Calls Tryd.prog 45 #[.pointer (some ⟨w.heap.size + 1, 0, none⟩)] X fun r w' => r = .returned (.bool s.on) ∧ X = w' := by
  obtain ⟨O, mb, l, hD, hfs, rfl⟩ := h.dk
  exact on_any w.heap.size (w.heap.size + 1) mb l s.on s.left X hD
theorem acc_off {w : World} {base n d : Nat} {p : Option Addr} {xs : List UInt8} (h : Acc w base (.slice p n d) xs) : xs = [] ∨ ∀ b, p = some b → base ≤ b.block := by
  by_cases h0 : xs = []
  · exact .inl h0
  · refine .inr fun b hb => ?_
    rcases h.2 with ⟨h1, _⟩ | ho
    · exact absurd h1 h0
    · exact (ho.lt b.block (by rw [hb]; rfl)).1
/-- the law's disk, and bytes that are none of its -/
structure Sf (X w : World) (s : DS) (q : Option Addr) (m : List UInt8) : Prop where
  dk : ∃ O, Dk X w.heap.size (w.heap.size + 1) s O ∧ (m = [] ∨ ∀ b, q = some b → ¬ O b.block)
  rd : Rd0 X q m
  bel : Below w.heap.size w X
theorem Sf.sd {X w : World} {s : DS} {q : Option Addr} {m : List UInt8} (h : Sf X w s q m) : Sd X w s := by
  obtain ⟨O, hD, _⟩ := h.dk
  exact ⟨⟨O, hD⟩, h.bel⟩
theorem Sf.on {X X' w : World} {s : DS} {q : Option Addr} {m : List UInt8} (h : Sf X w s q m) (hb : Below X.heap.size X X') : Sf X' w s q m := by
  obtain ⟨O, hD, hq⟩ := h.dk
  exact ⟨⟨O, hD.on_ hb, hq⟩, h.rd.on hb, h.bel.trans (hb.mono h.bel.size)⟩
theorem sf_read {X w : World} {s : DS} (h : Sd X w s) (nm : ByteArray) (hs : nm.size ≤ maxLen) :
    Calls Tryd.prog 22 #[.pointer (some ⟨w.heap.size + 1, 0, none⟩), .string nm] X fun r w' => ∃ q c, r = .returned (.tuple #[.slice q (readS s nm.data.toList).1.length c, .int .i64 (readS s nm.data.toList).2]) ∧ Sf w' w s q (readS s nm.data.toList).1 ∧ Below X.heap.size X w' := by
  obtain ⟨O, hD⟩ := h.dk
  refine (read_any w.heap.size (w.heap.size + 1) s O nm hs X hD).mono fun r w' ⟨v, h1, h2, h3⟩ => ?_
  obtain ⟨q, c, rfl, _, hr⟩ := h2.rd
  refine ⟨q, c, h1, ⟨⟨O, hD.on_ h3, ?_⟩, hr, h.bel.trans (h3.mono h.bel.size)⟩, h3⟩
  rcases acc_off h2 with h0 | h0
  · exact .inl h0
  · exact .inr fun b hb ho => by have := h0 b hb; have := (hD.lt _ ho).1; omega
theorem sf_crash {X w : World} {s : DS} {q : Option Addr} {m : List UInt8} (h : Sf X w s q m) (keep : Int) (hk : keep ≤ 9223372036854775807) :
    Calls Tryd.prog 20 #[.pointer (some ⟨w.heap.size + 1, 0, none⟩), .int .i64 keep] X fun r w' => r = .returned (.tuple #[]) ∧ Sd w' w (crashS s keep) ∧ Rd0 w' q m := by
  obtain ⟨O, hD, hq⟩ := h.dk
  refine (crash_any w.heap.size (w.heap.size + 1) s O keep hk X hD).mono fun r w' ⟨h1, h2⟩ => ⟨h1, h.sd.go hD h2, ?_⟩
  obtain ⟨O', _, hf⟩ := h2
  refine h.rd.fr (O := O) (fun a ha => ?_) hf
  rcases hq with hq | hq
  · exact .inl hq
  · exact .inr (hq a ha)
end
section
set_option linter.unusedVariables false
set_option linter.unusedSimpArgs false
open Go.Maps Go.RowKit

/-- a function with a body is entered -/
def Cal (P : Program) (f : FuncId) : Prop := ∀ (args : Array Value) (w : World), (callFunc f args).run P w = .ok (.enter f args) w
theorem cal_of {P : Program} {f : FuncId} {fn : Func} (hf : P.funcs[f]? = some fn) (hn : (fn.name == "runtime.NumGoroutine") = false) (hb : fn.body.isNone = false) : Cal P f := fun args w => by
  have h1 : ¬ fn.name = "runtime.NumGoroutine" := by simpa using hn
  have h2 : ¬ fn.body = none := by
    intro h; rw [h] at hb; cases hb
  unfold callFunc
  simp [Sem.run_bind, hf, h1, h2]
set_option maxRecDepth 100000 in
set_option maxHeartbeats 4000000 in
theorem do_any (lb ab off c n : Nat) (hn : n ≤ 1000) (fn : Nat → FuncId) (bs fs : Nat → Array Value) (T : TypeId)
    (I : Nat → World → Prop) (J : Int → World → Prop) (hcal : ∀ i, i < n → Cal Tryd.prog (fn i))
    (h1 : ∀ i X, I i X → i < n → X.cell? ⟨ab, off + i, none⟩ = some (.func (.func (fn i)) (bs i) (fs i)))
    (h2 : ∀ i X, I i X → i < n → Calls Tryd.prog (fn i) (bs i ++ fs i) X fun r X' => ∃ e, r = .returned (.int .i64 e) ∧ ((e = 0 ∧ I (i + 1) X') ∨ (e ≠ 0 ∧ ∃ dp pv dn, Bk X' lb T #[dp, pv, .bool dn] ∧ J e (X'.setCell ⟨lb, 2, none⟩ (.bool (dn || e == 20))))))
    (w : World) (h0 : I 0 w) :
    Calls Tryd.prog 32 #[.pointer (some ⟨lb, 0, none⟩), .slice (some ⟨ab, off, none⟩) n c] w fun r w' => ∃ e, r = .returned (.int .i64 e) ∧ ((e = 0 ∧ I n w') ∨ (e ≠ 0 ∧ J e w')) := by
  have H1 := Lib.hid h1
  have H2 := Lib.hid h2
  have HI := Lib.hid h0
  clear h1 h2 h0
  go_enter Tryd.func32, Tryd.ntmps32
  go_wp2_with fail
  go_loopw [10] (fun i wr => ∃ k : Nat, k ≤ n ∧ i = .int .i64 (k : Int) ∧ Hid (I k wr)) (fun i _ => n - (intOf i).toNat)
  case atStart => exact ⟨0, Nat.zero_le _, rfl, HI⟩
  case round =>
    clear HI
    obtain ⟨k, hk, rfl, HI⟩ := hrel
    have k0 : (0 : Int) ≤ (k : Int) := by omega
    by_cases hlt : k < n
    · have k1 : (k : Int) < (n : Int) := by omega
      have k6 : IntKind.i64.wrap ((k : Int) + 1) = (k : Int) + 1 := IntWalk.i64_in _ (by omega)
      have hc := H1.out k wr HI.out hlt
      have HC := Lib.hid (H2.out k wr HI.out hlt)
      go_wp2_with fail
      rw [hcal k hlt, Oper.upon_enter]
      refine HC.out.mono ?_
      rintro r w1 ⟨e, rfl, ⟨rfl, hi⟩ | ⟨he, dp, pv, dn, hb, hj⟩⟩
      · have HI2 := Lib.hid hi
        clear hc HC HI hi
        go_wp2_with fail
        go_roundw
        case rel => exact ⟨k + 1, by omega, by go_num, HI2⟩
        case measure => simp [intOf]; try omega
      · have HJ := Lib.hid hj
        have c0 := hb.cell 2 (.bool dn) rfl
        have s0 := hb.soft 2
        have z0 : (e != 0) = true := by simpa [bne_iff_ne] using he
        clear hc HC HI hj hb he
        have HNE := Lib.hid (show e ≠ 0 by simpa [bne_iff_ne] using z0)
        cases dn with
        | true =>
          go_wp2_with fail
          go_ret
          exact ⟨e, rfl, .inr ⟨HNE.out, HJ.out⟩⟩
        | false =>
          rcases Bool.eq_false_or_eq_true (e == 20) with h20 | h20
          · rw [h20] at HJ
            go_wp2_with fail
            go_ret
            exact ⟨e, rfl, .inr ⟨HNE.out, HJ.out⟩⟩
          · rw [h20] at HJ
            go_wp2_with fail
            go_ret
            exact ⟨e, rfl, .inr ⟨HNE.out, HJ.out⟩⟩
    · obtain rfl : k = n := by omega
      obtain ⟨wq, rfl⟩ : ∃ wq : World, wq = wr := ⟨_, rfl⟩
      go_wp2_with fail
      go_ret
      exact ⟨0, rfl, .inl ⟨rfl, HI.out⟩⟩
end
section
set_option linter.unusedVariables false
set_option linter.unusedSimpArgs false
open Go.Maps Go.RowKit

set_option maxRecDepth 100000 in
theorem on1_any (b0 b1 : Nat) (f : FuncId) (bs fs : Array Value) (nm : ByteArray) (w : World) (hcal : Cal Tryd.prog f) (h0 : w.cell? ⟨b0, 0, none⟩ = some (.func (.func f) bs fs)) (h1 : w.cell? ⟨b1, 0, none⟩ = some (.string nm))
    (R : World → World → Int → Prop) (hc : Calls Tryd.prog f (bs ++ #[.string nm] ++ fs) w fun r w' => ∃ e, r = .returned (.int .i64 e) ∧ R w w' e) :
    Calls Tryd.prog 53 #[.pointer (some ⟨b0, 0, none⟩), .pointer (some ⟨b1, 0, none⟩)] w fun r w' => ∃ e, r = .returned (.int .i64 e) ∧ R w w' e := by
  have HC := Lib.hid hc
  clear hc
  go_enter Tryd.func53, Tryd.ntmps53
  go_wp2_with fail
  rw [hcal, Oper.upon_enter]
  refine HC.out.mono ?_
  rintro r w1 ⟨e, rfl, h⟩
  have HR := Lib.hid h
  clear h h0 h1 HC
  go_wp2_with fail
  go_ret
  exact ⟨e, rfl, HR.out⟩
set_option maxRecDepth 100000 in
theorem withB_any (b0 b1 b2 : Nat) (f : FuncId) (bs fs : Array Value) (nm : ByteArray) (q : Option Addr) (n c : Nat) (w : World) (hcal : Cal Tryd.prog f) (h0 : w.cell? ⟨b0, 0, none⟩ = some (.func (.func f) bs fs)) (h1 : w.cell? ⟨b1, 0, none⟩ = some (.string nm)) (h2 : w.cell? ⟨b2, 0, none⟩ = some (.slice q n c))
    (R : World → World → Int → Prop) (hc : Calls Tryd.prog f (bs ++ (#[.string nm, .slice q n c] ++ fs)) w fun r w' => ∃ e, r = .returned (.int .i64 e) ∧ R w w' e) :
    Calls Tryd.prog 57 #[.pointer (some ⟨b0, 0, none⟩), .pointer (some ⟨b1, 0, none⟩), .pointer (some ⟨b2, 0, none⟩)] w fun r w' => ∃ e, r = .returned (.int .i64 e) ∧ R w w' e := by
  have HC := Lib.hid hc
  clear hc
  go_enter Tryd.func57, Tryd.ntmps57
  go_wp2_with fail
  rw [hcal, Oper.upon_enter]
  refine HC.out.mono ?_
  rintro r w1 ⟨e, rfl, h⟩
  have HR := Lib.hid h
  clear h h0 h1 h2 HC
  go_wp2_with fail
  go_ret
  exact ⟨e, rfl, HR.out⟩

set_option maxRecDepth 100000 in
theorem withS_any (b0 b1 b2 : Nat) (f : FuncId) (bs fs : Array Value) (nm : ByteArray) (tn : ByteArray) (w : World) (hcal : Cal Tryd.prog f) (h0 : w.cell? ⟨b0, 0, none⟩ = some (.func (.func f) bs fs)) (h1 : w.cell? ⟨b1, 0, none⟩ = some (.string nm)) (h2 : w.cell? ⟨b2, 0, none⟩ = some (.string tn))
    (R : World → World → Int → Prop) (hc : Calls Tryd.prog f (bs ++ (#[.string nm, .string tn] ++ fs)) w fun r w' => ∃ e, r = .returned (.int .i64 e) ∧ R w w' e) :
    Calls Tryd.prog 61 #[.pointer (some ⟨b0, 0, none⟩), .pointer (some ⟨b1, 0, none⟩), .pointer (some ⟨b2, 0, none⟩)] w fun r w' => ∃ e, r = .returned (.int .i64 e) ∧ R w w' e := by
  have HC := Lib.hid hc
  clear hc
  go_enter Tryd.func61, Tryd.ntmps61
  go_wp2_with fail
  rw [hcal, Oper.upon_enter]
  refine HC.out.mono ?_
  rintro r w1 ⟨e, rfl, h⟩
  have HR := Lib.hid h
  clear h h0 h1 h2 HC
  go_wp2_with fail
  go_ret
  exact ⟨e, rfl, HR.out⟩

set_option maxRecDepth 100000 in
theorem withI_any (b0 b1 b2 : Nat) (f : FuncId) (bs fs : Array Value) (nm : ByteArray) (k : Int) (w : World) (hcal : Cal Tryd.prog f) (h0 : w.cell? ⟨b0, 0, none⟩ = some (.func (.func f) bs fs)) (h1 : w.cell? ⟨b1, 0, none⟩ = some (.string nm)) (h2 : w.cell? ⟨b2, 0, none⟩ = some (.int .i64 k))
    (R : World → World → Int → Prop) (hc : Calls Tryd.prog f (bs ++ (#[.string nm, .int .i64 k] ++ fs)) w fun r w' => ∃ e, r = .returned (.int .i64 e) ∧ R w w' e) :
    Calls Tryd.prog 63 #[.pointer (some ⟨b0, 0, none⟩), .pointer (some ⟨b1, 0, none⟩), .pointer (some ⟨b2, 0, none⟩)] w fun r w' => ∃ e, r = .returned (.int .i64 e) ∧ R w w' e := by
  have HC := Lib.hid hc
  clear hc
  go_enter Tryd.func63, Tryd.ntmps63
  go_wp2_with fail
  rw [hcal, Oper.upon_enter]
  refine HC.out.mono ?_
  rintro r w1 ⟨e, rfl, h⟩
  have HR := Lib.hid h
  clear h h0 h1 h2 HC
  go_wp2_with fail
  go_ret
  exact ⟨e, rfl, HR.out⟩

set_option maxRecDepth 100000 in
theorem ifThere1_any (b0 : Nat) (f : FuncId) (bs fs : Array Value) (w : World) (hcal : Cal Tryd.prog f) (h0 : w.cell? ⟨b0, 0, none⟩ = some (.func (.func f) bs fs))
    (R : World → World → Int → Prop) (hc : Calls Tryd.prog f (bs ++ fs) w fun r w' => ∃ e, r = .returned (.int .i64 e) ∧ R w w' e) :
    Calls Tryd.prog 52 #[.pointer (some ⟨b0, 0, none⟩)] w fun r w' => ∃ e, r = .returned (.int .i64 (if e = 4 then 0 else e)) ∧ R w w' e := by
  have HC := Lib.hid hc
  clear hc
  go_enter Tryd.func52, Tryd.ntmps52
  go_wp2_with fail
  rw [hcal, Oper.upon_enter]
  refine HC.out.mono ?_
  rintro r w1 ⟨e, rfl, h⟩
  have HR := Lib.hid h
  clear h h0 HC
  by_cases h4 : e = 4
  · subst h4
    go_wp2_with fail
    go_ret
    exact ⟨4, by simp, HR.out⟩
  · have z4 : (e == 4) = false := by simpa using h4
    have HZ := Lib.hid h4
    clear h4
    go_wp2_with fail
    go_ret
    exact ⟨e, by rw [if_neg HZ.out]; rfl, HR.out⟩
end
section
set_option linter.unusedVariables false
set_option linter.unusedSimpArgs false
open Go.Maps Go.RowKit

/-- a block that is not of O, with all its cells -/
structure Kc (X : World) (O : Nat → Prop) (b : Nat) (T : TypeId) (cs : Array Value) : Prop where
  bk : Bk X b T cs
  no : ¬ O b
theorem Kc.fr {X X' : World} {O O' : Nat → Prop} {b : Nat} {T : TypeId} {cs : Array Value} (h : Kc X O b T cs) (hf : Fr X X' O O') : Kc X' O' b T cs :=
  ⟨(hf.block b h.bk.lt h.no).trans h.bk, fun h' => (hf.own b h').elim h.no (fun e => absurd h.bk.lt (by omega))⟩
theorem Kc.on {X X' : World} {O : Nat → Prop} {b : Nat} {T : TypeId} {cs : Array Value} (h : Kc X O b T cs) (hb : Below X.heap.size X X') : Kc X' O b T cs := ⟨h.bk.on hb, h.no⟩
theorem Kc.sub {X : World} {O O' : Nat → Prop} {b : Nat} {T : TypeId} {cs : Array Value} (h : Kc X O b T cs) (hs : ∀ b, O' b → O b) : Kc X O' b T cs := ⟨h.bk, fun e => h.no (hs _ e)⟩
/-- bytes that do not lie in O -/
structure Kr (X : World) (O : Nat → Prop) (q : Option Addr) (m : List UInt8) : Prop where
  rd : Rd0 X q m
  no : m = [] ∨ ∀ a, q = some a → ¬ O a.block
theorem Rd0.lt {X : World} {q : Option Addr} {m : List UInt8} (h : Rd0 X q m) : m = [] ∨ ∀ a, q = some a → a.block < X.heap.size := by
  rcases h with h | ⟨b, off, rfl, h, _⟩
  · exact .inl h
  · exact .inr fun a ha => by cases ha; exact h
theorem Kr.fr {X X' : World} {O O' : Nat → Prop} {q : Option Addr} {m : List UInt8} (h : Kr X O q m) (hf : Fr X X' O O') : Kr X' O' q m := by
  refine ⟨h.rd.fr (O := O) (fun a ha => h.no.imp id (fun h => h a ha)) hf, ?_⟩
  rcases h.no with h0 | h0
  · exact .inl h0
  · rcases h.rd.lt with h1 | h1
    · exact .inl h1
    · exact .inr fun a ha e => (hf.own _ e).elim (h0 a ha) (fun e => by have := h1 a ha; omega)
theorem Kr.on {X X' : World} {O : Nat → Prop} {q : Option Addr} {m : List UInt8} (h : Kr X O q m) (hb : Below X.heap.size X X') : Kr X' O q m := ⟨h.rd.on hb, h.no⟩
theorem Kr.sub {X : World} {O O' : Nat → Prop} {q : Option Addr} {m : List UInt8} (h : Kr X O q m) (hs : ∀ b, O' b → O b) : Kr X O' q m := ⟨h.rd, h.no.imp id (fun h a ha e => h a ha (hs _ e))⟩

/-- all that is the log's -/
def OwnW (O : Nat → Prop) (lb : Nat) (v : Value) (b : Nat) : Prop := O b ∨ b = lb ∨ v.ownBlock = some b
abbrev logCells (d : Nat) (v : Value) (dn : Bool) : Array Value := #[.pointer (some ⟨d, 0, none⟩), v, .bool dn]
structure Wk (X : World) (base d lb : Nat) (s : DS) (O : Nat → Prop) (v : Value) (l : List SlA) (dn : Bool) : Prop where
  dk : Dk X base d s O
  bk : Kc X O lb 70 (logCells d v dn)
  pl : Pl X base v l
  hlb : base ≤ lb
  nv : ∀ g, v.ownBlock = some g → ¬ O g ∧ g ≠ lb
  nx : ∀ x ∈ l, x.m = [] ∨ ∀ a, x.q = some a → ¬ O a.block ∧ a.block ≠ lb
theorem Wk.on {X X' : World} {base d lb : Nat} {s : DS} {O : Nat → Prop} {v : Value} {l : List SlA} {dn : Bool} (h : Wk X base d lb s O v l dn) (hb : Below X.heap.size X X') : Wk X' base d lb s O v l dn :=
  ⟨h.dk.on_ hb, h.bk.on hb, h.pl.on hb, h.hlb, h.nv, h.nx⟩
theorem Wk.low {X : World} {base d lb : Nat} {s : DS} {O : Nat → Prop} {v : Value} {l : List SlA} {dn : Bool} (h : Wk X base d lb s O v l dn) : ∀ b, OwnW O lb v b → b < X.heap.size ∧ base ≤ b := by
  rintro b (h1 | rfl | h1)
  · exact h.dk.lt b h1
  · exact ⟨h.bk.bk.lt, h.hlb⟩
  · have := h.pl.own.lt b h1; exact ⟨this.2, this.1⟩
theorem ownsRow_kept {w w' : World} {base E k n : Nat} {v : Value} {xs : List Value} (h : w.ownsRow base E k v n xs) (hk : ∀ b, v.ownBlock = some b → w'.heap[b]? = w.heap[b]?) : w'.ownsRow base E k v n xs := by
  obtain ⟨h1, h2⟩ := h
  refine ⟨h1, ?_⟩
  rcases h2 with h2 | ⟨g, cap, cur, rfl, h3, h4, h5⟩
  · exact .inl h2
  · exact .inr ⟨g, cap, cur, rfl, h3, (hk g rfl).trans h4, h5⟩
/-- behind an act of the disk -/
theorem Wk.disk {X X' : World} {base d lb : Nat} {s s' : DS} {O : Nat → Prop} {v : Value} {l : List SlA} {dn : Bool} (h : Wk X base d lb s O v l dn) (ha : After X' X base d O s') : ∃ O', Wk X' base d lb s' O' v l dn ∧ Fr X X' O O' ∧ Fr X X' (OwnW O lb v) (OwnW O' lb v) := by
  obtain ⟨O', hD, hf⟩ := ha
  have hno : ∀ b, b < X.heap.size → ¬ O b → ¬ O' b := fun b hb hn e => (hf.own b e).elim hn (fun e => by omega)
  refine ⟨O', ⟨hD, h.bk.fr hf, ?_, h.hlb, fun g hg => ⟨hno g (h.pl.own.lt g hg).2 (h.nv g hg).1, (h.nv g hg).2⟩, fun x hx => ?_⟩, hf, ⟨hf.os, hf.tape, hf.output, hf.size, fun b hb hn => hf.block b hb (fun e => hn (.inl e)), fun b hb => ?_⟩⟩
  · refine ⟨h.pl.form, ownsRow_kept h.pl.own (fun b hb => hf.block b (h.pl.own.lt b hb).2 (h.nv b hb).1), fun x hx => ⟨(h.pl.ok x hx).1.fr (O := O) (fun a ha => (h.nx x hx).imp id (fun h => (h a ha).1)) hf, (h.pl.ok x hx).2⟩, h.pl.far⟩
  · rcases h.nx x hx with h0 | h0
    · exact .inl h0
    · rcases (h.pl.ok x hx).1.lt with h1 | h1
      · exact .inl h1
      · exact .inr fun a ha => ⟨hno _ (h1 a ha) (h0 a ha).1, (h0 a ha).2⟩
  · rcases hb with hb | hb | hb
    · exact (hf.own b hb).imp .inl id
    · exact .inl (.inr (.inl hb))
    · exact .inl (.inr (.inr hb))
theorem Rd0.set {w : World} {q : Option Addr} {m : List UInt8} (h : Rd0 w q m) (b o : Nat) (u : Value) (hn : m = [] ∨ ∀ a, q = some a → a.block ≠ b) : Rd0 (w.setCell ⟨b, o, none⟩ u) q m := by
  rcases h with h | ⟨b', off, rfl, hl, hc⟩
  · exact .inl h
  · rcases hn with hn | hn
    · exact .inl hn
    · refine .inr ⟨b', off, rfl, by simpa [World.setCell] using hl, fun i v hv => ?_⟩
      have hne : b' ≠ b := hn _ rfl
      rw [World.cell?_of_block (w := w) (Below.heap_setCell w ⟨b, o, none⟩ u _ hne)]
      exact hc i v hv
theorem setCell_size (w : World) (b o : Nat) (u : Value) : (w.setCell ⟨b, o, none⟩ u).heap.size = w.heap.size := by simp [World.setCell]
/-- a store into the log's block -/
theorem Wk.put {X : World} {base d lb : Nat} {s : DS} {O : Nat → Prop} {v v' : Value} {l l' : List SlA} {dn dn' : Bool} (h : Wk X base d lb s O v l dn) (o : Nat) (u : Value) (hc : (logCells d v dn).setIfInBounds o u = logCells d v' dn')
    (hp : Pl X base v' l') (hv : ∀ g, v'.ownBlock = some g → ¬ O g ∧ g ≠ lb) (hx : ∀ x ∈ l', x.m = [] ∨ ∀ a, x.q = some a → ¬ O a.block ∧ a.block ≠ lb) : Wk (X.setCell ⟨lb, o, none⟩ u) base d lb s O v' l' dn' := by
  refine ⟨h.dk.kept fun b hb => Below.heap_setCell X ⟨lb, o, none⟩ u _ (fun e => h.bk.no (by have e' : b = lb := e; rw [← e']; exact hb)), ⟨?_, h.bk.no⟩, ?_, h.hlb, hv, hx⟩
  · have := h.bk.bk.set o u
    rw [hc] at this
    exact this
  · refine ⟨hp.form, ownsRow_kept hp.own (fun b hb => Below.heap_setCell X ⟨lb, o, none⟩ u _ (hv b hb).2), fun x hx' => ⟨(hp.ok x hx').1.set lb o u ((hx x hx').imp id (fun h a ha => (h a ha).2)), (hp.ok x hx').2⟩, hp.far⟩
theorem Wk.setDown {X : World} {base d lb : Nat} {s : DS} {O : Nat → Prop} {v : Value} {l : List SlA} {dn : Bool} (h : Wk X base d lb s O v l dn) (b : Bool) : Wk (X.setCell ⟨lb, 2, none⟩ (.bool b)) base d lb s O v l b :=
  h.put 2 (.bool b) rfl h.pl h.nv h.nx
theorem Wk.frDown {X : World} {base d lb : Nat} {s : DS} {O : Nat → Prop} {v : Value} {l : List SlA} {dn : Bool} (h : Wk X base d lb s O v l dn) (o : Nat) (u : Value) : Fr X (X.setCell ⟨lb, o, none⟩ u) (OwnW O lb v) (OwnW O lb v) := Fr.set X lb (.inr (.inl rfl)) o u
end
section
set_option linter.unusedVariables false
set_option linter.unusedSimpArgs false
open Go.Maps Go.RowKit

set_option maxRecDepth 100000 in
theorem on_mk (f : FuncId) (bs fs : Array Value) (nm : ByteArray) (w : World) :
    Calls Tryd.prog 34 #[.func (.func f) bs fs, .string nm] w fun r w' => ∃ b0 b1 T0 T1, r = .returned (.func (.func 53) #[] #[.pointer (some ⟨b0, 0, none⟩), .pointer (some ⟨b1, 0, none⟩)]) ∧ w.heap.size ≤ b0 ∧ w.heap.size ≤ b1 ∧ Bk w' b0 T0 #[.func (.func f) bs fs] ∧ Bk w' b1 T1 #[.string nm] ∧ Below w.heap.size w w' := by
  go_enter Tryd.func34, Tryd.ntmps34
  go_wp2_with fail
  go_ret
  exact ⟨w.heap.size, w.heap.size + 1, _, _, rfl, by omega, by omega, (Bk.new _ _ _).on (below1 _ _), Bk.new' _ (by simp) _ _, below2 _ _ _⟩

set_option maxRecDepth 100000 in
theorem withB_mk (f : FuncId) (bs fs : Array Value) (nm : ByteArray) (q : Option Addr) (n c : Nat) (w : World) :
    Calls Tryd.prog 38 #[.func (.func f) bs fs, .string nm, .slice q n c] w fun r w' => ∃ b0 b1 b2 T0 T1 T2, r = .returned (.func (.func 57) #[] #[.pointer (some ⟨b0, 0, none⟩), .pointer (some ⟨b1, 0, none⟩), .pointer (some ⟨b2, 0, none⟩)]) ∧ w.heap.size ≤ b0 ∧ w.heap.size ≤ b1 ∧ w.heap.size ≤ b2 ∧ Bk w' b0 T0 #[.func (.func f) bs fs] ∧ Bk w' b1 T1 #[.string nm] ∧ Bk w' b2 T2 #[.slice q n c] ∧ Below w.heap.size w w' := by
  go_enter Tryd.func38, Tryd.ntmps38
  go_wp2_with fail
  go_ret
  exact ⟨w.heap.size, w.heap.size + 1, w.heap.size + 2, _, _, _, rfl, by omega, by omega, by omega, ((Bk.new _ _ _).on (below1 _ _)).on (below1 _ _), (Bk.new' _ (by simp) _ _).on (below1 _ _), Bk.new' _ (by simp) _ _, (below2 w _ _).alloc (by simp only [World.size_alloc]; omega) _⟩

set_option maxRecDepth 100000 in
theorem withS_mk (f : FuncId) (bs fs : Array Value) (nm tn : ByteArray) (w : World) :
    Calls Tryd.prog 41 #[.func (.func f) bs fs, .string nm, .string tn] w fun r w' => ∃ b0 b1 b2 T0 T1 T2, r = .returned (.func (.func 61) #[] #[.pointer (some ⟨b0, 0, none⟩), .pointer (some ⟨b1, 0, none⟩), .pointer (some ⟨b2, 0, none⟩)]) ∧ w.heap.size ≤ b0 ∧ w.heap.size ≤ b1 ∧ w.heap.size ≤ b2 ∧ Bk w' b0 T0 #[.func (.func f) bs fs] ∧ Bk w' b1 T1 #[.string nm] ∧ Bk w' b2 T2 #[.string tn] ∧ Below w.heap.size w w' := by
  go_enter Tryd.func41, Tryd.ntmps41
  go_wp2_with fail
  go_ret
  exact ⟨w.heap.size, w.heap.size + 1, w.heap.size + 2, _, _, _, rfl, by omega, by omega, by omega, ((Bk.new _ _ _).on (below1 _ _)).on (below1 _ _), (Bk.new' _ (by simp) _ _).on (below1 _ _), Bk.new' _ (by simp) _ _, (below2 w _ _).alloc (by simp only [World.size_alloc]; omega) _⟩

set_option maxRecDepth 100000 in
theorem withI_mk (f : FuncId) (bs fs : Array Value) (nm : ByteArray) (k : Int) (w : World) :
    Calls Tryd.prog 43 #[.func (.func f) bs fs, .string nm, .int .i64 k] w fun r w' => ∃ b0 b1 b2 T0 T1 T2, r = .returned (.func (.func 63) #[] #[.pointer (some ⟨b0, 0, none⟩), .pointer (some ⟨b1, 0, none⟩), .pointer (some ⟨b2, 0, none⟩)]) ∧ w.heap.size ≤ b0 ∧ w.heap.size ≤ b1 ∧ w.heap.size ≤ b2 ∧ Bk w' b0 T0 #[.func (.func f) bs fs] ∧ Bk w' b1 T1 #[.string nm] ∧ Bk w' b2 T2 #[.int .i64 k] ∧ Below w.heap.size w w' := by
  go_enter Tryd.func43, Tryd.ntmps43
  go_wp2_with fail
  go_ret
  exact ⟨w.heap.size, w.heap.size + 1, w.heap.size + 2, _, _, _, rfl, by omega, by omega, by omega, ((Bk.new _ _ _).on (below1 _ _)).on (below1 _ _), (Bk.new' _ (by simp) _ _).on (below1 _ _), Bk.new' _ (by simp) _ _, (below2 w _ _).alloc (by simp only [World.size_alloc]; omega) _⟩

set_option maxRecDepth 100000 in
theorem ifThere_mk (f : FuncId) (bs fs : Array Value) (w : World) :
    Calls Tryd.prog 33 #[.func (.func f) bs fs] w fun r w' => ∃ b0 T0, r = .returned (.func (.func 52) #[] #[.pointer (some ⟨b0, 0, none⟩)]) ∧ w.heap.size ≤ b0 ∧ Bk w' b0 T0 #[.func (.func f) bs fs] ∧ Below w.heap.size w w' := by
  go_enter Tryd.func33, Tryd.ntmps33
  go_wp2_with fail
  go_ret
  exact ⟨w.heap.size, _, rfl, by omega, Bk.new _ _ _, below1 _ _⟩

end
section
set_option linter.unusedVariables false
set_option linter.unusedSimpArgs false

abbrev logN : List UInt8 := [108, 111, 103]
abbrev snapN : List UInt8 := [115, 110, 97, 112]
abbrev nextN : List UInt8 := [110, 101, 120, 116]
/-- a log: its disk, its payloads, whether the power failed under it -/
structure LS where
  d : DS
  ps : List (List UInt8)
  dn : Bool
/-- a call ends with an error -/
def LS.err (s : LS) (d : DS) (e : Int) : LS × Int := (⟨d, s.ps, s.dn || e == 20⟩, e)
def wAppS (s : LS) (m : List UInt8) : LS × Int :=
  if s.dn = true then (s, 20) else if 8192 < m.length then (s, 2) else
  let a := appS s.d logN (recS (s.ps.length + 1) m)
  if a.2 ≠ 0 then s.err a.1 a.2 else
  let b := syncS a.1 logN
  if b.2 ≠ 0 then s.err b.1 b.2 else (⟨b.1, s.ps ++ [m], false⟩, 0)
/-- all records, from the number i + 1 on -/
def recsS (i : Nat) : List (List UInt8) → List UInt8
  | [] => []
  | m :: r => recS (i + 1) m ++ recsS (i + 1) r
def thereE (e : Int) : Int := if e = 4 then 0 else e
def wChkS (s : LS) : LS × Int :=
  if s.dn = true then (s, 20) else if 1048576 < (recsS 0 s.ps).length then (s, 3) else
  let a := appS s.d nextN (recsS 0 s.ps)
  if a.2 ≠ 0 then s.err a.1 a.2 else
  let b := syncS a.1 nextN
  if b.2 ≠ 0 then s.err b.1 b.2 else
  let c := renS b.1 nextN snapN
  if c.2 ≠ 0 then s.err c.1 c.2 else
  let e := cutS c.1 logN 0
  if thereE e.2 ≠ 0 then s.err e.1 (thereE e.2) else (⟨e.1, s.ps, false⟩, 0)
/-- the bytes of a file; of one that there is not, none -/
def fileS (d : DS) (nm : List UInt8) : List UInt8 × Int := let r := readS d nm; if r.2 = 4 then ([], 0) else r
def snapS (d : DS) : List (List UInt8) := let x := scanG (fileS d snapN).1 0 [] 0; if x.1 = 1 then x.2.1 else []
def takesB (first many n : Nat) : Bool := decide (1 ≤ first) && (decide (first ≤ n + 1) && decide (n ≤ first + many - 1))
/-- what a log does with its file -/
def takeS (d : DS) (all : List (List UInt8)) : LS × Int :=
  let lg := fileS d logN
  if lg.2 ≠ 0 then (⟨d, all, false⟩, lg.2) else
  let x := scanG lg.1 0 [] 0
  let t := takesB x.1 x.2.1.length all.length
  let ps := if t = true then all ++ x.2.1.drop (all.length + 1 - x.1) else all
  let en := if t = true then x.2.2 else 0
  if lg.1.length ≤ en then (⟨d, ps, false⟩, 0) else
  let c := cutS d logN (en : Int)
  (⟨c.1, ps, c.2 == 20⟩, c.2)
/-- Open -/
def wOpenS (d : DS) : LS × Int :=
  let a := remS d nextN
  if thereE a.2 ≠ 0 then (⟨a.1, [], thereE a.2 == 20⟩, thereE a.2) else
  let sn := fileS a.1 snapN
  if sn.2 ≠ 0 then (⟨a.1, snapS a.1, sn.2 == 20⟩, sn.2) else
  takeS a.1 (snapS a.1)
end
section
set_option linter.unusedVariables false
set_option linter.unusedSimpArgs false
open Go.Maps Go.RowKit

/-- behind a call of the log -/
def AfterW (X' X : World) (base d lb : Nat) (O : Nat → Prop) (v : Value) (s' : LS) : Prop :=
  ∃ O' v' l', Wk X' base d lb s'.d O' v' l' s'.dn ∧ l'.map (·.m) = s'.ps ∧ Fr X X' (OwnW O lb v) (OwnW O' lb v')
theorem Wk.after {X X' : World} {base d lb : Nat} {s : DS} {O : Nat → Prop} {v : Value} {l : List SlA} {dn : Bool} (h : Wk X base d lb s O v l dn) (hb : Below X.heap.size X X') : AfterW X' X base d lb O v ⟨s, l.map (·.m), dn⟩ :=
  ⟨O, v, l, h.on hb, rfl, Fr.of _ hb⟩
/-- what acts need besides: blocks and bytes that are not the disk's -/
def Aux (ks : List (Nat × TypeId × Array Value)) (rs : List (Option Addr × List UInt8)) (X : World) (O : Nat → Prop) : Prop := (∀ x ∈ ks, Kc X O x.1 x.2.1 x.2.2) ∧ ∀ y ∈ rs, Kr X O y.1 y.2
theorem Aux.fr {ks : List (Nat × TypeId × Array Value)} {rs : List (Option Addr × List UInt8)} {X X' : World} {O O' : Nat → Prop} (h : Aux ks rs X O) (hf : Fr X X' O O') : Aux ks rs X' O' := ⟨fun x hx => (h.1 x hx).fr hf, fun y hy => (h.2 y hy).fr hf⟩
theorem Aux.on {ks : List (Nat × TypeId × Array Value)} {rs : List (Option Addr × List UInt8)} {X X' : World} {O : Nat → Prop} (h : Aux ks rs X O) (hb : Below X.heap.size X X') : Aux ks rs X' O := ⟨fun x hx => (h.1 x hx).on hb, fun y hy => (h.2 y hy).on hb⟩
structure Cx (w : World) (base d lb : Nat) (O0 : Nat → Prop) (v : Value) (l : List SlA) (ks : List (Nat × TypeId × Array Value)) (rs : List (Option Addr × List UInt8)) (dn : Bool) (X : World) (s : DS) : Prop where
  ex : ∃ O', Wk X base d lb s O' v l dn ∧ Fr w X (OwnW O0 lb v) (OwnW O' lb v) ∧ Aux ks rs X O'
section
variable {w : World} {base d lb : Nat} {O0 : Nat → Prop} {v : Value} {l : List SlA} {ks : List (Nat × TypeId × Array Value)} {rs : List (Option Addr × List UInt8)} {dn : Bool} {X : World} {s : DS}
theorem Cx.disk {X' : World} {s' : DS} (h : Cx w base d lb O0 v l ks rs dn X s) (ha : ∀ O, Dk X base d s O → Aux ks rs X O → After X' X base d O s') : Cx w base d lb O0 v l ks rs dn X' s' := by
  obtain ⟨O', hw, hf, hx⟩ := h.ex
  obtain ⟨O2, h1, h2, h3⟩ := hw.disk (ha O' hw.dk hx)
  exact ⟨⟨O2, h1, hf.trans h3, hx.fr h2⟩⟩
theorem Cx.act {f : FuncId} {args : Array Value} {s' : DS} {e : Int} (h : Cx w base d lb O0 v l ks rs dn X s) (ha : ∀ O, Dk X base d s O → base ≤ X.heap.size → Aux ks rs X O → Calls Tryd.prog f args X fun r X' => r = .returned (.int .i64 e) ∧ After X' X base d O s') :
    Calls Tryd.prog f args X fun r X' => ∃ e', r = .returned (.int .i64 e') ∧ (e' = e ∧ Cx w base d lb O0 v l ks rs dn X' s') := by
  obtain ⟨O', hw, hf, hx⟩ := h.ex
  refine (ha O' hw.dk (by have := hw.bk.bk.lt; have := hw.hlb; omega) hx).mono fun r X' ⟨hr, hA⟩ => ⟨e, hr, rfl, ?_⟩
  obtain ⟨O2, h1, h2, h3⟩ := hw.disk hA
  exact ⟨⟨O2, h1, hf.trans h3, hx.fr h2⟩⟩
theorem Cx.cell (h : Cx w base d lb O0 v l ks rs dn X s) (b : Nat) (T : TypeId) (cs : Array Value) (hm : (b, T, cs) ∈ ks) (i : Nat) (u : Value) (hu : cs.toList[i]? = some u) : X.cell? ⟨b, i, none⟩ = some u := by
  obtain ⟨O', _, _, hx⟩ := h.ex
  exact (hx.1 _ hm).bk.cell i u hu
theorem Cx.down (h : Cx w base d lb O0 v l ks rs dn X s) (b : Bool) : ∃ O', Wk (X.setCell ⟨lb, 2, none⟩ (.bool b)) base d lb s O' v l b ∧ Fr w (X.setCell ⟨lb, 2, none⟩ (.bool b)) (OwnW O0 lb v) (OwnW O' lb v) := by
  obtain ⟨O', hw, hf, _⟩ := h.ex
  exact ⟨O', hw.setDown b, hf.trans (hw.frDown 2 (.bool b))⟩
end

/-- acts one behind the other: all of them, or up to the first error -/
theorem do_chain (w : World) (base d lb : Nat) (O0 : Nat → Prop) (v : Value) (l : List SlA) (ks : List (Nat × TypeId × Array Value)) (rs : List (Option Addr × List UInt8)) (dn : Bool)
    (st : Nat → DS) (er : Nat → Int) (n c ab : Nat) (hn : n ≤ 1000) (T : TypeId) (acts : Array Value) (fn : Nat → FuncId) (bs fs : Nat → Array Value) (hm : (ab, T, acts) ∈ ks) (ha : ∀ i, i < n → acts.toList[i]? = some (.func (.func (fn i)) (bs i) (fs i)))
    (hcal : ∀ i, i < n → Cal Tryd.prog (fn i))
    (hc : ∀ i X, i < n → Cx w base d lb O0 v l ks rs dn X (st i) → Calls Tryd.prog (fn i) (bs i ++ fs i) X fun r X' => ∃ e', r = .returned (.int .i64 e') ∧ (e' = er i ∧ Cx w base d lb O0 v l ks rs dn X' (st (i + 1))))
    (X : World) (h0 : Cx w base d lb O0 v l ks rs dn X (st 0)) :
    Calls Tryd.prog 32 #[.pointer (some ⟨lb, 0, none⟩), .slice (some ⟨ab, 0, none⟩) n c] X fun r w' => ∃ e, r = .returned (.int .i64 e) ∧
      ((e = 0 ∧ (∀ j, j < n → er j = 0) ∧ Cx w base d lb O0 v l ks rs dn w' (st n)) ∨
       (e ≠ 0 ∧ ∃ i, i < n ∧ (∀ j, j < i → er j = 0) ∧ er i = e ∧ ∃ O', Wk w' base d lb (st (i + 1)) O' v l (dn || e == 20) ∧ Fr w w' (OwnW O0 lb v) (OwnW O' lb v))) := by
  refine do_any lb ab 0 c n hn fn bs fs 70 (fun i X => (∀ j, j < i → er j = 0) ∧ Cx w base d lb O0 v l ks rs dn X (st i))
    (fun e X => ∃ i, i < n ∧ (∀ j, j < i → er j = 0) ∧ er i = e ∧ ∃ O', Wk X base d lb (st (i + 1)) O' v l (dn || e == 20) ∧ Fr w X (OwnW O0 lb v) (OwnW O' lb v)) hcal ?_ ?_ X ⟨fun j hj => absurd hj (Nat.not_lt_zero _), h0⟩ |>.mono ?_
  · intro i Y hI hi
    rw [Nat.zero_add]
    exact hI.2.cell ab T acts hm i _ (ha i hi)
  · intro i Y hI hi
    refine (hc i Y hi hI.2).mono ?_
    rintro r Y' ⟨e, rfl, rfl, hC⟩
    refine ⟨er i, rfl, ?_⟩
    by_cases h : er i = 0
    · exact .inl ⟨h, fun j hj => by
        rcases Nat.lt_or_ge j i with h' | h'
        · exact hI.1 j h'
        · obtain rfl : j = i := by omega
          exact h, hC⟩
    · obtain ⟨O', hw, _, _⟩ := hC.ex
      exact .inr ⟨h, _, _, _, hw.bk.bk, i, hi, hI.1, rfl, hC.down _⟩
  · rintro r w' ⟨e, rfl, ⟨rfl, h1, h2⟩ | ⟨h1, h2⟩⟩
    · exact ⟨0, rfl, .inl ⟨rfl, h1, h2⟩⟩
    · exact ⟨e, rfl, .inr ⟨h1, h2⟩⟩
end
section
set_option linter.unusedVariables false
set_option linter.unusedSimpArgs false
open Go.Maps Go.RowKit

set_option maxRecDepth 100000 in
set_option maxHeartbeats 4000000 in
theorem wappend_no (base d lb : Nat) (s : DS) (O : Nat → Prop) (v : Value) (l : List SlA) (dn : Bool) (q : Option Addr) (n c : Nat) (w : World) (h : Wk w base d lb s O v l dn) (hl : l.length ≤ 1000000) (hz : dn = true ∨ (dn = false ∧ 8192 < n)) :
    Calls Tryd.prog 17 #[.pointer (some ⟨lb, 0, none⟩), .slice q n c] w fun r w' => r = .returned (.int .i64 (if dn then 20 else 2)) ∧ AfterW w' w base d lb O v ⟨s, l.map (·.m), dn⟩ := by
  have HW := Lib.hid h
  obtain ⟨p, dd, rfl, hd⟩ := h.pl.form
  have c1 := h.bk.bk.cell 1 (.slice p l.length dd) rfl
  have c2 := h.bk.bk.cell 2 (.bool dn) rfl
  have k6 : IntKind.i64.wrap ((l.length : Int) + 1) = (l.length : Int) + 1 := IntWalk.i64_in _ (by omega)
  have HL := Lib.hid (show (1 : Int) ≤ (l.length : Int) + 1 by omega)
  clear h hd
  rcases hz with rfl | ⟨rfl, hz⟩
  · go_enter Tryd.func17, Tryd.ntmps17
    go_wp2_with fail
    go_ret
    exact ⟨by rfl, HW.out.after (Below.refl _ _)⟩
  · have HZ := Lib.hid hz
    clear hz
    go_enter Tryd.func17, Tryd.ntmps17
    go_wp2_with (go_at_call 10; refine (record_long _ HL.out q n c HZ.out _).mono ?_; rintro r w1 ⟨rfl, hb⟩; have HA := Lib.hid (HW.out.after hb); clear hb c1 c2)
    go_ret
    exact ⟨by rfl, HA.out⟩
theorem cal_withB : Cal Tryd.prog 57 := cal_of Tryd.func57 (by kernel_rfl) (by kernel_rfl)
theorem cal_withS : Cal Tryd.prog 61 := cal_of Tryd.func61 (by kernel_rfl) (by kernel_rfl)
theorem cal_withI : Cal Tryd.prog 63 := cal_of Tryd.func63 (by kernel_rfl) (by kernel_rfl)
theorem cal_on : Cal Tryd.prog 53 := cal_of Tryd.func53 (by kernel_rfl) (by kernel_rfl)
theorem cal_ifThere : Cal Tryd.prog 52 := cal_of Tryd.func52 (by kernel_rfl) (by kernel_rfl)
theorem cal_append : Cal Tryd.prog 39 := cal_of Tryd.func39 (by kernel_rfl) (by kernel_rfl)
theorem cal_sync : Cal Tryd.prog 40 := cal_of Tryd.func40 (by kernel_rfl) (by kernel_rfl)
theorem cal_rename : Cal Tryd.prog 42 := cal_of Tryd.func42 (by kernel_rfl) (by kernel_rfl)
theorem cal_cut : Cal Tryd.prog 44 := cal_of Tryd.func44 (by kernel_rfl) (by kernel_rfl)
theorem cal_remove : Cal Tryd.prog 35 := cal_of Tryd.func35 (by kernel_rfl) (by kernel_rfl)
abbrev fnV (f : Nat) (d : Nat) : Value := .func (.func f) #[.pointer (some ⟨d, 0, none⟩)] #[]
abbrev ptrV (b : Nat) : Value := .pointer (some ⟨b, 0, none⟩)
section
variable {w : World} {base d lb : Nat} {O0 : Nat → Prop} {v : Value} {l : List SlA} {ks : List (Nat × TypeId × Array Value)} {rs : List (Option Addr × List UInt8)} {dn : Bool} {X : World} {s : DS}
/-- an act that appends -/
theorem Cx.append (h : Cx w base d lb O0 v l ks rs dn X s) (b0 b1 b2 T0 T1 T2 : Nat) (nm : ByteArray) (hs : nm.size ≤ maxLen) (q : Option Addr) (m : List UInt8) (n c : Nat) (hn : n = m.length) (hc : m.length ≤ c) (hz : n ≤ 1000000000000)
    (h0 : (b0, T0, #[fnV 39 d]) ∈ ks) (h1 : (b1, T1, #[.string nm]) ∈ ks) (h2 : (b2, T2, #[.slice q n c]) ∈ ks) (hr : (q, m) ∈ rs) :
    Calls Tryd.prog 57 #[ptrV b0, ptrV b1, ptrV b2] X fun r X' => ∃ e', r = .returned (.int .i64 e') ∧ (e' = (appS s nm.data.toList m).2 ∧ Cx w base d lb O0 v l ks rs dn X' (appS s nm.data.toList m).1) :=
  withB_any b0 b1 b2 39 #[ptrV d] #[] nm q n c X cal_append (h.cell b0 T0 _ h0 0 _ rfl) (h.cell b1 T1 _ h1 0 _ rfl) (h.cell b2 T2 _ h2 0 _ rfl)
    (fun _ X' e' => e' = (appS s nm.data.toList m).2 ∧ Cx w base d lb O0 v l ks rs dn X' (appS s nm.data.toList m).1)
    (h.act fun O hD hb hx => append_any base d s O nm hs q m n c hn hc hz X hD hb (hx.2 _ hr).rd (fun a ha => (hx.2 _ hr).no.imp id (fun h => h a ha)))
theorem Cx.sync (h : Cx w base d lb O0 v l ks rs dn X s) (b0 b1 T0 T1 : Nat) (nm : ByteArray) (hs : nm.size ≤ maxLen)
    (h0 : (b0, T0, #[fnV 40 d]) ∈ ks) (h1 : (b1, T1, #[.string nm]) ∈ ks) :
    Calls Tryd.prog 53 #[ptrV b0, ptrV b1] X fun r X' => ∃ e', r = .returned (.int .i64 e') ∧ (e' = (syncS s nm.data.toList).2 ∧ Cx w base d lb O0 v l ks rs dn X' (syncS s nm.data.toList).1) :=
  on1_any b0 b1 40 #[ptrV d] #[] nm X cal_sync (h.cell b0 T0 _ h0 0 _ rfl) (h.cell b1 T1 _ h1 0 _ rfl)
    (fun _ X' e' => e' = (syncS s nm.data.toList).2 ∧ Cx w base d lb O0 v l ks rs dn X' (syncS s nm.data.toList).1)
    (h.act fun O hD hb hx => sync_any base d s O nm hs X hD)
theorem Cx.remove (h : Cx w base d lb O0 v l ks rs dn X s) (b0 b1 T0 T1 : Nat) (nm : ByteArray) (hs : nm.size ≤ maxLen)
    (h0 : (b0, T0, #[fnV 35 d]) ∈ ks) (h1 : (b1, T1, #[.string nm]) ∈ ks) :
    Calls Tryd.prog 53 #[ptrV b0, ptrV b1] X fun r X' => ∃ e', r = .returned (.int .i64 e') ∧ (e' = (remS s nm.data.toList).2 ∧ Cx w base d lb O0 v l ks rs dn X' (remS s nm.data.toList).1) :=
  on1_any b0 b1 35 #[ptrV d] #[] nm X cal_remove (h.cell b0 T0 _ h0 0 _ rfl) (h.cell b1 T1 _ h1 0 _ rfl)
    (fun _ X' e' => e' = (remS s nm.data.toList).2 ∧ Cx w base d lb O0 v l ks rs dn X' (remS s nm.data.toList).1)
    (h.act fun O hD hb hx => remove_any base d s O nm hs X hD)
theorem Cx.rename (h : Cx w base d lb O0 v l ks rs dn X s) (b0 b1 b2 T0 T1 T2 : Nat) (nm tn : ByteArray) (hs : nm.size ≤ maxLen) (hs2 : tn.size ≤ maxLen)
    (h0 : (b0, T0, #[fnV 42 d]) ∈ ks) (h1 : (b1, T1, #[.string nm]) ∈ ks) (h2 : (b2, T2, #[.string tn]) ∈ ks) :
    Calls Tryd.prog 61 #[ptrV b0, ptrV b1, ptrV b2] X fun r X' => ∃ e', r = .returned (.int .i64 e') ∧ (e' = (renS s nm.data.toList tn.data.toList).2 ∧ Cx w base d lb O0 v l ks rs dn X' (renS s nm.data.toList tn.data.toList).1) :=
  withS_any b0 b1 b2 42 #[ptrV d] #[] nm tn X cal_rename (h.cell b0 T0 _ h0 0 _ rfl) (h.cell b1 T1 _ h1 0 _ rfl) (h.cell b2 T2 _ h2 0 _ rfl)
    (fun _ X' e' => e' = (renS s nm.data.toList tn.data.toList).2 ∧ Cx w base d lb O0 v l ks rs dn X' (renS s nm.data.toList tn.data.toList).1)
    (h.act fun O hD hb hx => rename_any base d s O nm tn hs hs2 X hD)
theorem Cx.cut (h : Cx w base d lb O0 v l ks rs dn X s) (b0 b1 b2 T0 T1 T2 : Nat) (nm : ByteArray) (hs : nm.size ≤ maxLen) (k : Int)
    (h0 : (b0, T0, #[fnV 44 d]) ∈ ks) (h1 : (b1, T1, #[.string nm]) ∈ ks) (h2 : (b2, T2, #[.int .i64 k]) ∈ ks) :
    Calls Tryd.prog 63 #[ptrV b0, ptrV b1, ptrV b2] X fun r X' => ∃ e', r = .returned (.int .i64 e') ∧ (e' = (cutS s nm.data.toList k).2 ∧ Cx w base d lb O0 v l ks rs dn X' (cutS s nm.data.toList k).1) :=
  withI_any b0 b1 b2 44 #[ptrV d] #[] nm k X cal_cut (h.cell b0 T0 _ h0 0 _ rfl) (h.cell b1 T1 _ h1 0 _ rfl) (h.cell b2 T2 _ h2 0 _ rfl)
    (fun _ X' e' => e' = (cutS s nm.data.toList k).2 ∧ Cx w base d lb O0 v l ks rs dn X' (cutS s nm.data.toList k).1)
    (h.act fun O hD hb hx => cut_any base d s O nm hs k X hD)
end
end
section
set_option linter.unusedVariables false
set_option linter.unusedSimpArgs false
open Go.Maps Go.RowKit

/-- what Append's acts leave -/
def AppD (base d lb : Nat) (s : DS) (O : Nat → Prop) (v : Value) (l : List SlA) (w : World) (nm : ByteArray) (m : List UInt8) (e : Int) (w' : World) : Prop :=
      ((e = 0 ∧ (appS s nm.data.toList m).2 = 0 ∧ (syncS (appS s nm.data.toList m).1 nm.data.toList).2 = 0 ∧ ∃ O', Wk w' base d lb (syncS (appS s nm.data.toList m).1 nm.data.toList).1 O' v l false ∧ Fr w w' (OwnW O lb v) (OwnW O' lb v)) ∨
       (e ≠ 0 ∧ (appS s nm.data.toList m).2 = e ∧ ∃ O', Wk w' base d lb (appS s nm.data.toList m).1 O' v l (e == 20) ∧ Fr w w' (OwnW O lb v) (OwnW O' lb v)) ∨
       (e ≠ 0 ∧ (appS s nm.data.toList m).2 = 0 ∧ (syncS (appS s nm.data.toList m).1 nm.data.toList).2 = e ∧ ∃ O', Wk w' base d lb (syncS (appS s nm.data.toList m).1 nm.data.toList).1 O' v l (e == 20) ∧ Fr w w' (OwnW O lb v) (OwnW O' lb v)))
/-- the acts of Append -/
theorem append_do (base d lb : Nat) (s : DS) (O : Nat → Prop) (v : Value) (l : List SlA) (w : World) (hw : Wk w base d lb s O v l false) (nm : ByteArray) (hs : nm.size ≤ maxLen) (q : Option Addr) (m : List UInt8) (n c : Nat) (hn : n = m.length) (hc : m.length ≤ c) (hz : n ≤ 1000000000000)
    (X : World) (hX : Below w.heap.size w X) (b0 b1 b2 c0 c1 T0 T1 T2 S0 S1 ab ca T : Nat) (lo : w.heap.size ≤ b0 ∧ w.heap.size ≤ b1 ∧ w.heap.size ≤ b2 ∧ w.heap.size ≤ c0 ∧ w.heap.size ≤ c1 ∧ w.heap.size ≤ ab)
    (k0 : Bk X b0 T0 #[fnV 39 d]) (k1 : Bk X b1 T1 #[.string nm]) (k2 : Bk X b2 T2 #[.slice q n c]) (k3 : Bk X c0 S0 #[fnV 40 d]) (k4 : Bk X c1 S1 #[.string nm])
    (k5 : Bk X ab T #[.func (.func 57) #[] #[ptrV b0, ptrV b1, ptrV b2], .func (.func 53) #[] #[ptrV c0, ptrV c1]]) (hr : Rd0 X q m) (hq : m = [] ∨ ∀ a, q = some a → w.heap.size ≤ a.block) :
    Calls Tryd.prog 32 #[.pointer (some ⟨lb, 0, none⟩), .slice (some ⟨ab, 0, none⟩) 2 ca] X fun r w' => ∃ e, r = .returned (.int .i64 e) ∧ AppD base d lb s O v l w nm m e w' := by
  have hno : ∀ b, w.heap.size ≤ b → ¬ O b := fun b hb e => by have := (hw.dk.lt b e).1; omega
  have hC : Cx w base d lb O v l [(b0, T0, #[fnV 39 d]), (b1, T1, #[.string nm]), (b2, T2, #[.slice q n c]), (c0, S0, #[fnV 40 d]), (c1, S1, #[.string nm]), (ab, T, #[.func (.func 57) #[] #[ptrV b0, ptrV b1, ptrV b2], .func (.func 53) #[] #[ptrV c0, ptrV c1]])] [(q, m)] false X s := by
    refine ⟨⟨O, hw.on hX, Fr.of _ hX, ?_, ?_⟩⟩
    · intro x hx
      simp only [List.mem_cons, List.not_mem_nil, or_false] at hx
      rcases hx with rfl | rfl | rfl | rfl | rfl | rfl
      · exact ⟨k0, hno _ lo.1⟩
      · exact ⟨k1, hno _ lo.2.1⟩
      · exact ⟨k2, hno _ lo.2.2.1⟩
      · exact ⟨k3, hno _ lo.2.2.2.1⟩
      · exact ⟨k4, hno _ lo.2.2.2.2.1⟩
      · exact ⟨k5, hno _ lo.2.2.2.2.2⟩
    · intro y hy
      obtain rfl : y = (q, m) := by simpa using hy
      exact ⟨hr, hq.imp id (fun h a ha => hno _ (h a ha))⟩
  refine (do_chain w base d lb O v l _ _ false (fun i => match i with | 0 => s | 1 => (appS s nm.data.toList m).1 | _ => (syncS (appS s nm.data.toList m).1 nm.data.toList).1)
    (fun i => match i with | 0 => (appS s nm.data.toList m).2 | _ => (syncS (appS s nm.data.toList m).1 nm.data.toList).2) 2 ca ab (by omega) T #[.func (.func 57) #[] #[ptrV b0, ptrV b1, ptrV b2], .func (.func 53) #[] #[ptrV c0, ptrV c1]]
    (fun i => match i with | 0 => 57 | _ => 53) (fun _ => #[]) (fun i => match i with | 0 => #[ptrV b0, ptrV b1, ptrV b2] | _ => #[ptrV c0, ptrV c1]) (by simp) ?_ ?_ ?_ X hC).mono ?_
  · intro i hi
    match i, hi with
    | 0, _ => rfl
    | 1, _ => rfl
  · intro i hi
    match i, hi with
    | 0, _ => exact cal_withB
    | 1, _ => exact cal_on
  · intro i Y hi hY
    match i, hi with
    | 0, _ => exact hY.append b0 b1 b2 T0 T1 T2 nm hs q m n c hn hc hz (by simp) (by simp) (by simp) (by simp)
    | 1, _ => exact hY.sync c0 c1 S0 S1 nm hs (by simp) (by simp)
  · rintro r w' ⟨e, rfl, ⟨rfl, h1, h2⟩ | ⟨h1, i, hi, h2, h3, O', h4, h5⟩⟩
    · obtain ⟨O', h4, h5, _⟩ := h2.ex
      exact ⟨0, rfl, .inl ⟨rfl, h1 0 (by omega), h1 1 (by omega), O', h4, h5⟩⟩
    · rw [Bool.false_or] at h4
      match i, hi with
      | 0, _ => exact ⟨e, rfl, .inr (.inl ⟨h1, h3, O', h4, h5⟩)⟩
      | 1, _ => exact ⟨e, rfl, .inr (.inr ⟨h1, h2 0 (by omega), h3, O', h4, h5⟩)⟩
end
section
set_option linter.unusedVariables false
set_option linter.unusedSimpArgs false
open Go.Maps Go.RowKit

set_option maxRecDepth 100000 in
/-- a copy, or nil of nil: of any slice -/
theorem cloneX (q : Option Addr) (n c : Nat) (m : List UInt8) (hn : n = m.length) (w : World) (hR : Rd0 w q m) (hz : m.length ≤ 1000000000) :
    Calls Tryd.prog 30 #[.slice q n c] w fun e w' => ∃ v', e = .returned v' ∧ Acc w' w.heap.size v' m ∧ Below w.heap.size w w' := by
  cases q with
  | none => exact cloneD none n c m hn w hR hz (.inl rfl)
  | some a =>
    subst hn
    have HR := Lib.hid hR
    clear hR
    have hcmp : ∀ wx : World, (binOp .eql 22 (.slice (some a) m.length c) (.slice none 0 0)).run Tryd.prog wx = .ok (.bool false) wx := fun wx => by
      simp only [binOp]
      simp [run_equal_slice_nil wx 22 5 _ _ _ Tryd.underlying22]
    go_enter Tryd.func30, Tryd.ntmps30
    go_wp2_with (refine wpList_app8 rfl _ _ rfl rfl w.heap.size _ [] rfl (acc_made (w := w) (Nat.le_refl _)) _ m _ _ rfl rfl (HR.out.on (below1 _ _)) (by simp; omega) (by simp) ?_; intro v2 w2 hA hb; rw [List.nil_append] at hA; have HA := Lib.hid hA; have HB := Lib.hid ((below1 w (.cells #[] 5)).trans hb); clear hA hb)
    go_ret
    exact ⟨_, rfl, HA.out, HB.out⟩
theorem step_plG {w : World} {ops : Array Oper} {o : Oper} {a : Act} {K : Act → World → Prop} {Q : Exit → Act → World → Prop} {R : Prop} (hgd : o.guard = none) (s x : Operand)
    (ho : o.op = .call { callee := .builtin .append, args := #[s, x], argTypes := #[30, 30] })
    (base : Nat) (v : Value) (l : List SlA) (hs : a.eval s = v) (hP : Pl w base v l) (y : SlA) (ab : Nat) (n c : Nat) (hx : a.eval x = .slice (some ⟨ab, 0, none⟩) n c) (hn : n = 1) (hy0 : w.cell? ⟨ab, 0, none⟩ = some (.slice y.q y.m.length y.c))
    (hy : Rd0 w y.q y.m) (hyc : y.m.length ≤ y.c) (hne : ∀ g, v.ownBlock = some g → y.m = [] ∨ ∀ b, y.q = some b → b.block ≠ g) (hl : l.length ≤ 1000000) (hbase : base ≤ w.heap.size)
    (h : ∀ p' c' w', Pl w' base (.slice p' (l.length + 1) c') (l ++ [y]) → w.grownBy w' v.ownBlock → (∀ g, (Value.slice p' (l.length + 1) c').ownBlock = some g → v.ownBlock = some g ∨ w.heap.size ≤ g) → K (a.put o.dst (.slice p' (l.length + 1) c')) w') : if Region.wanted o (yielded ops a.tmps) = true then Oper.wp Tryd.prog o a w K Q else R := by
  subst hn
  obtain ⟨i, hi, hz0, hz1, hz2⟩ := info_parts infoSl
  have ho0 := hP.own
  obtain ⟨g, cap, w', hr, how, hg, hat, hlt⟩ := run_append_lies (P := Tryd.prog) (w := w) 30 o.type base 22 i _ 1 24 Tryd.underlying30 hi hz0 hz1 hz2 rfl (by decide) v l.length (flatE encS l) hP.own ⟨ab, 0, none⟩ 1 c [.slice y.q y.m.length y.c] rfl
    (fun j u hu => by
      obtain rfl : j = 0 := by have := (List.getElem?_eq_some_iff.1 hu).1; simpa using this
      cases hu
      rw [Addr.add_mid]; exact hy0)
    (by intro u hu; simp at hu; subst hu; rfl) (by decide) (by unfold maxLen; omega) (by omega) hbase w.heap.size rfl
  have hfl : flatE encS (l ++ [y]) = flatE encS l ++ [.slice y.q y.m.length y.c] := by simp [flatE, encS]
  have hmem : ∀ x ∈ l ++ [y], (Rd0 w x.q x.m ∧ x.m.length ≤ x.c) ∧ ∀ g, v.ownBlock = some g → x.m = [] ∨ ∀ b, x.q = some b → b.block ≠ g := by
    intro x hx
    rcases List.mem_append.1 hx with hx | hx
    · exact ⟨hP.ok x hx, hP.far x hx⟩
    · obtain rfl : x = y := by simpa using hx
      exact ⟨⟨hy, hyc⟩, hne⟩
  have hPl : Pl w' base (.slice (some ⟨g, 0, none⟩) (l.length + 1) cap) (l ++ [y]) := by
    refine ⟨⟨_, cap, by rw [List.length_append]; rfl, ?_⟩, by rw [List.length_append, hfl]; exact how, fun x hx => ⟨(hmem x hx).1.1.grown hg (hmem x hx).2, (hmem x hx).1.2⟩, fun x hx g' hg' => ?_⟩
    · rcases how.2 with ⟨h, _⟩ | ⟨_, _, _, h1, _, _, h2, _⟩
      · cases h
      · cases h1; rw [List.length_append]; exact h2
    · obtain rfl : g = g' := by simpa [Value.ownBlock] using hg'
      rcases hat with hat | hat
      · exact (hmem x hx).2 g hat
      · rcases (hmem x hx).1.1 with h0 | ⟨b, off, h1, h2, _⟩
        · exact .inl h0
        · refine .inr fun b' hb' => ?_
          rw [h1] at hb'; cases hb'
          show b ≠ g
          omega
  have hw : Region.wanted o (yielded ops a.tmps) = true := by simp [Region.wanted, hgd]
  rw [if_pos hw]
  unfold Oper.wp execOp
  simp only [ho, resolve, invoke, builtin, Sem.run_bind, Sem.run_pure, Result.andThen_ok, List.map_toArray, List.map_cons, List.map_nil, hs, hx, hr]
  exact h _ _ _ hPl hg (fun g' hg' => by
    obtain rfl : g = g' := by simpa [Value.ownBlock] using hg'
    rcases hat with hat | hat
    · exact .inl hat
    · exact .inr (by omega))
section
variable {X X' : World} {base d lb : Nat} {s : DS} {O : Nat → Prop} {v v' : Value} {l l' : List SlA} {dn dn' : Bool}
theorem Wk.grown (h : Wk X base d lb s O v l dn) (hg : X.grownBy X' v.ownBlock) : Dk X' base d s O ∧ Kc X' O lb 70 (logCells d v dn) := by
  have hb : ∀ b, b < X.heap.size → v.ownBlock ≠ some b → X'.heap[b]? = X.heap[b]? := fun b hb hn => hg.block b hb (fun e => hn e.symm)
  refine ⟨h.dk.kept fun b ho => hb b (h.dk.lt b ho).1 (fun e => (h.nv b e).1 ho), (hb lb h.bk.bk.lt (fun e => (h.nv lb e).2 rfl)).trans h.bk.bk, h.bk.no⟩
theorem Wk.make (hD : Dk X base d s O) (hK : Kc X O lb 70 (logCells d v dn)) (hlb : base ≤ lb) (o : Nat) (u : Value) (hc : (logCells d v dn).setIfInBounds o u = logCells d v' dn')
    (hp : Pl X base v' l') (hv : ∀ g, v'.ownBlock = some g → ¬ O g ∧ g ≠ lb) (hx : ∀ x ∈ l', x.m = [] ∨ ∀ a, x.q = some a → ¬ O a.block ∧ a.block ≠ lb) : Wk (X.setCell ⟨lb, o, none⟩ u) base d lb s O v' l' dn' := by
  refine ⟨hD.kept fun b hb => Below.heap_setCell X ⟨lb, o, none⟩ u _ (fun e => hK.no (by have e' : b = lb := e; rw [← e']; exact hb)), ⟨?_, hK.no⟩, ?_, hlb, hv, hx⟩
  · have := hK.bk.set o u
    rw [hc] at this
    exact this
  · refine ⟨hp.form, ownsRow_kept hp.own (fun b hb => Below.heap_setCell X ⟨lb, o, none⟩ u _ (hv b hb).2), fun x hx' => ⟨(hp.ok x hx').1.set lb o u ((hx x hx').imp id (fun h a ha => (h a ha).2)), (hp.ok x hx').2⟩, hp.far⟩
/-- payloads put into the log -/
theorem Wk.payed (h : Wk X base d lb s O v l dn) (hg : X.grownBy X' v.ownBlock) (hp : Pl X' base v' l') (hv : ∀ g, v'.ownBlock = some g → v.ownBlock = some g ∨ X.heap.size ≤ g) (hx : ∀ x ∈ l', x ∈ l ∨ (x.m = [] ∨ ∀ a, x.q = some a → ¬ O a.block ∧ a.block ≠ lb)) :
    Wk (X'.setCell ⟨lb, 1, none⟩ v') base d lb s O v' l' dn ∧ Fr X (X'.setCell ⟨lb, 1, none⟩ v') (OwnW O lb v) (OwnW O lb v') := by
  obtain ⟨hD, hK⟩ := h.grown hg
  have hv' : ∀ g, v'.ownBlock = some g → ¬ O g ∧ g ≠ lb := fun g e => (hv g e).elim (h.nv g) (fun e2 => ⟨fun ho => by have := (h.dk.lt g ho).1; omega, fun e3 => by have := h.bk.bk.lt; omega⟩)
  refine ⟨Wk.make hD hK h.hlb 1 v' rfl hp hv' (fun x hx' => (hx x hx').elim (h.nx x) id), ?_⟩
  have h1 : Fr X X' (OwnW O lb v) (OwnW O lb v) := Fr.grown hg (fun b hb => .inr (.inr hb))
  refine (h1.trans (Fr.set X' lb (.inr (.inl rfl)) 1 v')).sub fun b hb => ?_
  rcases hb with hb | hb | hb
  · exact .inl (.inl hb)
  · exact .inl (.inr (.inl hb))
  · exact (hv b hb).imp (fun e => .inr (.inr e)) id
end
end
end Go.Proofs.YtooiaadnhglifaaDoor
