/-
  What the laws' examples say; a disk that a law carries along.
-/
import Derived.Test.YtfkmakkofeedpaaDcr
import Derived.Test.YtfkmakkofeedpaaGeD
set_option linter.unusedVariables false
set_option linter.unusedSimpArgs false
namespace Go.Proofs.Ytfkmakkofeedpaa
open Go.Maps Go.RowKit

theorem dfixed_true : Ge.saysTrue ((Ge.lev Try.prog (Ge.drawF Try.prog) 30).call 10 [] ⟨.leaf, 0⟩) = true := by kernel_rfl
theorem dfixed_any (w : World) : Calls Try.prog 10 #[] w fun e w' => e = .returned (.bool true) ∧ Below w.heap.size w w' := Ge.ground dfixed_true w

/-- the law's disk -/
structure Sd (X w : World) (s : DS) : Prop where
  dk : ∃ O, Dk X w.heap.size (w.heap.size + 1) s O
  bel : Below w.heap.size w X
theorem Sd.on {X X' w : World} {s : DS} (h : Sd X w s) (hb : Below X.heap.size X X') : Sd X' w s := by
  obtain ⟨O, hD⟩ := h.dk
  exact ⟨⟨O, hD.on_ hb⟩, h.bel.trans (hb.mono h.bel.size)⟩
theorem Sd.go {X X' w : World} {s s' : DS} {O : Nat → Prop} (h : Sd X w s) (hD : Dk X w.heap.size (w.heap.size + 1) s O) (ha : After X' X w.heap.size (w.heap.size + 1) O s') : Sd X' w s' := by
  obtain ⟨O', h1, h2⟩ := ha
  exact ⟨⟨O', h1⟩, h.bel.trans (h2.below (fun b hb => (hD.lt b hb).2) h.bel.size)⟩
theorem sd_new (w : World) : Calls Try.prog 9 #[] w fun r w' => r = .returned (.pointer (some ⟨w.heap.size + 1, 0, none⟩)) ∧ Sd w' w newS :=
  (new_disk w).mono fun r w' ⟨h1, h2, h3⟩ => ⟨h1, h2, h3⟩
theorem sd_append {X w : World} {s : DS} (h : Sd X w s) (nm : ByteArray) (hs : nm.size ≤ maxLen) (q : Option Addr) (m : List UInt8) (n c : Nat) (hn : n = m.length) (hc : m.length ≤ c) (hz : n ≤ 1000000000000) (hR : Rd0 X q m) (hq : m = [] ∨ ∀ b, q = some b → b.block < w.heap.size) :
    Calls Try.prog 12 #[.pointer (some ⟨w.heap.size + 1, 0, none⟩), .string nm, .slice q n c] X fun r w' => r = .returned (.int .i64 (appS s nm.data.toList m).2) ∧ Sd w' w (appS s nm.data.toList m).1 := by
  obtain ⟨O, hD⟩ := h.dk
  refine (append_any w.heap.size (w.heap.size + 1) s O nm hs q m n c hn hc hz X hD h.bel.size hR (fun a ha => ?_)).mono fun r w' ⟨h1, h2⟩ => ⟨h1, h.go hD h2⟩
  rcases hq with hq | hq
  · exact .inl hq
  · exact .inr fun ho => by have := hq a ha; have := (hD.lt _ ho).2; omega
theorem sd_sync {X w : World} {s : DS} (h : Sd X w s) (nm : ByteArray) (hs : nm.size ≤ maxLen) :
    Calls Try.prog 14 #[.pointer (some ⟨w.heap.size + 1, 0, none⟩), .string nm] X fun r w' => r = .returned (.int .i64 (syncS s nm.data.toList).2) ∧ Sd w' w (syncS s nm.data.toList).1 := by
  obtain ⟨O, hD⟩ := h.dk
  exact (sync_any w.heap.size (w.heap.size + 1) s O nm hs X hD).mono fun r w' ⟨h1, h2⟩ => ⟨h1, h.go hD h2⟩
theorem sd_rename {X w : World} {s : DS} (h : Sd X w s) (nm tn : ByteArray) (hs : nm.size ≤ maxLen) (hs2 : tn.size ≤ maxLen) :
    Calls Try.prog 16 #[.pointer (some ⟨w.heap.size + 1, 0, none⟩), .string nm, .string tn] X fun r w' => r = .returned (.int .i64 (renS s nm.data.toList tn.data.toList).2) ∧ Sd w' w (renS s nm.data.toList tn.data.toList).1 := by
  obtain ⟨O, hD⟩ := h.dk
  exact (rename_any w.heap.size (w.heap.size + 1) s O nm tn hs hs2 X hD).mono fun r w' ⟨h1, h2⟩ => ⟨h1, h.go hD h2⟩
theorem sd_remove {X w : World} {s : DS} (h : Sd X w s) (nm : ByteArray) (hs : nm.size ≤ maxLen) :
    Calls Try.prog 20 #[.pointer (some ⟨w.heap.size + 1, 0, none⟩), .string nm] X fun r w' => r = .returned (.int .i64 (remS s nm.data.toList).2) ∧ Sd w' w (remS s nm.data.toList).1 := by
  obtain ⟨O, hD⟩ := h.dk
  exact (remove_any w.heap.size (w.heap.size + 1) s O nm hs X hD).mono fun r w' ⟨h1, h2⟩ => ⟨h1, h.go hD h2⟩
theorem sd_cut {X w : World} {s : DS} (h : Sd X w s) (nm : ByteArray) (hs : nm.size ≤ maxLen) (n : Int) :
    Calls Try.prog 18 #[.pointer (some ⟨w.heap.size + 1, 0, none⟩), .string nm, .int .i64 n] X fun r w' => r = .returned (.int .i64 (cutS s nm.data.toList n).2) ∧ Sd w' w (cutS s nm.data.toList n).1 := by
  obtain ⟨O, hD⟩ := h.dk
  exact (cut_any w.heap.size (w.heap.size + 1) s O nm hs n X hD).mono fun r w' ⟨h1, h2⟩ => ⟨h1, h.go hD h2⟩
theorem sd_crash {X w : World} {s : DS} (h : Sd X w s) (keep : Int) (hk : keep ≤ 9223372036854775807) :
    Calls Try.prog 26 #[.pointer (some ⟨w.heap.size + 1, 0, none⟩), .int .i64 keep] X fun r w' => r = .returned (.tuple #[]) ∧ Sd w' w (crashS s keep) := by
  obtain ⟨O, hD⟩ := h.dk
  exact (crash_any w.heap.size (w.heap.size + 1) s O keep hk X hD).mono fun r w' ⟨h1, h2⟩ => ⟨h1, h.go hD h2⟩
theorem sd_fuse {X w : World} {s : DS} (h : Sd X w s) (n : Int) (hn : n ≤ 9223372036854775807) :
    Calls Try.prog 24 #[.pointer (some ⟨w.heap.size + 1, 0, none⟩), .int .i64 n] X fun r w' => r = .returned (.tuple #[]) ∧ Sd w' w (fuseS s n) := by
  obtain ⟨O, mb, l, hD, hfs, rfl⟩ := h.dk
  obtain ⟨fs, on, left⟩ := s
  simp only at hD hfs
  subst hfs
  refine (fuse_any w.heap.size (w.heap.size + 1) mb l on left n hn X hD).mono fun r w' ⟨h1, h2, h3⟩ => ⟨h1, ⟨⟨_, mb, l, ?_, ?_, rfl⟩, h.bel.trans ((Only.fr h3 (O := OwnD (w.heap.size + 1) mb l) (.inl rfl)).below (fun b hb => (hD.lt b hb).2) h.bel.size)⟩⟩
  · cases on <;> exact h2
  · cases on <;> rfl
theorem sd_read {X w : World} {s : DS} (h : Sd X w s) (nm : ByteArray) (hs : nm.size ≤ maxLen) :
    Calls Try.prog 22 #[.pointer (some ⟨w.heap.size + 1, 0, none⟩), .string nm] X fun r w' => ∃ q c, r = .returned (.tuple #[.slice q (readS s nm.data.toList).1.length c, .int .i64 (readS s nm.data.toList).2]) ∧ Rd0 w' q (readS s nm.data.toList).1 ∧ Sd w' w s := by
  obtain ⟨O, hD⟩ := h.dk
  refine (read_any w.heap.size (w.heap.size + 1) s O nm hs X hD).mono fun r w' ⟨v, h1, h2, h3⟩ => ?_
  obtain ⟨q, c, rfl, _, hr⟩ := h2.rd
  exact ⟨q, c, h1, hr, h.on h3⟩
theorem sd_on {X w : World} {s : DS} (h : Sd X w s) : Calls Try.prog 29 #[.pointer (some ⟨w.heap.size + 1, 0, none⟩)] X fun r w' => r = .returned (.bool s.on) ∧ X = w' := by
  obtain ⟨O, mb, l, hD, hfs, rfl⟩ := h.dk
  exact on_any w.heap.size (w.heap.size + 1) mb l s.on s.left X hD
theorem sd_left {X w : World} {s : DS} (h : Sd X w s) : Calls Try.prog 30 #[.pointer (some ⟨w.heap.size + 1, 0, none⟩)] X fun r w' => r = .returned (.int .i64 (if s.on then s.left else 0)) ∧ X = w' := by
  obtain ⟨O, mb, l, hD, hfs, rfl⟩ := h.dk
  exact left_any w.heap.size (w.heap.size + 1) mb l s.on s.left X hD
set_option maxRecDepth 100000 in
theorem files_off {X w : World} {s : DS} (h : Sd X w s) (ho : s.on = false) : Calls Try.prog 31 #[.pointer (some ⟨w.heap.size + 1, 0, none⟩)] X fun r w' => r = .returned (.slice none 0 0) ∧ X = w' := by
  have HO := Lib.hid (sd_on h)
  rw [ho] at HO
  clear h ho
  go_enter Try.func31, Try.ntmps31
  go_wp2_with (go_at_call 29; refine HO.out.mono ?_; rintro r w1 ⟨rfl, rfl⟩)
  go_ret
  exact ⟨rfl, rfl⟩
theorem acc_off {w : World} {base n d : Nat} {p : Option Addr} {xs : List UInt8} (h : Acc w base (.slice p n d) xs) : xs = [] ∨ ∀ b, p = some b → base ≤ b.block := by
  by_cases h0 : xs = []
  · exact .inl h0
  · refine .inr fun b hb => ?_
    rcases h.2 with ⟨h1, _⟩ | ho
    · exact absurd h1 h0
    · exact (ho.lt b.block (by rw [hb]; rfl)).1
/-- the law's disk, and bytes that are none of its -/
structure Sf (X w : World) (s : DS) (q : Option Addr) (m : List UInt8) : Prop where
  dk : ∃ O, Dk X w.heap.size (w.heap.size + 1) s O ∧ (m = [] ∨ ∀ b, q = some b → ¬ O b.block)
  rd : Rd0 X q m
  bel : Below w.heap.size w X
theorem Sf.sd {X w : World} {s : DS} {q : Option Addr} {m : List UInt8} (h : Sf X w s q m) : Sd X w s := by
  obtain ⟨O, hD, _⟩ := h.dk
  exact ⟨⟨O, hD⟩, h.bel⟩
theorem Sf.on {X X' w : World} {s : DS} {q : Option Addr} {m : List UInt8} (h : Sf X w s q m) (hb : Below X.heap.size X X') : Sf X' w s q m := by
  obtain ⟨O, hD, hq⟩ := h.dk
  exact ⟨⟨O, hD.on_ hb, hq⟩, h.rd.on hb, h.bel.trans (hb.mono h.bel.size)⟩
theorem sf_read {X w : World} {s : DS} (h : Sd X w s) (nm : ByteArray) (hs : nm.size ≤ maxLen) :
    Calls Try.prog 22 #[.pointer (some ⟨w.heap.size + 1, 0, none⟩), .string nm] X fun r w' => ∃ q c, r = .returned (.tuple #[.slice q (readS s nm.data.toList).1.length c, .int .i64 (readS s nm.data.toList).2]) ∧ Sf w' w s q (readS s nm.data.toList).1 ∧ Below X.heap.size X w' := by
  obtain ⟨O, hD⟩ := h.dk
  refine (read_any w.heap.size (w.heap.size + 1) s O nm hs X hD).mono fun r w' ⟨v, h1, h2, h3⟩ => ?_
  obtain ⟨q, c, rfl, _, hr⟩ := h2.rd
  refine ⟨q, c, h1, ⟨⟨O, hD.on_ h3, ?_⟩, hr, h.bel.trans (h3.mono h.bel.size)⟩, h3⟩
  rcases acc_off h2 with h0 | h0
  · exact .inl h0
  · exact .inr fun b hb ho => by have := h0 b hb; have := (hD.lt _ ho).1; omega
theorem sf_crash {X w : World} {s : DS} {q : Option Addr} {m : List UInt8} (h : Sf X w s q m) (keep : Int) (hk : keep ≤ 9223372036854775807) :
    Calls Try.prog 26 #[.pointer (some ⟨w.heap.size + 1, 0, none⟩), .int .i64 keep] X fun r w' => r = .returned (.tuple #[]) ∧ Sd w' w (crashS s keep) ∧ Rd0 w' q m := by
  obtain ⟨O, hD, hq⟩ := h.dk
  refine (crash_any w.heap.size (w.heap.size + 1) s O keep hk X hD).mono fun r w' ⟨h1, h2⟩ => ⟨h1, h.sd.go hD h2, ?_⟩
  obtain ⟨O', _, hf⟩ := h2
  refine h.rd.fr (O := O) (fun a ha => ?_) hf
  rcases hq with hq | hq
  · exact .inl hq
  · exact .inr (hq a ha)
end Go.Proofs.Ytfkmakkofeedpaa
