/-
  Contract: (*sha.Hash).Write.
-/
import Derived.Test.YtooiaadnhglifaaDoorEnd
set_option linter.unusedVariables false
set_option linter.unusedSimpArgs false
namespace Go.Proofs.YtooiaadnhglifaaDoor
open Go.RowKit

theorem hashC_len (s : St) (r : List UInt8) (n : Nat) (hr : r.length = 64) : (hashC s r n).length = 73 := by simp [hashC, cells32_len, cells8_len, St.l, hr]
theorem hashC_st (s : St) (r : List UInt8) (n : Nat) (j : Nat) (v : Value) (hv : (cells32 s.l)[j]? = some v) : (hashC s r n)[j]? = some v := by
  have : j < (cells32 s.l).length := (List.getElem?_eq_some_iff.1 hv).1
  rw [hashC, List.getElem?_append_left this, hv]
theorem hashC_rest (s : St) (r : List UInt8) (n : Nat) (j : Nat) (v : Value) (hv : (cells8 r)[j]? = some v) : (hashC s r n)[8 + j]? = some v := by
  have : j < (cells8 r).length := (List.getElem?_eq_some_iff.1 hv).1
  rw [hashC, List.getElem?_append_right (by simp [cells32_len, St.l]), show (cells32 s.l).length = 8 by simp [cells32_len, St.l], show 8 + j - 8 = j by omega, List.getElem?_append_left this, hv]
theorem hashC_size (s : St) (r : List UInt8) (n : Nat) (hr : r.length = 64) : (hashC s r n)[72]? = some (.int .u64 n) := by
  rw [hashC, List.getElem?_append_right (by simp [cells32_len, St.l]), show (cells32 s.l).length = 8 by simp [cells32_len, St.l], List.getElem?_append_right (by simp [cells8_len, hr]), cells8_len, hr]; rfl
theorem hashC_set (s : St) (r : List UInt8) (n k : Nat) (hr : r.length = 64) : (hashC s r n).set 72 (.int .u64 k) = hashC s r k := by
  rw [hashC, List.set_append_right _ _ (by simp [cells32_len, St.l]), show (cells32 s.l).length = 8 by simp [cells32_len, St.l], List.set_append_right _ _ (by simp [cells8_len, hr]), cells8_len, hr]; rfl
theorem hashC_state (s t : St) (r : List UInt8) (n : Nat) : splice (hashC s r n) 0 (cells32 t.l) = hashC t r n := by
  simp only [splice, hashC, List.take_zero, List.nil_append, Nat.zero_add]
  rw [List.drop_append, List.drop_of_length_le (by simp [cells32_len, St.l])]
  simp [cells32_len, St.l]
/-- a piece laid into the rest -/
def layS (r p : List UInt8) (o : Nat) : List UInt8 := r.take o ++ (p ++ r.drop (o + p.length))
theorem hashC_lay (s : St) (r p : List UInt8) (n o : Nat) (hr : r.length = 64) (ho : o + p.length ≤ 64) : (hashC s r n).take (8 + o) ++ (cells8 p ++ (hashC s r n).drop (8 + o + (cells8 p).length)) = hashC s (layS r p o) n := by
  have h8 : (cells32 s.l).length = 8 := by simp [cells32_len, St.l]
  have hl : (cells8 r).length = 64 := by simp [cells8_len, hr]
  rw [hashC, hashC, List.take_append, List.take_of_length_le (by omega), h8, show 8 + o - 8 = o by omega, List.take_append_of_le_length (by omega)]
  rw [List.drop_append, List.drop_of_length_le (by omega), h8, List.nil_append, cells8_len, show 8 + o + p.length - 8 = o + p.length by omega, List.drop_append_of_le_length (by omega)]
  simp [layS, cells8]
theorem layS_len (r p : List UInt8) (o : Nat) (hr : r.length = 64) (ho : o + p.length ≤ 64) : (layS r p o).length = 64 := by simp [layS]; omega

theorem Only.row (b : Nat) (w : World) (cs : Array Value) : Only b w (w.setRow b cs) := ⟨rfl, rfl, rfl, by simp [World.setRow], fun k _ hn => setRow_other w b k cs hn⟩
theorem Only.drewN (b : Nat) (w : World) (n : Nat) : Only b w (w.drewN n) := Only.of (below_drewN' (Below.refl _ _) n)

/-- the bytes of a slice, apart from a block -/
def Rdn (w : World) (hb : Nat) (q : Option Addr) (m : List UInt8) : Prop := m = [] ∨ ∃ b off, q = some ⟨b, off, none⟩ ∧ b ≠ hb ∧ b < w.heap.size ∧ ∀ i v, (cells8 m)[i]? = some v → w.cell? ⟨b, off + i, none⟩ = some v
theorem Rdn.only {w w' : World} {hb : Nat} {q : Option Addr} {m : List UInt8} (h : Rdn w hb q m) (ho : Only hb w w') : Rdn w' hb q m := by
  rcases h with h | ⟨b, off, h1, h2, h3, h4⟩
  · exact .inl h
  · exact .inr ⟨b, off, h1, h2, Nat.lt_of_lt_of_le h3 ho.size, fun i v hv => by rw [World.cell?_of_block (w := w) (ho.block b h3 h2)]; exact h4 i v hv⟩

/-- what is kept at the head of a round -/
structure Wh (wr w : World) (hb : Nat) (x m : List UInt8) (q : Option Addr) (c : Nat) : Prop where
  hs : Hs wr hb x
  rd : Rdn wr hb q m
  on : Only hb w wr
  cap : m.length ≤ c
def lenV : Value → Nat
  | .slice _ n _ => n
  | _ => 0

theorem piece (y : List UInt8) (o : Nat) (ho : o < 64) (h0 : 0 < y.length) : ∃ p, Hid (p = y.take (64 - o)) ∧ p.length = Nat.min y.length (64 - o) ∧ 0 < p.length ∧ p.length ≤ y.length ∧ o + p.length ≤ 64 ∧ (o + p.length = 64 ∨ p.length = y.length) := by
  refine ⟨y.take (64 - o), Lib.hid rfl, ?_, ?_, ?_, ?_, ?_⟩
  · simp only [List.length_take]; exact Nat.min_comm _ _
  all_goals (simp only [List.length_take]; omega)
theorem run_slice_from {P : Program} (t e : TypeId) (hu : P.underlying t = some (.slice e)) (hs : (P.info? e).map (·.size) = some 1) (b off len cap : Nat) (k : IntKind) (i : Int) (n : Nat) (hi : i = (n : Int)) (hn : n ≤ len) (w : World) :
    (Instr.sliceAt t (.slice (some ⟨b, off, none⟩) len cap) (some (.int k i)) none none).run P w = .ok (.slice (if cap = n then some ⟨b, off, none⟩ else some ⟨b, off + n, none⟩) (len - n) (cap - n)) w := by
  subst hi
  have he : P.elem t = e := by simp [Program.elem, hu]
  rw [run_sliceAt_slice w t _ _ _ _ (by rw [he]; exact hu), run_slice_l w t (some ⟨b, off, none⟩) len cap (by rw [he]; exact hu) k n (by omega) (by omega), he]
  cases hq : P.info? e with
  | none => simp [hq] at hs
  | some i =>
    have hz : i.size = 1 := by simpa [hq] using hs
    simp [sizeOf, typeInfo, hq, hz, sliced, Result.andThen, Addr.add_mid]
theorem take_drop_len {α : Type} (y : List α) (k : Nat) : y.take k ++ y.drop (y.take k).length = y := by
  rw [List.length_take]
  rcases Nat.le_total k y.length with h | h
  · rw [Nat.min_eq_left h, List.take_append_drop]
  · rw [Nat.min_eq_right h, List.take_of_length_le h, List.drop_of_length_le (Nat.le_refl _), List.append_nil]
theorem rdn_drop {w : World} {hb b off : Nat} {y : List UInt8} {n c : Nat} {qq : Option Addr} (h : Rdn w hb (some ⟨b, off, none⟩) y) (hq : qq = (if c = n then some ⟨b, off, none⟩ else some ⟨b, off + n, none⟩ : Option Addr)) (hc : y.length ≤ c) (hn : n ≤ y.length) : Rdn w hb qq (y.drop n) := by
  by_cases hcn : c = n
  · exact .inl (List.drop_of_length_le (by omega))
  · rcases h with h | ⟨b', off', h1, h2, h3, h4⟩
    · exact .inl (by rw [h]; simp)
    · cases h1
      rw [if_neg hcn] at hq
      refine .inr ⟨b, off + n, hq, h2, h3, fun i v hv => ?_⟩
      rw [Nat.add_assoc]
      refine h4 (n + i) v ?_
      unfold cells8 at hv ⊢
      rw [List.map_drop, List.getElem?_drop] at hv
      exact hv
theorem wpStill_load_mid {P : Program} {ops : Array Oper} {w : World} {Q : Act → Prop} {rest : List Oper} {op : Oper} {a : Act} (hg : op.guard = none) (ty : TypeId) (x : Operand) (ho : op.op = .load ty x)
    (b o : Nat) (hx : a.eval x = .pointer (some ⟨b, o, none⟩)) (cs : List Value) (d : TypeDesc) (hc : w.rangeAt b o cs)
    (hu : P.underlying ty = some d) (hd : d.isRow = true) (hi : (P.info? ty).map (·.size) = some cs.length)
    (h : wpStill P ops w Q rest (a.put op.dst (.agg cs.toArray))) : wpStill P ops w Q (op :: rest) a := by
  show if Region.wanted op (yielded ops a.tmps) then op.still P a w (wpStill P ops w Q rest) else _
  rw [if_pos (by simp [Region.wanted, hg])]
  unfold Oper.still execOp
  simp only [ho, hx, Instr.loadAt, Instr.sureAddr, Sem.run_bind, Sem.run_pure, Result.andThen_ok, run_loadVar_mid w b o ty cs d hc hu hd hi]
  exact ⟨rfl, h⟩
theorem one32 (l : List UInt32) : ∀ v ∈ cells32 l, v.oneCell' = true := by intro v hv; obtain ⟨x, _, rfl⟩ := List.mem_map.1 hv; rfl
/-- what is kept while a block is taken -/
structure Jw (X w : World) (hb : Nat) (s : St) (r : List UInt8) (n : Nat) (q : Option Addr) (y : List UInt8) : Prop where
  bk : Bk X hb 109 (hashC s r n).toArray
  on : Only hb w X
  rd : Rdn X hb q y
theorem Jw.of {X X' w : World} {hb : Nat} {s : St} {r : List UInt8} {n : Nat} {q : Option Addr} {y : List UInt8} (h : Jw X w hb s r n q y) (hb9 : Below X.heap.size X X') : Jw X' w hb s r n q y :=
  ⟨h.bk.on hb9, h.on.trans (Only.of hb9), h.rd.only (Only.of hb9)⟩
theorem Jw.drew {X w : World} {hb : Nat} {s : St} {r : List UInt8} {n : Nat} {q : Option Addr} {y : List UInt8} (h : Jw X w hb s r n q y) : Jw X.drew w hb s r n q y := h.of (Below.refl _ _).drew
theorem Jw.held {X w : World} {hb : Nat} {s : St} {r : List UInt8} {n : Nat} {q : Option Addr} {y : List UInt8} (h : Jw X w hb s r n q y) :
    X.cell? ⟨hb, 0, none⟩ = some (W32 s.a) ∧ X.cell? ⟨hb, 1, none⟩ = some (W32 s.b) ∧ X.cell? ⟨hb, 2, none⟩ = some (W32 s.c) ∧ X.cell? ⟨hb, 3, none⟩ = some (W32 s.d) ∧ X.cell? ⟨hb, 4, none⟩ = some (W32 s.e) ∧ X.cell? ⟨hb, 5, none⟩ = some (W32 s.f) ∧ X.cell? ⟨hb, 6, none⟩ = some (W32 s.g) ∧ X.cell? ⟨hb, 7, none⟩ = some (W32 s.h) ∧ X.frozen? ⟨hb, 0, none⟩ = false ∧ X.frozen? ⟨hb, 1, none⟩ = false ∧ X.frozen? ⟨hb, 2, none⟩ = false ∧ X.frozen? ⟨hb, 3, none⟩ = false ∧ X.frozen? ⟨hb, 4, none⟩ = false ∧ X.frozen? ⟨hb, 5, none⟩ = false ∧ X.frozen? ⟨hb, 6, none⟩ = false ∧ X.frozen? ⟨hb, 7, none⟩ = false ∧ X.rangeAt hb 8 (cells8 r) ∧ Hid (Jw X w hb s r n q y) :=
  ⟨h.bk.cell 0 _ rfl, h.bk.cell 1 _ rfl, h.bk.cell 2 _ rfl, h.bk.cell 3 _ rfl, h.bk.cell 4 _ rfl, h.bk.cell 5 _ rfl, h.bk.cell 6 _ rfl, h.bk.cell 7 _ rfl, h.bk.soft 0, h.bk.soft 1, h.bk.soft 2, h.bk.soft 3, h.bk.soft 4, h.bk.soft 5, h.bk.soft 6, h.bk.soft 7,
   fun j v hv => h.bk.cell (8 + j) v (by rw [List.toList_toArray]; exact hashC_rest _ _ _ j v hv), Lib.hid h⟩
theorem Jw.range {X w : World} {hb : Nat} {s : St} {r : List UInt8} {n : Nat} {q : Option Addr} {y : List UInt8} (h : Jw X w hb s r n q y) : X.rangeAt hb 8 (cells8 r) :=
  fun j v hv => h.bk.cell (8 + j) v (by rw [List.toList_toArray]; exact hashC_rest _ _ _ j v hv)
theorem Jw.put {X w : World} {hb : Nat} {s t : St} {r : List UInt8} {n : Nat} {q : Option Addr} {y : List UInt8} (h : Jw X w hb s r n q y) (hr : r.length = 64) : Jw (X.setCells hb 0 (cells32 t.l)) w hb t r n q y := by
  refine ⟨?_, h.on.trans (Only.sets hb _ 0 X), h.rd.only (Only.sets hb _ 0 X)⟩
  have := Bk.sets (cells32 t.l) 0 X _ h.bk (by rw [hashC_len _ _ _ hr]; simp [cells32_len, St.l])
  rw [hashC_state] at this
  exact this
theorem Jw.store {P : Program} {X w : World} {hb : Nat} {s : St} {r : List UInt8} {n : Nat} {q : Option Addr} {y : List UInt8} (h : Jw X w hb s r n q y) (hr : r.length = 64) (t : St) :
    (storeCells ⟨hb, 0, none⟩ (cells32 t.l)).run P X = .ok () (X.setCells hb 0 (cells32 t.l)) := by
  have := run_storeCells_cells (P := P) hb 0 (cells32 t.l) 0 X (fun j hj => by
    have hj' : j < 8 := by simpa [cells32_len, St.l] using hj
    rw [show 0 + 0 + j = j by omega, h.bk.cell j _ (by rw [List.toList_toArray]; exact List.getElem?_eq_getElem (by rw [hashC_len _ _ _ hr]; omega))]; rfl) (fun j _ => h.bk.soft _) (one32 _)
  exact this
theorem write_nil (v : Value) (w : World) : Calls Tryd.prog 74 #[.pointer none, v] w fun e w' => e = .returned (.tuple #[]) ∧ w = w' := by
  go_enter Tryd.func74, Tryd.ntmps74
  go_wp2
  exact bodyPost_ret (v := .tuple #[]) (results_none rfl _ _ _) rfl ⟨rfl, rfl⟩

set_option maxRecDepth 100000 in
set_option maxHeartbeats 800000 in
theorem write_any (hb : Nat) (l m : List UInt8) (q : Option Addr) (c : Nat) (w : World) (hH : Hs w hb l) (hE : Env w) (h2 : 0 + 1 + 1 ≤ hb) (hR : Rdn w hb q m) (hc : m.length ≤ c) (hz : l.length + m.length < 1152921504606846976) :
    Calls Tryd.prog 74 #[.pointer (some ⟨hb, 0, none⟩), .slice q m.length c] w fun e w' => e = .returned (.tuple #[]) ∧ Hs w' hb (l ++ m) ∧ Only hb w w' := by
  have HW := Lib.hid (show Wh w w hb l m q c from ⟨hH, hR, Only.refl _ _, hc⟩)
  have HE := Lib.hid hE
  have HB2' := Lib.hid h2
  clear hH hR hE h2
  go_enter Tryd.func74, Tryd.ntmps74
  go_wp2
  go_loopw [1, 4] (fun v _ wr => ∃ (x y : List UInt8) (q' : Option Addr) (c' : Nat), Hid (l ++ m = x ++ y) ∧ x.length + y.length < 1152921504606846976 ∧ v = .slice q' y.length c' ∧ Wh wr w hb x y q' c') (fun v _ _ => lenV v)
  case atStart => exact ⟨l, m, q, c, Lib.hid rfl, hz, rfl, HW.out⟩
  case round =>
    clear HW hc hz
    obtain ⟨x, y, q', c', hxy, hlen, rfl, hW⟩ := hrel
    by_cases h0 : 0 < y.length
    · obtain ⟨⟨s, r, hK, hB⟩, hRd, hOn, hcap⟩ := hW
      obtain ⟨b, off, rfl, hne, hbl, hcs⟩ : ∃ b off, q' = some ⟨b, off, none⟩ ∧ b ≠ hb ∧ b < wr.heap.size ∧ ∀ i v, (cells8 y)[i]? = some v → wr.cell? ⟨b, off + i, none⟩ = some v := by
        rcases hRd with h | h
        · rw [h] at h0; exact absurd h0 (by simp)
        · exact h
      go_upto_region 2 with (fail)
      obtain ⟨o, ho⟩ : ∃ o, Hid (o = x.length % 64) := ⟨_, Lib.hid rfl⟩
      have hol : o < 64 := by rw [ho.out]; omega
      refine wp_region_still_tail 10 (by kernel_rfl) (by kernel_rfl) ?_
      simp only [List.take_succ_cons, List.take_zero, List.drop_succ_cons, List.drop_zero]
      change wpStill _ _ wr.drew _ _ _
      change wpStill _ _ _ (fun a' => wpList _ _ _ _ a' wr.drew) _ _
      have HD := Lib.hid (show Only hb w wr.drew from hOn.trans (Only.of (Below.refl _ _).drew))
      have HB := Lib.hid (hB.on (Below.refl _ _).drew)
      have HC := Lib.hid (show ∀ i v, (cells8 y)[i]? = some v → wr.drew.cell? ⟨b, off + i, none⟩ = some v from fun i v hv => by rw [(Below.refl wr.heap.size wr).drew.cell (p := ⟨b, off + i, none⟩) hbl]; exact hcs i v hv)
      have HBL := Lib.hid (show b < wr.drew.heap.size from hbl)
      clear hRd hOn hB hcs hbl
      generalize wr.drew = WD at *
      have c72 := HB.out.cell 72 (.int .u64 x.length) (by rw [List.toList_toArray]; exact hashC_size s r _ hK.len)
      have e0 : (x.length : Int).tmod 64 = (o : Int) := by rw [ho.out]; simp [Int.tmod_eq_emod_of_nonneg]
      have hsl := fun wx => run_slice_arr (P := Tryd.prog) 107 5 64 Tryd.underlying107 (by kernel_rfl) hb 8 .u64 (o : Int) o rfl hol wx
      repeat still_step
      refine wpStill_nil ?_
      obtain ⟨p, hp, hpl, hp0, hpy, hpo, hpe⟩ := piece y o hol h0
      have HSR := Lib.hid (show ∀ j v, (cells8 p)[j]? = some v → WD.cell? ((⟨b, off, none⟩ : Addr).add j) = some v from fun j v hv => by
        rw [Addr.add_mid]; refine HC.out j v ?_
        rw [hp.out] at hv
        unfold cells8 at hv ⊢
        rw [List.map_take, List.getElem?_take] at hv
        split at hv
        · exact hv
        · cases hv)
      have HPL := Lib.hid (show (cells8 p).length = Nat.min y.length (64 - o) by rw [cells8_len, hpl])
      have HP0 := Lib.hid hpl
      have HFT := Lib.hid (show 8 + o + (cells8 p).length ≤ (hashC s r x.length).toArray.size by rw [List.size_toArray, hashC_len _ _ _ hK.len, cells8_len]; omega)
      have HON := Lib.hid (show ∀ v ∈ cells8 p, v.oneCell' = true from by intro v hv; obtain ⟨z, _, rfl⟩ := List.mem_map.1 hv; rfl)
      clear c72 hsl e0 hpl
      refine wpList_copy_own rfl _ _ _ _ rfl 5 Tryd.underlying22 (by kernel_rfl) hb (8 + o) _ _ ⟨b, off, none⟩ _ _ rfl rfl _ _ HB.out (cells8 p) HPL.out HSR.out HFT.out HON.out ?_
      rw [List.toList_toArray, hashC_lay s r p x.length o hK.len hpo, cells8_len]
      have HB1 := setRow_heap WD hb (hashC s r x.length).toArray (hashC s (layS r p o) x.length).toArray 109 _ HB.out
      have HB1 := Lib.hid (show Bk (WD.setRow hb (hashC s (layS r p o) x.length).toArray) hb 109 (hashC s (layS r p o) x.length).toArray from HB1)
      have HO1 := Lib.hid (HD.out.trans (Only.row hb WD (hashC s (layS r p o) x.length).toArray))
      have HR1 := Lib.hid (show Rdn (WD.setRow hb (hashC s (layS r p o) x.length).toArray) hb (some ⟨b, off, none⟩) y from Rdn.only (w := WD) (.inr ⟨b, off, rfl, hne, HBL.out, HC.out⟩) (Only.row _ _ _))
      clear HSR HPL HP0 HFT HON HB HD HC HBL
      generalize WD.setRow hb (hashC s (layS r p o) x.length).toArray = W1 at *
      have HLL := Lib.hid (layS_len r p o hK.len hpo)
      have c72 := HB1.out.cell 72 (.int .u64 x.length) (by rw [List.toList_toArray]; exact hashC_size s _ _ HLL.out)
      have f72 := HB1.out.soft 72
      have i1 : (0 : Int) ≤ (p.length : Int) := by omega
      have i2 : (p.length : Int) ≤ (y.length : Int) := by omega
      have i3 : (p.length : Int) ≤ (c' : Int) := by omega
      obtain ⟨qq, hqq⟩ : ∃ qq, qq = (if c' = p.length then some ⟨b, off, none⟩ else some ⟨b, off + p.length, none⟩ : Option Addr) := ⟨_, rfl⟩
      have hsl : ∀ wx, (Instr.sliceAt 22 (.slice (some ⟨b, off, none⟩) y.length c') (some (.int .i64 (p.length : Int))) none none).run Tryd.prog wx = .ok (.slice qq (y.length - p.length) (c' - p.length)) wx := fun wx => by
        rw [hqq]; exact run_slice_from (P := Tryd.prog) 22 5 Tryd.underlying22 (by kernel_rfl) b off y.length c' .i64 _ p.length rfl hpy wx
      have HQ := Lib.hid hqq
      clear hqq
      go_upto_region 5 with (fail)
      obtain ⟨N1, hN1⟩ : ∃ N, Hid (N = (x ++ p).length) := ⟨_, Lib.hid rfl⟩
      rw [show (x.length : Int) + (p.length : Int) = (N1 : Int) by rw [hN1.out]; simp]
      have HB2 := HB1.out.set 72 (.int .u64 (N1 : Int))
      rw [show (hashC s (layS r p o) x.length).toArray.setIfInBounds 72 (.int .u64 (N1 : Int)) = (hashC s (layS r p o) N1).toArray by simp only [List.setIfInBounds_toArray]; rw [hashC_set s _ _ N1 HLL.out]] at HB2
      have HB2 := Lib.hid HB2
      have HO2 := Lib.hid (HO1.out.trans (Only.set hb W1 72 (.int .u64 (N1 : Int))))
      have HR2 := Lib.hid (show Rdn (W1.setCell ⟨hb, 72, none⟩ (.int .u64 (N1 : Int))) hb qq (y.drop p.length) from (rdn_drop HR1.out HQ.out hcap hpy).only (Only.set hb W1 72 _))
      clear c72 f72 i1 i2 i3 hsl HB1 HO1 HR1 HQ
      generalize W1.setCell ⟨hb, 72, none⟩ (.int .u64 (N1 : Int)) = W2 at *
      have c72 := HB2.out.cell 72 (.int .u64 (N1 : Int)) (by rw [List.toList_toArray]; exact hashC_size s _ _ HLL.out)
      have HLN := Lib.hid (show (y.drop p.length).length = y.length - p.length by simp)
      have HXY := Lib.hid (show l ++ m = (x ++ p) ++ y.drop p.length by rw [hxy.out, List.append_assoc, hp.out, take_drop_len])
      have HCC := Lib.hid (show (y.drop p.length).length ≤ c' - p.length by rw [HLN.out]; omega)
      have HEN := Lib.hid (show (x ++ p).length + (y.drop p.length).length < 1152921504606846976 by rw [HLN.out, List.length_append]; omega)
      have HME := Lib.hid (show y.length - p.length < y.length by omega)
      by_cases hpe' : o + p.length = 64
      · have hpe := hpe'
        have h64 : (N1 : Int).tmod 64 = 0 := by rw [hN1.out, List.length_append, Int.tmod_eq_emod_of_nonneg (by omega)]; have := ho.out; omega
        have HK := Lib.hid (show Kept (x ++ p) (cmpS s (layS r p o)) (layS r p o) from by rw [ho.out]; exact kept_full hK (by rw [← ho.out]; exact hpe))
        go_upto_region 6 with (fail)
        have hI := Lib.hid (show Jw W2 w hb s (layS r p o) N1 qq (y.drop p.length) from ⟨HB2.out, HO2.out, HR2.out⟩)
        have HDB := Lib.hid (show Jw W2.drew w hb s (layS r p o) N1 qq (y.drop p.length) from hI.out.drew)
        have HSS := Lib.hid (fun X (h : Jw X w hb s (layS r p o) N1 qq (y.drop p.length)) => h.held)
        have HT := fun (wx : World) (hx : Env wx) => taken_any s (layS r p o) wx HLL.out hx
        have HK' := HK.out
        obtain ⟨t, et⟩ : ∃ t, t = cmpS s (layS r p o) := ⟨_, rfl⟩
        rw [← et] at HT HK'
        clear et HK
        have HT := Lib.hid HT
        have HK := Lib.hid HK'
        clear HK'
        have HEV := Lib.hid (fun X (h : Jw X w hb s (layS r p o) N1 qq (y.drop p.length)) => HE.out.only h.on HB2'.out)
        clear c72 HB2 HO2 HR2 h64
        obtain ⟨c0, c1, c2, c3, c4, c5, c6, c7, -, -, -, -, -, -, -, -, hr8, -⟩ := HSS.out _ HDB.out
        have HR8 := Lib.hid (show ∀ X, Jw X w hb s (layS r p o) N1 qq (y.drop p.length) → X.rangeAt hb 8 (cells8 (layS r p o)) from fun X h => h.range)
        have HR8' := Lib.hid (show ∀ X, Jw X w hb t (layS r p o) N1 qq (y.drop p.length) → X.rangeAt hb 8 (cells8 (layS r p o)) from fun X h => h.range)
        clear hr8
        refine wp_region_held_drew (S := fun X => X.rangeAt hb 8 (cells8 (layS r p o))) (by kernel_rfl) (HR8.out _ HDB.out) (fun hHeld => ?_)
        refine wpAnyH_take (i := 0) (v := ?_) rfl (by kernel_rfl) (by kernel_rfl) (by kernel_rfl) (fun _ _ _ h => h) (Or.inl ⟨by rfl, ?hy⟩) (by assumption) ?_
        case hy =>
          intro w hSw
          go_simp
          all_goals with_reducible rfl
        (try simp only [Act.put, List.setIfInBounds_toArray, List.set_cons_zero, List.set_cons_succ])
        refine wpAnyH_take (i := 1) (v := ?_) rfl (by kernel_rfl) (by kernel_rfl) (by kernel_rfl) (fun _ _ _ h => h) (Or.inl ⟨by rfl, ?hy⟩) (by assumption) ?_
        case hy =>
          intro w hSw
          go_simp
          all_goals with_reducible rfl
        (try simp only [Act.put, List.setIfInBounds_toArray, List.set_cons_zero, List.set_cons_succ])
        refine wpAnyH_take (i := 2) (v := ?_) rfl (by kernel_rfl) (by kernel_rfl) (by kernel_rfl) (fun _ _ _ h => h) (Or.inl ⟨by rfl, ?hy⟩) (by assumption) ?_
        case hy =>
          intro w hSw
          go_simp
          all_goals with_reducible rfl
        (try simp only [Act.put, List.setIfInBounds_toArray, List.set_cons_zero, List.set_cons_succ])
        refine wpAnyH_take (i := 3) (v := ?_) rfl (by kernel_rfl) (by kernel_rfl) (by kernel_rfl) (fun _ _ _ h => h) (Or.inl ⟨by rfl, ?hy⟩) (by assumption) ?_
        case hy =>
          intro w hSw
          go_simp
          all_goals with_reducible rfl
        (try simp only [Act.put, List.setIfInBounds_toArray, List.set_cons_zero, List.set_cons_succ])
        refine wpAnyH_take (i := 5) (v := ?_) rfl (by kernel_rfl) (by kernel_rfl) (by kernel_rfl) (fun _ _ _ h => h) (Or.inl ⟨by rfl, ?hy⟩) (by assumption) ?_
        case hy =>
          intro w hSw
          go_simp
          all_goals with_reducible rfl
        (try simp only [Act.put, List.setIfInBounds_toArray, List.set_cons_zero, List.set_cons_succ])
        refine wpAnyH_take (i := 6) (v := ?_) rfl (by kernel_rfl) (by kernel_rfl) (by kernel_rfl) (fun _ _ _ h => h) (Or.inl ⟨by rfl, ?hy⟩) (by assumption) ?_
        case hy =>
          intro w hSw
          go_simp
          all_goals with_reducible rfl
        (try simp only [Act.put, List.setIfInBounds_toArray, List.set_cons_zero, List.set_cons_succ])
        refine wpAnyH_take (i := 7) (v := ?_) rfl (by kernel_rfl) (by kernel_rfl) (by kernel_rfl) (fun _ _ _ h => h) (Or.inl ⟨by rfl, ?hy⟩) (by assumption) ?_
        case hy =>
          intro w hSw
          go_simp
          all_goals with_reducible rfl
        (try simp only [Act.put, List.setIfInBounds_toArray, List.set_cons_zero, List.set_cons_succ])
        refine wpAnyH_take (i := 8) (v := .agg (cells8 (layS r p o)).toArray) rfl (by kernel_rfl) (by kernel_rfl) (by kernel_rfl) (fun _ _ _ h => h) (yieldsIf_load_mid (by rfl) 107 (.tmp 46) rfl hb 8 (by rfl) _ _ (fun _ h => h) Tryd.underlying107 rfl (by rw [cells8_len, HLL.out]; kernel_rfl)) (by assumption) ?_
        (try simp only [Act.put, List.setIfInBounds_toArray, List.set_cons_zero, List.set_cons_succ])
        refine wpAnyH_ready (rs := [4]) (by kernel_rfl) (by simp) ?_
        refine AllReadyH.cons rfl (fun K hK => ?_) AllReadyH.nil
        go_simp
        refine hK.out _ _ (HR8.out _ HDB.out) (fun hHeld => ?_)
        clear hK K c0 c1 c2 c3 c4 c5 c6 c7
        (try simp only [Act.put, List.setIfInBounds_toArray, List.set_cons_zero, List.set_cons_succ])
        refine wpAnyH_ready (rs := [9]) (by kernel_rfl) (by simp) ?_
        refine AllReadyH.cons rfl (fun K hK => ?_) AllReadyH.nil
        go_simp
        go_at_call 76
        refine (HT.out _ (HEV.out _ HDB.out)).mono ?_
        rintro e w9 ⟨rfl, hb9⟩
        have HI9 := Lib.hid (HDB.out.of hb9)
        clear hb9
        refine hK.out _ _ (HR8.out _ HI9.out) (fun hHeld => ?_)
        clear hK K
        (try simp only [Act.put, List.setIfInBounds_toArray, List.set_cons_zero, List.set_cons_succ])
        refine wpAnyH_take (i := 10) (v := ?_) rfl (by kernel_rfl) (by kernel_rfl) (by kernel_rfl) (fun _ _ _ h => h) (Or.inl ⟨by rfl, ?hy⟩) (by assumption) ?_
        case hy =>
          intro w hSw
          go_simp
          all_goals with_reducible rfl
        (try simp only [Act.put, List.setIfInBounds_toArray, List.set_cons_zero, List.set_cons_succ])
        refine wpAnyH_take (i := 11) (v := ?_) rfl (by kernel_rfl) (by kernel_rfl) (by kernel_rfl) (fun _ _ _ h => h) (Or.inl ⟨by rfl, ?hy⟩) (by assumption) ?_
        case hy =>
          intro w hSw
          go_simp
          all_goals with_reducible rfl
        (try simp only [Act.put, List.setIfInBounds_toArray, List.set_cons_zero, List.set_cons_succ])
        have hst := HI9.out.store (P := Tryd.prog) HLL.out t
        have HIE := Lib.hid (HI9.out.put (t := t) HLL.out)
        refine wpAnyH_ready (rs := [12]) (by kernel_rfl) (by simp) ?_
        refine AllReadyH.cons rfl (fun K hK => ?_) AllReadyH.nil
        go_simp
        refine hK.out _ _ (HR8'.out _ HIE.out) (fun hHeld => ?_)
        clear hK K hst
        (try simp only [Act.put, List.setIfInBounds_toArray, List.set_cons_zero, List.set_cons_succ])
        refine wpAnyH_done (by kernel_rfl) ?_ _
        clear hHeld HI9 HDB hI HSS HEV HT
        generalize w9.setCells hb 0 (cells32 t.l) = WZ at *
        go_wp2_with fail
        go_roundw
        case rel =>
          refine ⟨x ++ p, y.drop p.length, qq, c' - p.length, Lib.hid HXY.out, HEN.out, by rw [HLN.out], ⟨t, layS r p o, HK.out, ?_⟩, HIE.out.rd, HIE.out.on, HCC.out⟩
          have := HIE.out.bk
          rw [hN1.out] at this
          exact this
        case measure => exact HME.out
      · have hpe2 : o + p.length < 64 := by omega
        have h64 : ((N1 : Int) % 64 == 0) = false := by
          rw [hN1.out, List.length_append, beq_eq_false_iff_ne]
          have := ho.out
          push_cast
          omega
        have h64' : ((N1 : Int).tmod 64 == 0) = false := by
          rw [Int.tmod_eq_emod_of_nonneg (by omega)]; exact h64
        have HK := Lib.hid (show Kept (x ++ p) s (layS r p o) from by rw [ho.out]; exact kept_on hK (by rw [← ho.out]; exact hpe2))
        go_wp2_with fail
        go_roundw
        case rel =>
          refine ⟨x ++ p, y.drop p.length, qq, c' - p.length, Lib.hid HXY.out, HEN.out, by rw [HLN.out], ⟨s, layS r p o, HK.out, ?_⟩, HR2.out, HO2.out, HCC.out⟩
          have := HB2.out
          rw [hN1.out] at this
          exact this
        case measure => exact HME.out
    · have hy : y = [] := List.eq_nil_of_length_eq_zero (by omega)
      subst hy
      have HX := hxy.out
      rw [List.append_nil] at HX
      have HX' := Lib.hid HX
      have HWW := Lib.hid hW
      clear HX hxy hW
      go_wp2_with fail
      refine bodyPost_end (results_none rfl _ _ _) rfl ⟨rfl, ?_, HWW.out.on⟩
      rw [HX'.out]; exact HWW.out.hs
end Go.Proofs.YtooiaadnhglifaaDoor
