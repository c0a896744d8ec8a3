/-
  Contract: wal.ending tells what stands behind a body.
-/
import Derived.Test.YtooiaadnhglifaaDoorSum
import Derived.Test.YtooiaadnhglifaaDoorWrn
import Derived.Test.YtooiaadnhglifaaDoorRbk
set_option linter.unusedVariables false
set_option linter.unusedSimpArgs false
namespace Go.Proofs.YtooiaadnhglifaaDoor
open Go.RowKit

theorem cells8_take (m : List UInt8) (k : Nat) : cells8 (m.take k) = (cells8 m).take k := by simp [cells8, List.map_take]
theorem cells8_drop (m : List UInt8) (k : Nat) : cells8 (m.drop k) = (cells8 m).drop k := by simp [cells8, List.map_drop]
theorem Rd0.take {w : World} {q : Option Addr} {m : List UInt8} (h : Rd0 w q m) (k : Nat) : Rd0 w q (m.take k) := by
  rcases h with h | ⟨b, off, h1, h2, h3⟩
  · subst h; exact .inl (by simp)
  · refine .inr ⟨b, off, h1, h2, fun i v hv => h3 i v ?_⟩
    rw [cells8_take, List.getElem?_take] at hv
    split at hv
    · exact hv
    · cases hv
def fromQ (p : Option Addr) (c n : Nat) : Option Addr := if c = n then p else p.map (·.add (n * 1))
theorem Rd0.drop {w : World} {q : Option Addr} {m : List UInt8} (h : Rd0 w q m) (k c : Nat) (hc : m.length ≤ c) : Rd0 w (fromQ q c k) (m.drop k) := by
  unfold fromQ
  rcases h with h | ⟨b, off, h1, h2, h3⟩
  · subst h; exact .inl (by simp)
  · by_cases e : c = k
    · exact .inl (List.drop_eq_nil_of_le (by omega))
    · rw [if_neg e, h1]
      refine .inr ⟨b, off + k, by simp [Addr.add_mid], h2, fun i v hv => ?_⟩
      rw [cells8_drop, List.getElem?_drop] at hv
      rw [Nat.add_assoc]
      exact h3 (k + i) v hv
theorem run_slice_fromQ {P : Program} (t e : TypeId) (hu : P.underlying t = some (.slice e)) (hs : (P.info? e).map (·.size) = some 1) (p : Option Addr) (len cap : Nat) (k : IntKind) (i : Int) (n : Nat) (hi : i = (n : Int)) (hn : n ≤ len) (w : World) :
    (Instr.sliceAt t (.slice p len cap) (some (.int k i)) none none).run P w = .ok (.slice (fromQ p cap n) (len - n) (cap - n)) w := by
  subst hi
  have he : P.elem t = e := by simp [Program.elem, hu]
  rw [run_sliceAt_slice w t _ _ _ _ (by rw [he]; exact hu), run_slice_l w t p len cap (by rw [he]; exact hu) k n (by omega) (by omega), he]
  cases hq : P.info? e with
  | none => simp [hq] at hs
  | some i =>
    have hz : i.size = 1 := by simpa [hq] using hs
    simp [sizeOf, typeInfo, hq, hz, sliced, Result.andThen, fromQ]
/-- the beginning of an array, clipped -/
theorem run_slice_arr_clip {P : Program} (t e : TypeId) (n : Nat) (hu : P.underlying t = some (.array n e)) (hs : (P.info? e).map (·.size) = some 1) (b o : Nat) (kl km : IntKind) (i j : Int) (l : Nat) (hi : i = (l : Int)) (hj : j = (l : Int)) (h0 : 0 < l) (h : l ≤ n) (w : World) :
    (Instr.sliceAt t (.pointer (some ⟨b, o, none⟩)) none (some (.int kl i)) (some (.int km j))).run P w = .ok (.slice (some ⟨b, o, none⟩) l l) w := by
  subst hi hj
  have ha : P.arrayLen t = n := by simp [Program.arrayLen, hu]
  have he : P.elem t = e := by simp [Program.elem, hu]
  rw [run_sliceAt_array_hm w t ⟨b, o, none⟩ (by rw [ha, he]; exact hu) kl km l l (by omega) (by omega) (by rw [ha]; omega), he]
  cases hq : P.info? e with
  | none => simp [hq] at hs
  | some i =>
    have hz : i.size = 1 := by simpa [hq] using hs
    simp [sizeOf, typeInfo, hq, hz, slicedAt, Nat.ne_of_gt h0, Result.andThen, Addr.add]

/-- what is appended to a slice without spare room -/
theorem wpList_clip8 {w : World} {ops : Array Oper} {rest : List Oper} {o : Oper} {a : Act} {Q : Exit → Act → World → Prop} (hgd : o.guard = none) (s x : Operand)
    (ho : o.op = .call { callee := .builtin .append, args := #[s, x], argTypes := #[22, 22] })
    (p : Addr) (k : Nat) (xs : List UInt8) (hs : a.eval s = .slice (some p) k k) (hk : k = xs.length) (hp : p.block < w.heap.size) (hxs : ∀ j u, (cells8 xs)[j]? = some u → w.cell? (p.add j) = some u)
    (q : Addr) (m : List UInt8) (n c : Nat) (hx : a.eval x = .slice (some q) n c) (hn : n = m.length) (hm : ∀ j u, (cells8 m)[j]? = some u → w.cell? (q.add j) = some u) (hpos : 0 < n) (hz : k + n ≤ 100000000000000)
    (h : ∀ v' w', Acc w' w.heap.size v' (xs ++ m) → Below w.heap.size w w' → wpList Tryd.prog ops Q rest (a.put o.dst v') w') : wpList Tryd.prog ops Q (o :: rest) a w := by
  subst hk hn
  obtain ⟨i, hi, hz0, hz1, hz2⟩ := info_parts info8
  refine wpList_append_grw hgd s x 22 ho w.heap.size 5 i _ 1 1 Tryd.underlying22 hi hz0 hz1 hz2 rfl (by decide) _ xs.length (cells8 xs) hs
    (.inl ⟨some p, rfl, fun h => (by cases h), by rw [cells8_len, Nat.mul_one], fun b hb j u hu => by cases hb; exact ⟨hp, hxs j u hu⟩⟩) q m.length c (cells8 m) hx (by rw [cells8_len, Nat.mul_one]) hm (by intro u hu; obtain ⟨x, _, rfl⟩ := List.mem_map.1 hu; rfl) hpos (by unfold maxLen; omega) (by omega) (Nat.le_refl _) fun g cap w' h1 h2 h3 h4 => h _ _ ⟨⟨_, cap, by rw [List.length_append], ?_⟩, .inr ?_⟩ h2
  · rcases h1.2 with ⟨h, _⟩ | ⟨_, _, _, h1, _, _, h2, _⟩
    · cases h
    · cases h1; rw [List.length_append]; exact h2
  · have e : cells8 (xs ++ m) = cells8 xs ++ cells8 m := by simp [cells8]
    rw [List.length_append, e]; exact h1
/-- what stands behind a body -/
def wendS (m : List UInt8) : List UInt8 := (sumS m).take 4 ++ [0xC5]
theorem wendS_len (m : List UInt8) : (wendS m).length = 5 := by simp [wendS, sumS_len]

set_option maxRecDepth 100000 in
set_option maxHeartbeats 1000000 in
theorem wending_any (q : Option Addr) (n c : Nat) (m : List UInt8) (hn : n = m.length) (w : World) (hR : Rd0 w q m) (hc : m.length ≤ c) (hE : Env w) (hz : m.length < 1000000000000000) :
    Calls Tryd.prog 48 #[.slice q n c] w fun e w' => ∃ p d, e = .returned (.slice p 5 d) ∧ 5 ≤ d ∧ Rd0 w' p (wendS m) ∧ Below w.heap.size w w' := by
  obtain ⟨S, hS⟩ : ∃ S, Hid (S = sumS m) := ⟨_, Lib.hid rfl⟩
  have HN := Lib.hid (show (cells8 S).toArray.size = 32 by rw [hS.out, List.size_toArray, cells8_len, sumS_len])
  have HS := Lib.hid (show wendS m = S.take 4 ++ [0xC5] by rw [wendS, hS.out])
  have HC := Lib.hid (sum_any q c m w hR hc hE hz S hS)
  rw [← hn] at HC
  clear hR hc hE hz hn
  go_enter Tryd.func48, Tryd.ntmps48
  go_upto_region 2 with (first
    | (go_at_call 65; refine HC.out.mono ?_; rintro r w1 ⟨rfl, hb1⟩; have HB1 := Lib.hid hb1; clear hb1)
    | (refine wpList_store_row rfl 57 _ _ rfl _ _ rfl rfl _ _ (Bk.new _ _ _) (by rw [HN.out]; kernel_rfl) (by rw [HN.out]; rfl) (cells8_one _) ?_))
  rw [World.setRow_alloc_new]
  have HBK := Lib.hid (Bk.new w1 57 (cells8 S).toArray)
  have HB2 := Lib.hid (HB1.out.trans ((below1 w1 (.cells (cells8 S).toArray 57)).mono HB1.out.size))
  have HBS := Lib.hid (Nat.le_of_lt HBK.out.lt)
  generalize w1.alloc (.cells (cells8 S).toArray 57) = W1 at *
  generalize w1.heap.size = N at *
  (try simp only [Act.put])
  have hsl := fun wx => run_slice_arr_clip (P := Tryd.prog) 57 5 32 Tryd.underlying57 (by kernel_rfl) N 0 .i64 .i64 4 4 4 rfl rfl (by omega) (by omega) wx
  clear HB1 HC
  have HP := Lib.hid (fun (o : Obj) => (show Bk (W1.alloc o) N 57 (cells8 S).toArray from HBK.out.on (below1 _ _)))
  have HTK := Lib.hid (show ∀ (o : Obj) j u, (cells8 (S.take 4))[j]? = some u → (W1.alloc o).cell? ((⟨N, 0, none⟩ : Addr).add j) = some u from fun o j u hu => by
    rw [Addr.add_mid, Nat.zero_add]
    refine (HP.out o).cell j u ?_
    rw [cells8_take, List.getElem?_take] at hu
    split at hu
    · exact hu
    · cases hu)
  have HT4 := Lib.hid (show (S.take 4).length = 4 by rw [List.length_take, hS.out, sumS_len]; rfl)
  have HLT := Lib.hid HBK.out.lt
  go_wp2_with (first
    | (refine wpList_clip8 rfl _ _ rfl _ _ (S.take 4) rfl HT4.out.symm (by have := HLT.out; simp; omega) (HTK.out _) _ [0xC5] 1 1 rfl rfl (fun j u hu => by
        obtain rfl : j = 0 := by
          have := (List.getElem?_eq_some_iff.1 hu).1; simp [cells8] at this; exact this
        rw [Addr.add_mid, Nat.zero_add]; exact (Bk.new W1 5 #[.int .u8 197]).cell 0 u hu) (by omega) (by omega) ?_; intro v2 w2 hA hb2; have HA := Lib.hid hA; have HB3 := Lib.hid hb2; clear hA hb2))
  go_ret
  obtain ⟨p, d, rfl, hd, hr⟩ := HA.out.rd
  refine ⟨p, d, by rw [List.length_append, HT4.out]; rfl, by rw [List.length_append, HT4.out] at hd; exact hd, by rw [HS.out]; exact hr, ?_⟩
  exact HB2.out.trans (((below1 W1 _).trans (HB3.out.mono (by simp))).mono HB2.out.size)
end Go.Proofs.YtooiaadnhglifaaDoor
