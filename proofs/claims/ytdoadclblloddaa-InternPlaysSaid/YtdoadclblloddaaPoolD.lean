/-
  Contract: Row of a pool.
-/
import Derived.Test.YtdoadclblloddaaPoolC
import Derived.OwnWalk
import Derived.Laws.MakeOwn
namespace Go.Proofs.Ytdoadclblloddaa
open Go.RowKit Go.Maps Go.WideMaps

/-- block R is a row of the cells xs -/
def RowOf (w : World) (R : Nat) (t : TypeId) (xs : List Value) : Prop := w.heap[R]? = some (.cells xs.toArray t (0, 0))
theorem RowOf.lt {w : World} {R : Nat} {t : TypeId} {xs : List Value} (h : RowOf w R t xs) : R < w.heap.size := (Array.getElem?_eq_some_iff.1 h).1
theorem RowOf.kept {w w' : World} {R : Nat} {t : TypeId} {xs : List Value} (h : RowOf w R t xs) (hk : w'.heap[R]? = w.heap[R]?) : RowOf w' R t xs := hk.trans h
theorem RowOf.below {w w' : World} {R B : Nat} {t : TypeId} {xs : List Value} (h : RowOf w R t xs) (hb : Below B w w') (hB : R < B) : RowOf w' R t xs := h.kept (hb.block R hB)
theorem RowOf.cell {w : World} {R : Nat} {t : TypeId} {xs : List Value} (h : RowOf w R t xs) (i : Nat) : w.cell? ⟨R, i, none⟩ = xs[i]? := by unfold RowOf at h; simp [World.cell?, h]
theorem RowOf.frozen {w : World} {R : Nat} {t : TypeId} {xs : List Value} (h : RowOf w R t xs) (i : Nat) : w.frozen? ⟨R, i, none⟩ = false := by unfold RowOf at h; simp [World.frozen?, h]
theorem RowOf.set {w : World} {R : Nat} {t : TypeId} {xs : List Value} (h : RowOf w R t xs) (i : Nat) (v : Value) : RowOf (w.setCell ⟨R, i, none⟩ v) R t (xs.set i v) := by
  unfold RowOf at h ⊢
  simp only [World.setCell, Array.getElem?_modify, h, if_true, Option.map_some]
  simp
theorem rowOf_made {w' : World} {g n t : Nat} {xs : List Value} (h : w'.ownsRow 0 t 1 (.slice (some ⟨g, 0, none⟩) n n) n xs) : RowOf w' g t xs := by
  obtain ⟨h1, h2⟩ := h
  rcases h2 with ⟨h2, _⟩ | ⟨g', cap, cur, e, _, hg, _, _, hs, hx⟩
  · cases h2
  · injection e with e1 e2 e3
    injection e1 with e1
    injection e1 with e1 e4 e5
    subst e1
    subst e3
    rw [List.take_of_length_le (by simp; omega)] at hx
    subst hx
    exact hg
theorem made_ints (n : Nat) : (madeCells #[(Value.int .i64 0)] n).toList = List.replicate n (.int .i64 0) := by
  apply List.ext_getElem
  · simp [madeCells]
  · intro i h1 h2
    simp [madeCells, Nat.mod_one]
theorem info3 : (Try.prog.info? 3).map (fun i => (i.zero, i.size, i.bytes)) = some (some (.int .i64 0), 1, 8) := by kernel_rfl

def goodAll (l : List Vl) : Bool := l.all fun v => goodB v.1 v.2
theorem goodAll_at {l : List Vl} (h : goodAll l = true) (k : Nat) (hk : k < l.length) : goodB l[k].1 l[k].2 = true := List.all_eq_true.1 h _ (List.getElem_mem hk)
theorem goodAll_no {l : List Vl} (h : goodAll l = false) : ∃ k, ∃ hk : k < l.length, goodB l[k].1 l[k].2 = false := by
  unfold goodAll at h
  obtain ⟨v, hv, e⟩ := List.all_eq_false.1 h
  obtain ⟨k, hk, rfl⟩ := List.mem_iff_getElem.1 hv
  exact ⟨k, hk, by simpa using e⟩

/-- the row of numbers after k values -/
def numsTo (F vs : List Vl) (k : Nat) : List Value := ((vs.take k).map fun v => num (posOf F v)) ++ List.replicate (vs.length - k) (num 0)
theorem numsTo_zero (F vs : List Vl) : numsTo F vs 0 = List.replicate vs.length (.int .i64 0) := by simp [numsTo, num]
theorem numsTo_len (F vs : List Vl) (k : Nat) (h : k ≤ vs.length) : (numsTo F vs k).length = vs.length := by simp [numsTo]; omega
theorem numsTo_at (F vs : List Vl) (k : Nat) (h : k < vs.length) : (numsTo F vs k)[k]? = some (.int .i64 0) := by
  unfold numsTo
  have hl : ((vs.take k).map fun v => num (posOf F v)).length = k := by simp; omega
  rw [List.getElem?_append_right (by omega), hl, Nat.sub_self, List.getElem?_replicate, if_pos (by omega)]
  rfl
theorem numsTo_set (F vs : List Vl) (k : Nat) (h : k < vs.length) : (numsTo F vs k).set k (num (posOf F vs[k])) = numsTo F vs (k + 1) := by
  unfold numsTo
  have hl : ((vs.take k).map fun v => num (posOf F v)).length = k := by simp; omega
  rw [List.set_append_right _ _ (by omega), hl, Nat.sub_self, take_snocV vs k h, List.map_append, show vs.length - k = (vs.length - (k + 1)) + 1 by omega, List.replicate_succ]
  simp
theorem posOf_prefix {p F : List Vl} (h : p <+: F) (hn : F.Nodup) {v : Vl} (hv : v ∈ p) : posOf F v = posOf p v := by
  have h1 := posOf_lt hv
  have h2 := posOf_get hv
  have h3 : posOf p v < F.length := Nat.lt_of_lt_of_le h1 h.length_le
  have h4 : F[posOf p v] = v := by rw [← h.getElem h1]; exact h2
  have := posOf_of hn _ h3
  rw [h4] at this
  exact this
theorem take_prefix (l vs : List Vl) (k : Nat) : addAll l (vs.take k) <+: addAll l vs := by
  have : addAll l vs = addAll (addAll l (vs.take k)) (vs.drop k) := by rw [← addAll_append, List.take_append_drop]
  rw [this]; exact addAll_prefix _ _

set_option maxHeartbeats 1000000 in
set_option maxRecDepth 100000 in
theorem row_bad (w : World) (p : Option Addr) (q : Option Addr) (vs : List Vl) (c : Nat) (hv : Vals w w.heap.size q vs) (ho : OkAll vs) (hm : vs.length ≤ maxLen) (hg : goodAll vs = false) :
    Calls Try.prog 13 #[.pointer p, .slice q vs.length c] w fun e w' => e = .returned (.tuple #[.slice none 0 0, .int .i64 1]) ∧ Below w.heap.size w w' := by
  unfold maxLen at hm
  have HV := Lib.hid hv
  have HO := Lib.hid ho
  have HG := Lib.hid (goodAll_no hg)
  clear hv ho hg
  go_enter Try.func13, Try.ntmps13
  go_wp2_with fail
  go_loopw [13] (fun i wr => ∃ k : Nat, k ≤ vs.length ∧ i = .int .i64 k ∧ Hid (∀ j, (h : j < vs.length) → j < k → goodB vs[j].1 vs[j].2 = true) ∧ Below w.heap.size w wr) (fun i _ => vs.length - (intOf i).toNat)
  case atStart => exact ⟨0, Nat.zero_le _, rfl, Lib.hid (fun j _ h => by omega), Below.refl _ _⟩
  case round =>
    obtain ⟨k, hk, rfl, hgk, hb⟩ := hrel
    have HB := Lib.hid hb
    have hszr := hb.size
    clear hb
    by_cases hlt : k < vs.length
    · obtain ⟨b, off, rfl, hbl, x0, x1⟩ := (HV.out.below HB.out (Nat.le_refl _)).at k hlt
      have HOK := Lib.hid (HO.out.at k hlt)
      have hbr : b < wr.heap.size := by omega
      have HB1 := Lib.hid (HB.out.trans ((alloc_below wr (.cells #[.string vs[k].1, .int .i64 vs[k].2] 31)).mono HB.out.size))
      by_cases hgd : goodB vs[k].1 vs[k].2 = true
      · have HGK := Lib.hid (show ∀ j, (h : j < vs.length) → j < k + 1 → goodB vs[j].1 vs[j].2 = true from fun j h h2 => by
          rcases Nat.lt_or_ge j k with h3 | h3
          · exact hgk.out j h h3
          · obtain rfl : j = k := by omega
            exact hgd)
        clear hgk
        go_wp2_with (go_at_call 20; refine (good_any _ _ _ HOK.out.1).mono ?_; rintro e w1 ⟨rfl, hb1⟩)
        go_roundw
        case rel => exact ⟨k + 1, by omega, by go_num, HGK, HB1.out.trans (hb1.mono (by simp; omega))⟩
        case measure => simp [intOf]; omega
      · have hgd : goodB vs[k].1 vs[k].2 = false := by simpa using hgd
        clear hgk
        go_wp2_with (go_at_call 20; refine (good_any _ _ _ HOK.out.1).mono ?_; rintro e w1 ⟨rfl, hb1⟩)
        go_ret2
        exact ⟨rfl, HB1.out.trans (hb1.mono (by simp; omega))⟩
    · exfalso
      obtain ⟨j, hj, hjb⟩ := HG.out
      have := hgk.out j hj (by omega)
      rw [hjb] at this; cases this

set_option maxHeartbeats 1000000 in
set_option maxRecDepth 100000 in
theorem row_full (w : World) {pb bm : Nat} {sv : Value} {l : List Vl} (h : Pool w pb bm sv l) (q : Option Addr) (vs : List Vl) (c : Nat) (hv : Vals w w.heap.size q vs) (ho : OkAll vs) (hm : vs.length ≤ maxLen) (hg : goodAll vs = true) (hf : 4096 < (addAll l vs).length) :
    Calls Try.prog 13 #[.pointer (some ⟨pb, 0, none⟩), .slice q vs.length c] w fun e w' => e = .returned (.tuple #[.slice none 0 0, .int .i64 3]) ∧ Below w.heap.size w w' := by
  have hm0 := hm
  unfold maxLen at hm
  have hF : (4096 : Int) - l.length < (news l vs).length := by rw [addAll_news, List.length_append] at hf; omega
  have HP := Lib.hid h
  have HV := Lib.hid hv
  have HO := Lib.hid ho
  have HM := Lib.hid hm0
  have HG := Lib.hid hg
  clear h hv ho hg hm0 hf
  go_enter Try.func13, Try.ntmps13
  go_wp2_with fail
  go_loopw [13] (fun i wr => ∃ k : Nat, k ≤ vs.length ∧ i = .int .i64 k ∧ Below w.heap.size w wr) (fun i _ => vs.length - (intOf i).toNat)
  case atStart => exact ⟨0, Nat.zero_le _, rfl, Below.refl _ _⟩
  case round =>
    obtain ⟨k, hk, rfl, hb⟩ := hrel
    have HB := Lib.hid hb
    have hszr := hb.size
    clear hb
    by_cases hlt : k < vs.length
    · obtain ⟨b, off, rfl, hbl, x0, x1⟩ := (HV.out.below HB.out (Nat.le_refl _)).at k hlt
      have HOK := Lib.hid (HO.out.at k hlt)
      have hbr : b < wr.heap.size := by omega
      have HB1 := Lib.hid (HB.out.trans ((alloc_below wr (.cells #[.string vs[k].1, .int .i64 vs[k].2] 31)).mono HB.out.size))
      have hgd := goodAll_at HG.out k hlt
      go_wp2_with (go_at_call 20; refine (good_any _ _ _ HOK.out.1).mono ?_; rintro e w1 ⟨rfl, hb1⟩)
      go_roundw
      case rel => exact ⟨k + 1, by omega, by go_num, HB1.out.trans (hb1.mono (by simp; omega))⟩
      case measure => simp [intOf]; omega
    · go_wp2_with (first
        | (go_at_call 23; refine (unknown_any _ (HP.out.below HB.out) _ _ _ ((HV.out.below HB.out (Nat.le_refl _)).imp id (fun ⟨b, o, h1, h2, h3⟩ => ⟨b, o, h1, Nat.lt_of_lt_of_le h2 HB.out.size, h3⟩)) HO.out HM.out).mono ?_; rintro e w1 ⟨rfl, hb1⟩; have HB2 := Lib.hid (HB.out.trans (hb1.mono HB.out.size)); clear hb1)
        | (go_at_call 21; refine (room_any _ (HP.out.below HB2.out)).mono ?_; rintro e w' ⟨rfl, rfl⟩))
      go_ret2
      exact ⟨rfl, HB2.out⟩

theorem put_any (s : ByteArray) (n : Int) (w : World) (hg : goodB s n = true) {pb bm : Nat} {sv : Value} {l : List Vl} (h : Pool w pb bm sv l) (ho : Ok (s, n)) (hf : (addV l (s, n)).length ≤ 4096) :
    Calls Try.prog 8 #[.pointer (some ⟨pb, 0, none⟩), .agg #[.string s, .int .i64 n]] w fun e w' => e = .returned (.tuple #[.int .i64 (posOf (addV l (s, n)) (s, n)), .int .i64 0]) ∧ ∃ sv', Pool w' pb bm sv' (addV l (s, n)) ∧ Turned w w' pb bm sv sv' := by
  by_cases hin : (s, n) ∈ l
  · have e : addV l (s, n) = l := by unfold addV; rw [if_pos hin]
    rw [e]
    refine (put_in s n w hg h ho (posOf l (s, n)) (posOf_lt hin) (posOf_get hin)).mono ?_
    rintro e w' ⟨rfl, hb⟩
    exact ⟨rfl, sv, h.below hb, Turned.of_below _ _ _ hb⟩
  · have e : addV l (s, n) = l ++ [(s, n)] := by unfold addV; rw [if_neg hin]
    rw [e, List.length_append] at hf
    have hp : posOf (l ++ [(s, n)]) (s, n) = l.length := by
      have hn := addV_nodup h.n (s, n)
      rw [e] at hn
      have := posOf_of hn l.length (by simp)
      simpa using this
    rw [e, hp]
    exact put_new s n w hg h ho hin (by simp at hf; omega)

theorem row_step {w wr wb w3 : World} {pb bm R : Nat} {sv svk sv3 : Value} {L' : List Vl} {xs : List Value} (hP3 : Pool w3 pb bm sv3 L') (hT : Turned w wr pb bm sv svk) (hB : Below wr.heap.size wr wb) (hT3 : Turned wb w3 pb bm svk sv3) (hR : RowOf wr R 3 xs) (hO : Off pb bm svk R) (hw : w.heap.size ≤ R) (k : Nat) (v : Value) :
    w3.cell? ⟨R, k, none⟩ = xs[k]? ∧ w3.frozen? ⟨R, k, none⟩ = false ∧ Hid (Pool (w3.setCell ⟨R, k, none⟩ v) pb bm sv3 L' ∧ Turned w (w3.setCell ⟨R, k, none⟩ v) pb bm sv sv3 ∧ RowOf (w3.setCell ⟨R, k, none⟩ v) R 3 (xs.set k v) ∧ Off pb bm sv3 R) := by
  have hlt := hR.lt
  have hR3 : RowOf w3 R 3 xs := (hR.below hB hlt).kept (hT3.block R (Nat.lt_of_lt_of_le hlt hB.size) hO)
  have hO3 : Off pb bm sv3 R := ⟨hO.1, hO.2.1, fun e => (hT3.row R e).elim hO.2.2 (fun h => by have := hB.size; omega)⟩
  refine ⟨hR3.cell k, hR3.frozen k, ?_, ?_, hR3.set k v, hO3⟩
  · exact hP3.kept fun b _ hb => Below.heap_setCell _ _ _ _ (fun e => hb (by rw [e]; exact hO3))
  · have h1 := (hT.trans (Turned.of_below pb bm svk hB)).trans hT3
    refine ⟨h1.os, h1.tape, h1.output, by have := h1.size; simpa [World.setCell] using this, fun b hb ho => ?_, h1.row⟩
    rw [Below.heap_setCell _ _ _ _ (by simp; omega)]
    exact h1.block b hb ho

theorem vals_turned {w wr : World} {pb bm : Nat} {sv svk : Value} {q : Option Addr} {vs : List Vl} (hv : Vals w w.heap.size q vs) (hoff : ∀ b off, q = some ⟨b, off, none⟩ → Off pb bm sv b) (hT : Turned w wr pb bm sv svk) : Vals wr w.heap.size q vs := by
  rcases hv with h | ⟨b, off, rfl, hl, hc⟩
  · exact .inl h
  · refine .inr ⟨b, off, rfl, hl, fun i hi => ?_⟩
    have hk := hT.block b hl (hoff b off rfl)
    rw [World.cell?_of_block (w := w) (a := ⟨b, off + i * 2, none⟩) hk, World.cell?_of_block (w := w) (a := ⟨b, off + i * 2 + 1, none⟩) hk]
    exact hc i hi

set_option maxHeartbeats 4000000 in
set_option maxRecDepth 100000 in
theorem row_ok (w : World) {pb bm : Nat} {sv : Value} {l : List Vl} (h : Pool w pb bm sv l) (q : Option Addr) (vs : List Vl) (c : Nat) (hv : Vals w w.heap.size q vs) (hoff : ∀ b off, q = some ⟨b, off, none⟩ → Off pb bm sv b) (ho : OkAll vs) (hm : vs.length ≤ maxLen) (hm8 : vs.length * 8 ≤ 140737488355328) (hg : goodAll vs = true) (hf : (addAll l vs).length ≤ 4096) :
    Calls Try.prog 13 #[.pointer (some ⟨pb, 0, none⟩), .slice q vs.length c] w fun e w' => ∃ R sv', e = .returned (.tuple #[.slice (some ⟨R, 0, none⟩) vs.length vs.length, .int .i64 0]) ∧ Pool w' pb bm sv' (addAll l vs) ∧ Turned w w' pb bm sv sv' ∧ RowOf w' R 3 (vs.map fun v => num (posOf (addAll l vs) v)) ∧ w.heap.size ≤ R ∧ Off pb bm sv' R := by
  obtain ⟨i0, hi, hz0, hz1, hz2⟩ := info_parts info3
  have hm0 := hm
  unfold maxLen at hm
  have hF : ¬ (4096 : Int) - l.length < (news l vs).length := by rw [addAll_news, List.length_append] at hf; omega
  have HP := Lib.hid h
  have HV := Lib.hid hv
  have HOF := Lib.hid hoff
  have HO := Lib.hid ho
  have HM := Lib.hid hm0
  have HG := Lib.hid hg
  have HF := Lib.hid hf
  clear h hv ho hg hm0 hf hoff
  go_enter Try.func13, Try.ntmps13
  go_wp2_with fail
  go_loopw [13] (fun i wr => ∃ k : Nat, k ≤ vs.length ∧ i = .int .i64 k ∧ Below w.heap.size w wr) (fun i _ => vs.length - (intOf i).toNat)
  case atStart => exact ⟨0, Nat.zero_le _, rfl, Below.refl _ _⟩
  case round =>
    obtain ⟨k, hk, rfl, hb⟩ := hrel
    have HB := Lib.hid hb
    have hszr := hb.size
    clear hb
    by_cases hlt : k < vs.length
    · obtain ⟨b, off, rfl, hbl, x0, x1⟩ := (HV.out.below HB.out (Nat.le_refl _)).at k hlt
      have HOK := Lib.hid (HO.out.at k hlt)
      have hbr : b < wr.heap.size := by omega
      have HB1 := Lib.hid (HB.out.trans ((alloc_below wr (.cells #[.string vs[k].1, .int .i64 vs[k].2] 31)).mono HB.out.size))
      have hgd := goodAll_at HG.out k hlt
      go_wp2_with (go_at_call 20; refine (good_any _ _ _ HOK.out.1).mono ?_; rintro e w1 ⟨rfl, hb1⟩)
      go_roundw
      case rel => exact ⟨k + 1, by omega, by go_num, HB1.out.trans (hb1.mono (by simp; omega))⟩
      case measure => simp [intOf]; omega
    · go_wp2_with (first
        | (go_at_call 23; refine (unknown_any _ (HP.out.below HB.out) _ _ _ ((HV.out.below HB.out (Nat.le_refl _)).imp id (fun ⟨b, o, h1, h2, h3⟩ => ⟨b, o, h1, Nat.lt_of_lt_of_le h2 HB.out.size, h3⟩)) HO.out HM.out).mono ?_; rintro e w1 ⟨rfl, hb1⟩; have HB2 := Lib.hid (HB.out.trans (hb1.mono HB.out.size)); clear hb1)
        | (go_at_call 21; refine (room_any _ (HP.out.below HB2.out)).mono ?_; rintro e w' ⟨rfl, rfl⟩)
        | (at_make; refine wpList_make_full _ rfl _ _ 27 rfl 0 3 i0 (.int .i64 0) 1 Try.underlying27 hi hz0 hz1 .i64 .i64 _ _ vs.length rfl rfl rfl rfl (by rw [hz2]; omega) HM.out (Nat.zero_le _) ?_; intro w2 hown0 hgrow0; have HOW := Lib.hid hown0; have HGR := Lib.hid hgrow0; clear hown0 hgrow0))
      have hBw2 : Below w.heap.size w w2 := HB2.out.grown HGR.out HB2.out.size (fun k hk => by cases hk)
      have hR0 : RowOf w2 w1.heap.size 3 (numsTo (addAll l vs) vs 0) := by
        rw [numsTo_zero]
        have := rowOf_made HOW.out
        rwa [Nat.mul_one, show (Value.int .i64 0).cells = #[.int .i64 0] from rfl, made_ints] at this
      have hsz1 := HB2.out.size
      have hO0 : Off pb bm sv w1.heap.size := ⟨by have := HP.out.lt; omega, by have := HP.out.mlt; omega, fun e => by have := HP.out.rlt _ e; omega⟩
      have HS := Lib.hid (show Pool w2 pb bm sv (addAll l (vs.take 0)) ∧ Turned w w2 pb bm sv sv ∧ RowOf w2 w1.heap.size 3 (numsTo (addAll l vs) vs 0) ∧ Off pb bm sv w1.heap.size from ⟨HP.out.below hBw2, Turned.of_below pb bm sv hBw2, hR0, hO0⟩)
      generalize hRR : w1.heap.size = R at *
      clear hBw2 hR0 hO0 HOW HGR HB2 HB hszr hF
      go_loopw [32] (fun i wx => ∃ (k : Nat) (svk : Value), k ≤ vs.length ∧ i = .int .i64 k ∧ Hid (Pool wx pb bm svk (addAll l (vs.take k)) ∧ Turned w wx pb bm sv svk ∧ RowOf wx R 3 (numsTo (addAll l vs) vs k) ∧ Off pb bm svk R)) (fun i _ => vs.length - (intOf i).toNat)
      case atStart => exact ⟨0, sv, Nat.zero_le _, rfl, HS⟩
      case round =>
        obtain ⟨k, svk, hk, rfl, hs⟩ := hrel
        clear HS
        have HK := Lib.hid hs.out
        clear hs
        by_cases hlt : k < vs.length
        · obtain ⟨b, off, rfl, hbl, x0, x1⟩ := (vals_turned HV.out HOF.out HK.out.2.1).at k hlt
          have HOK := Lib.hid (HO.out.at k hlt)
          have hszx := HK.out.2.1.size
          have hgd := goodAll_at HG.out k hlt
          have hRl := HK.out.2.2.1.lt
          have hadd : addAll l (vs.take (k + 1)) = addV (addAll l (vs.take k)) vs[k] := by rw [take_snocV vs k hlt, addAll_snoc]
          have hle : (addV (addAll l (vs.take k)) vs[k]).length ≤ 4096 := by rw [← hadd]; exact Nat.le_trans (take_prefix l vs (k + 1)).length_le HF.out
          have hpos : posOf (addV (addAll l (vs.take k)) vs[k]) vs[k] = posOf (addAll l vs) vs[k] := by
            rw [← hadd]
            exact (posOf_prefix (take_prefix l vs (k + 1)) (addAll_nodup HP.out.n vs) ((mem_addAll _ _ _).2 (.inr (by rw [take_snocV vs k hlt]; exact List.mem_append_right _ (List.mem_singleton.2 rfl))))).symm
          have HADD := Lib.hid hadd
          have HPOS := Lib.hid hpos
          have HLE := Lib.hid hle
          have hbx : b < _ := Nat.lt_of_lt_of_le hbl hszx
          clear hadd hpos hle
          go_wp2_with fail
          refine (put_any _ _ _ hgd (HK.out.1.alloc _) HOK.out HLE.out).mono ?_
          rintro e w3 ⟨rfl, sv3, hp3, ht3⟩
          rw [HPOS.out]
          obtain ⟨y0, y1, hy⟩ := row_step hp3 HK.out.2.1 (alloc_below _ _) ht3 HK.out.2.2.1 HK.out.2.2.2 hsz1 k (num (posOf (addAll l vs) vs[k]))
          rw [numsTo_at _ _ _ hlt] at y0
          rw [numsTo_set _ _ _ hlt, ← HADD.out] at hy
          unfold num at hy
          clear hp3 ht3
          go_wp2_with fail
          go_roundw
          case rel => exact ⟨k + 1, sv3, by omega, by go_num, hy⟩
          case measure => simp [intOf]; omega
        · obtain rfl : k = vs.length := by omega
          go_wp2_with fail
          go_ret2
          refine ⟨R, svk, rfl, ?_⟩
          have h := HK.out
          rw [List.take_length] at h
          refine ⟨h.1, h.2.1, ?_, hsz1, h.2.2.2⟩
          have h3 := h.2.2.1
          unfold numsTo at h3
          rw [List.take_length, Nat.sub_self, List.replicate_zero, List.append_nil] at h3
          exact h3
end Go.Proofs.Ytdoadclblloddaa
