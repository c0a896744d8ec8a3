/-
  Contract: the reference's Row.
-/
import Derived.Test.YtdoadclblloddaaRefF
namespace Go.Proofs.Ytdoadclblloddaa
open Go.RowKit Go.Maps Go.WideMaps
open BackLaw (addAll_len)

theorem own_below {w w' : World} {base e size n : Nat} {v : Value} {xs : List Value} (h : w.ownsRow base e size v n xs) (hb : Below w.heap.size w w') : w'.ownsRow base e size v n xs :=
  h.kept (row := none) ⟨hb.os, hb.tape, hb.output, hb.size, fun k hk _ => hb.block k hk⟩ (by cases hv : v.ownBlock <;> simp)
theorem own_vals {w : World} {base : Nat} {v : Value} {l : List Vl} (h : w.ownsRow base 31 2 v l.length (flatV l)) : ∃ q c, v = .slice q l.length c ∧ Vals w w.heap.size q l ∧ ∀ b off, q = some ⟨b, off, none⟩ → base ≤ b := by
  obtain ⟨_, h2⟩ := id h
  rcases h2 with ⟨rfl, e⟩ | ⟨g, cap, cur, rfl, hb, hg, _⟩
  · exact ⟨none, 0, by rw [e], .inl (List.length_eq_zero_iff.1 e), fun b off h => by cases h⟩
  · refine ⟨_, cap, rfl, .inr ⟨g, 0, rfl, (Array.getElem?_eq_some_iff.1 hg).1, fun i hi => ?_⟩, fun b off e => by cases e; exact hb⟩
    obtain ⟨p, q⟩ := flatV_get l i hi
    have c1 := h.cells (g := g) rfl (i * 2) _ p
    have c2 := h.cells (g := g) rfl (i * 2 + 1) _ q
    rw [Addr.add_lit] at c1 c2
    exact ⟨c1, c2⟩
theorem own_ints {w : World} {base : Nat} {v : Value} {ks : List Nat} (h : w.ownsRow base 3 1 v ks.length (ks.map num)) : ∃ q c, v = .slice q ks.length c ∧ Ints w w.heap.size q (ints ks) := by
  obtain ⟨_, h2⟩ := id h
  rcases h2 with ⟨rfl, e⟩ | ⟨g, cap, cur, rfl, hb, hg, _⟩
  · exact ⟨none, 0, by rw [e], .inl (by rw [List.length_eq_zero_iff.1 e]; rfl)⟩
  · refine ⟨_, cap, rfl, .inr ⟨g, 0, rfl, (Array.getElem?_eq_some_iff.1 hg).1, fun i hi => ?_⟩⟩
    have hi' : i < ks.length := by simpa [ints] using hi
    have c1 := h.cells (g := g) rfl i (num ks[i]) (by rw [List.getElem?_map, List.getElem?_eq_getElem hi']; rfl)
    rw [Addr.add_lit] at c1
    rw [c1]; simp [num, ints]
/-- rows of unlike elements are unlike -/
theorem own_apart {w : World} {b1 b2 n m : Nat} {u v : Value} {xs ys : List Value} (h1 : w.ownsRow b1 31 2 u n xs) (h2 : w.ownsRow b2 3 1 v m ys) : (v.ownBlock = none ∨ v.ownBlock ≠ u.ownBlock) ∧ (u.ownBlock = none ∨ u.ownBlock ≠ v.ownBlock) := by
  obtain ⟨_, h1⟩ := h1
  obtain ⟨_, h2⟩ := h2
  rcases h1 with ⟨rfl, _⟩ | ⟨g, c, cur, rfl, _, hg, _⟩
  · refine ⟨?_, .inl rfl⟩
    cases hv : v.ownBlock
    · exact .inl rfl
    · right; simp [Value.ownBlock]
  · rcases h2 with ⟨rfl, _⟩ | ⟨g', c', cur', rfl, _, hg', _⟩
    · exact ⟨.inl rfl, .inr (by simp [Value.ownBlock])⟩
    · have hne : g ≠ g' := by
        rintro rfl
        rw [hg] at hg'; cases hg'
      exact ⟨.inr (by simp [Value.ownBlock]; exact fun e => hne e.symm), .inr (by simp [Value.ownBlock]; exact hne)⟩

/-- the copy at the append, which may be appended to -/
theorem wpList_copy_own (w : World) {ops : Array Oper} {rest : List Oper} {o : Oper} {a : Act} {Q : Exit → Act → World → Prop} (hgd : o.guard = none) (s x : Operand)
    (ho : o.op = .call { callee := .builtin .append, args := #[s, x], argTypes := #[26, 26] }) (B : Nat) (hs : a.eval s = .slice (some ⟨B, 0, none⟩) 0 0) (hB : RowOf w B 31 [])
    (q : Option Addr) (vs : List Vl) (c : Nat) (hx : a.eval x = .slice q vs.length c) {B0 : Nat} (hv : Vals w B0 q vs) (hm : vs.length * 24 ≤ 140737488355328)
    (h : ∀ v w', w'.ownsRow B 31 2 v vs.length (flatV vs) → Below B w w' → wpList Try.prog ops Q rest (a.put o.dst v) w') : wpList Try.prog ops Q (o :: rest) a w := by
  have hown : w.ownsRow B 31 2 (.slice (some ⟨B, 0, none⟩) 0 0) 0 [] := ⟨rfl, .inr ⟨B, 0, #[], rfl, Nat.le_refl _, hB, Nat.le_refl _, by unfold maxLen; omega, rfl, rfl⟩⟩
  rcases Nat.eq_zero_or_pos vs.length with h0 | h0
  · have he : vs = [] := List.length_eq_zero_iff.1 h0
    subst he
    refine wpList_plain hgd fun K hK => ?_
    have hrun := run_append_zero w o.type B q c
    have hK2 := hK _ _ (h _ w hown (Below.refl _ _))
    unfold Oper.wp execOp
    simp only [List.length_nil] at hx hK2
    simp only [ho, resolve, invoke, builtin, Sem.run_bind, Sem.run_pure, Result.andThen_ok, List.map_toArray, List.map_cons, List.map_nil, hs, hx, hrun]
    exact hK2
  · obtain ⟨i0, hi, hz0, hz1, hz2⟩ := info_parts info31
    obtain ⟨b, off, rfl, hc⟩ := vals_cells h0 hv
    refine wpList_append_lies w hgd s x 26 ho B 31 i0 _ 2 24 Try.underlying26 hi hz0 hz1 hz2 rfl (by omega) _ 0 [] hs hown ⟨b, off, none⟩ vs.length c (flatV vs) hx (flatV_length vs) hc (flatV_one vs) h0 (by unfold maxLen; omega) (by omega) (Nat.le_of_lt hB.lt) _ rfl ?_
    intro g cap w' hw hg hat hlt
    rw [Nat.zero_add, List.nil_append] at hw
    rw [Nat.zero_add]
    exact h _ w' hw ((Below.refl _ _).grown hg (Nat.le_of_lt hB.lt) (fun k hk => by simp [Value.ownBlock] at hk; omega))

set_option maxHeartbeats 1000000 in
set_option maxRecDepth 100000 in
theorem refrow_bad (w : World) (p : Option Addr) (n0 c0 : Nat) (q : Option Addr) (vs : List Vl) (c : Nat) (hv : Vals w w.heap.size q vs) (ho : OkAll vs) (hm : vs.length ≤ maxLen) (hg : goodAll vs = false) :
    Calls Try.prog 9 #[.slice p n0 c0, .slice q vs.length c] w fun e w' => e = .returned (.tuple #[.slice p n0 c0, .slice none 0 0, .int .i64 1]) ∧ Below w.heap.size w w' := by
  unfold maxLen at hm
  have HV := Lib.hid hv
  have HO := Lib.hid ho
  have HG := Lib.hid (goodAll_no hg)
  clear hv ho hg
  go_enter Try.func9, Try.ntmps9
  go_wp2_with fail
  go_loopw [7] (fun i wr => ∃ k : Nat, k ≤ vs.length ∧ i = .int .i64 k ∧ Hid (∀ j, (h : j < vs.length) → j < k → goodB vs[j].1 vs[j].2 = true) ∧ Below w.heap.size w wr) (fun i _ => vs.length - (intOf i).toNat)
  case atStart => exact ⟨0, Nat.zero_le _, rfl, Lib.hid (fun j _ h => by omega), Below.refl _ _⟩
  case round =>
    obtain ⟨k, hk, rfl, hgk, hb⟩ := hrel
    have HB := Lib.hid hb
    have hszr := hb.size
    clear hb
    by_cases hlt : k < vs.length
    · obtain ⟨b, off, rfl, hbl, x0, x1⟩ := (HV.out.below HB.out (Nat.le_refl _)).at k hlt
      have HOK := Lib.hid (HO.out.at k hlt)
      have hbr : b < wr.heap.size := by omega
      by_cases hgd : goodB vs[k].1 vs[k].2 = true
      · have HGK := Lib.hid (show ∀ j, (h : j < vs.length) → j < k + 1 → goodB vs[j].1 vs[j].2 = true from fun j h h2 => by
          rcases Nat.lt_or_ge j k with h3 | h3
          · exact hgk.out j h h3
          · obtain rfl : j = k := by omega
            exact hgd)
        clear hgk
        go_wp2_with (go_at_call 19; refine (refgood_any _ _ _ HOK.out.1).mono ?_; rintro e w1 ⟨rfl, hb1⟩)
        go_roundw
        case rel => exact ⟨k + 1, by omega, by go_num, HGK, HB.out.trans (hb1.mono (by omega))⟩
        case measure => simp [intOf]; omega
      · have hgd : goodB vs[k].1 vs[k].2 = false := by simpa using hgd
        clear hgk
        go_wp2_with (go_at_call 19; refine (refgood_any _ _ _ HOK.out.1).mono ?_; rintro e w1 ⟨rfl, hb1⟩)
        go_ret3
        exact ⟨rfl, HB.out.trans (hb1.mono (by omega))⟩
    · exfalso
      obtain ⟨j, hj, hjb⟩ := HG.out
      have := hgk.out j hj (by omega)
      rw [hjb] at this; cases this

def posTo (F vs : List Vl) (k : Nat) : List Nat := (vs.take k).map fun v => posOf F v
theorem posTo_len (F vs : List Vl) (k : Nat) (h : k ≤ vs.length) : (posTo F vs k).length = k := by simp [posTo]; omega
theorem posTo_succ (F vs : List Vl) (k : Nat) (h : k < vs.length) : posTo F vs (k + 1) = posTo F vs k ++ [posOf F vs[k]] := by
  unfold posTo; rw [take_snocV vs k h, List.map_append]; rfl

/-- what holds at the head of the second loop's rounds -/
def RefInv (w : World) (Bn : Nat) (l vs : List Vl) (k : Nat) (u v : Value) (wr : World) : Prop :=
  wr.ownsRow Bn 31 2 u (addAll l (vs.take k)).length (flatV (addAll l (vs.take k))) ∧ wr.ownsRow Bn 3 1 v k ((posTo (addAll l vs) vs k).map num) ∧ Below w.heap.size w wr

set_option maxHeartbeats 16000000 in
set_option maxRecDepth 100000 in
theorem refrow_good (w : World) (p : Option Addr) (l : List Vl) (c0 : Nat) (q : Option Addr) (vs : List Vl) (c : Nat) (hl : Vals w w.heap.size p l) (hn : l.Nodup) (hll : l.length ≤ 4096) (hv : Vals w w.heap.size q vs) (ho : OkAll vs) (hm : vs.length ≤ 50) (hg : goodAll vs = true) :
    Calls Try.prog 9 #[.slice p l.length c0, .slice q vs.length c] w fun e w' => Below w.heap.size w w' ∧
      ((4096 < (addAll l vs).length ∧ e = .returned (.tuple #[.slice p l.length c0, .slice none 0 0, .int .i64 3])) ∨
       ((addAll l vs).length ≤ 4096 ∧ ∃ u v, e = .returned (.tuple #[u, v, .int .i64 0]) ∧ w'.ownsRow w.heap.size 31 2 u (addAll l vs).length (flatV (addAll l vs)) ∧ w'.ownsRow w.heap.size 3 1 v vs.length ((posTo (addAll l vs) vs vs.length).map num))) := by
  obtain ⟨i0, hi, hz0, hz1, hz2⟩ := info_parts info31
  obtain ⟨i3, hi3, hy0, hy1, hy2⟩ := info_parts info3
  have HL := Lib.hid hl
  have HN := Lib.hid hn
  have HV := Lib.hid hv
  have HO := Lib.hid ho
  have HG := Lib.hid hg
  clear hl hn hv ho hg
  go_enter Try.func9, Try.ntmps9
  go_wp2_with fail
  go_loopw [7] (fun i wr => ∃ k : Nat, k ≤ vs.length ∧ i = .int .i64 k ∧ Below w.heap.size w wr) (fun i _ => vs.length - (intOf i).toNat)
  case atStart => exact ⟨0, Nat.zero_le _, rfl, Below.refl _ _⟩
  case round =>
    obtain ⟨k, hk, rfl, hb⟩ := hrel
    have HB := Lib.hid hb
    have hszr := hb.size
    clear hb
    by_cases hlt : k < vs.length
    · obtain ⟨b, off, rfl, hbl, x0, x1⟩ := (HV.out.below HB.out (Nat.le_refl _)).at k hlt
      have HOK := Lib.hid (HO.out.at k hlt)
      have hbr : b < wr.heap.size := by omega
      have hgd := goodAll_at HG.out k hlt
      go_wp2_with (go_at_call 19; refine (refgood_any _ _ _ HOK.out.1).mono ?_; rintro e w1 ⟨rfl, hb1⟩)
      go_roundw
      case rel => exact ⟨k + 1, by omega, by go_num, HB.out.trans (hb1.mono (by omega))⟩
      case measure => simp [intOf]; omega
    · go_wp2_with (at_builtin; refine wpList_copy_own _ rfl _ _ rfl wr.heap.size rfl (row_new wr [] 31) p l c0 rfl (HL.out.below (HB.out.alloc hszr _) (Nat.le_refl _)) (by omega) ?_; intro u w2 hown hbc; have HU := Lib.hid hown; have HB2 := Lib.hid (HB.out.trans ((BackLaw.below_copy _ hbc).mono hszr)); have hB2z := (BackLaw.below_copy _ hbc).size; clear hown hbc)
      have hI0 : RefInv w wr.heap.size l vs 0 u (.slice none 0 0) w2 := ⟨by rw [List.take_zero]; exact HU.out, World.ownsRow_nil _ _ _ _, HB2.out⟩
      have HI0 := Lib.hid hI0
      have hB2s : wr.heap.size ≤ w2.heap.size := hB2z
      generalize hBn : wr.heap.size = Bn at *
      clear hI0 HU HB2 HB
      go_wp2_with fail
      go_loopw [8, 9, 10] (fun u v i wx => ∃ k : Nat, k ≤ vs.length ∧ i = .int .i64 k ∧ Hid (RefInv w Bn l vs k u v wx ∧ Bn ≤ wx.heap.size)) (fun _ _ i _ => vs.length - (intOf i).toNat)
      case atStart => exact ⟨0, Nat.zero_le _, rfl, HI0.out, hB2s⟩
      case round =>
        obtain ⟨j, hj, rfl, hi⟩ := hrel
        obtain ⟨hI, hBs⟩ := hi.out
        have HU := Lib.hid hI.1
        have HW := Lib.hid hI.2.1
        have HB := Lib.hid hI.2.2
        have hszx := hI.2.2.size
        clear hi hI HI0
        have hml : (addAll l (vs.take j)).length ≤ 4146 := by
          have := addAll_len l (vs.take j)
          have h2 : (vs.take j).length ≤ vs.length := by simp; omega
          omega
        by_cases hlt : j < vs.length
        · obtain ⟨b, off, rfl, hbl, x0, x1⟩ := (HV.out.below HB.out (Nat.le_refl _)).at j hlt
          have HOK := Lib.hid (HO.out.at j hlt)
          have hnd := addAll_nodup HN.out (vs.take j)
          have hadd : addAll l (vs.take (j + 1)) = addV (addAll l (vs.take j)) vs[j] := by rw [take_snocV vs j hlt, addAll_snoc]
          have hpos : posOf (addV (addAll l (vs.take j)) vs[j]) vs[j] = posOf (addAll l vs) vs[j] := by
            rw [← hadd]
            exact (posOf_prefix (take_prefix l vs (j + 1)) (addAll_nodup HN.out vs) ((mem_addAll _ _ _).2 (.inr (by rw [take_snocV vs j hlt]; exact List.mem_append_right _ (List.mem_singleton.2 rfl))))).symm
          have hpt := posTo_succ (addAll l vs) vs j hlt
          have HADD := Lib.hid hadd
          have HPOS := Lib.hid hpos
          have HPT := Lib.hid hpt
          have hbx : b < wr.heap.size := by omega
          obtain ⟨qu, cu, rfl, hVu, hbu⟩ := own_vals HU.out
          have hpl := posTo_len (addAll l vs) vs j hj
          obtain ⟨m, hm2⟩ : ∃ m, m = addAll l (vs.take j) := ⟨_, rfl⟩
          rw [← hm2] at hml hnd hVu HU HADD HPOS ⊢
          clear hadd hpos hpt hm2
          have HVU := Lib.hid hVu
          clear hVu
          by_cases hin : vs[j] ∈ m
          · have hav : addV m vs[j] = m := by unfold addV; rw [if_pos hin]
            rw [hav] at HADD HPOS
            have hf : findI m (vs[j].1, vs[j].2) = ((posOf m vs[j] : Nat) : Int) := by unfold findI; rw [if_pos hin]
            have HF := Lib.hid hf
            clear hav hf hin
            go_wp2_with fail
            refine (reffind_any qu m cu vs[j].1 vs[j].2 _ HVU.out (by unfold maxLen; omega)).mono ?_
            rintro e w3 ⟨rfl, hb3⟩
            rw [HF.out]
            have HU3 := Lib.hid (own_below HU.out hb3)
            have HW3 := Lib.hid (own_below HW.out hb3)
            have HB3 := Lib.hid (HB.out.trans (hb3.mono hszx))
            have hs3 := hb3.size
            have y0 : w3.cell? ⟨b, off + j * 2, none⟩ = some (.string vs[j].1) := by rw [hb3.cell (p := ⟨b, off + j * 2, none⟩) hbx]; exact x0
            have y1 : w3.cell? ⟨b, off + j * 2 + 1, none⟩ = some (.int .i64 vs[j].2) := by rw [hb3.cell (p := ⟨b, off + j * 2 + 1, none⟩) hbx]; exact x1
            have hbx3 : b < w3.heap.size := by omega
            have HV3 := Lib.hid ((HVU.out.below hb3 (Nat.le_refl _)).up hs3)
            clear hb3 x0 x1 HU HW HB HVU
            go_wp2_with fail
            refine (reffind_any qu m cu vs[j].1 vs[j].2 _ HV3.out (by unfold maxLen; omega)).mono ?_
            rintro e w4 ⟨rfl, hb4⟩
            rw [HF.out, HPOS.out]
            have HU4 := Lib.hid (own_below HU3.out hb4)
            have HW4 := Lib.hid (own_below HW3.out hb4)
            have HB4 := Lib.hid (HB3.out.trans (hb4.mono (Nat.le_trans hszx hs3)))
            have hs4 := hb4.size
            clear hb4 y0 y1 HU3 HW3 HB3 HV3
            go_wp2_with (at_builtin; refine wpList_append_lies _ rfl _ _ 27 rfl Bn 3 i3 _ 1 8 Try.underlying27 hi3 hy0 hy1 hy2 rfl (by omega) _ j ((posTo (addAll l vs) vs j).map num) rfl (HW4.out.alloc _) ⟨w4.heap.size, 0, none⟩ 1 1 [num (posOf (addAll l vs) vs[j])] rfl rfl (World.news_of_block (cs := #[num (posOf (addAll l vs) vs[j])]) (t := 3) (fr := (0, 0)) (MapKept.heap_alloc _ _).1) (by intro u hu; simp at hu; subst hu; rfl) (by omega) (by unfold maxLen; omega) (by omega) (by simp; omega) _ rfl ?_; intro g cap w5 hown hgrow hat hlt3)
            have hap := own_apart HU4.out HW4.out
            have HU5 := Lib.hid ((HU4.out.alloc (.cells #[.int .i64 (posOf (addAll l vs) vs[j] : Nat)] 3)).kept hgrow hap.2)
            have HW5 := Lib.hid hown
            have HB5 := Lib.hid ((HB4.out.alloc (by omega) _).grown hgrow (by simp; omega) (fun k hk => by have := (HW4.out.lt k hk).1; omega))
            have hs5 := hgrow.size
            clear hown hgrow hat hap
            go_roundw
            case rel => exact ⟨j + 1, by omega, by go_num, ⟨by rw [HADD.out]; exact HU5.out, by rw [HPT.out, List.map_append]; exact HW5.out, HB5.out⟩, by simp at hs5; omega⟩
            case measure => simp [intOf]; omega
          · have hav : addV m vs[j] = m ++ [vs[j]] := by unfold addV; rw [if_neg hin]
            rw [hav] at HADD HPOS
            have hf : findI m (vs[j].1, vs[j].2) = -1 := by unfold findI; rw [if_neg hin]
            have hf2 : findI (m ++ [vs[j]]) (vs[j].1, vs[j].2) = ((posOf (m ++ [vs[j]]) vs[j] : Nat) : Int) := by unfold findI; rw [if_pos (by simp)]
            have HF := Lib.hid hf
            have HF2 := Lib.hid hf2
            clear hav hf hf2 hin
            go_wp2_with fail
            refine (reffind_any qu m cu vs[j].1 vs[j].2 _ HVU.out (by unfold maxLen; omega)).mono ?_
            rintro e w3 ⟨rfl, hb3⟩
            rw [HF.out]
            have HU3 := Lib.hid (own_below HU.out hb3)
            have HW3 := Lib.hid (own_below HW.out hb3)
            have HB3 := Lib.hid (HB.out.trans (hb3.mono hszx))
            have hs3 := hb3.size
            have y0 : w3.cell? ⟨b, off + j * 2, none⟩ = some (.string vs[j].1) := by rw [hb3.cell (p := ⟨b, off + j * 2, none⟩) hbx]; exact x0
            have y1 : w3.cell? ⟨b, off + j * 2 + 1, none⟩ = some (.int .i64 vs[j].2) := by rw [hb3.cell (p := ⟨b, off + j * 2 + 1, none⟩) hbx]; exact x1
            have hbx3 : b < w3.heap.size := by omega
            clear hb3 x0 x1 HU HW HB HVU
            go_wp2_with (at_builtin; refine wpList_append_lies _ rfl _ _ 26 rfl Bn 31 i0 _ 2 24 Try.underlying26 hi hz0 hz1 hz2 rfl (by omega) (.slice qu m.length cu) m.length (flatV m) rfl (HU3.out.alloc _) ⟨w3.heap.size, 0, none⟩ 1 1 (encV vs[j]) rfl rfl (World.news_of_block (cs := #[.string vs[j].1, .int .i64 vs[j].2]) (t := 31) (fr := (0, 0)) (MapKept.heap_alloc _ _).1) (by intro u hu; simp [encV] at hu; rcases hu with rfl | rfl <;> rfl) (by omega) (by unfold maxLen; omega) (by omega) (by simp; omega) _ rfl ?_; intro g cap w5 hown hgrow hat hlt3; have HG5 := Lib.hid hgrow; have HU5 := Lib.hid hown; have z0 : w5.cell? ⟨b, off + j * 2, none⟩ = some (.string vs[j].1) := (by rw [hgrow.cell_far ⟨b, off + j * 2, none⟩ (by simp; omega) (fun e => by have := (HU3.out.lt b e.symm).1; omega), World.cell?_of_block (w := w3) (a := ⟨b, off + j * 2, none⟩) (Below.heap_alloc _ _ _ hbx3)]; exact y0); have z1 : w5.cell? ⟨b, off + j * 2 + 1, none⟩ = some (.int .i64 vs[j].2) := (by rw [hgrow.cell_far ⟨b, off + j * 2 + 1, none⟩ (by simp; omega) (fun e => by have := (HU3.out.lt b e.symm).1; omega), World.cell?_of_block (w := w3) (a := ⟨b, off + j * 2 + 1, none⟩) (Below.heap_alloc _ _ _ hbx3)]; exact y1); have hs5 := hgrow.size; clear hown hgrow hat)
            have hap := own_apart HU3.out HW3.out
            have HW5 := Lib.hid ((HW3.out.alloc (.cells #[.string vs[j].1, .int .i64 vs[j].2] 31)).kept HG5.out hap.1)
            have HB5 := Lib.hid ((HB3.out.alloc (by omega) _).grown HG5.out (by simp; omega) (fun k hk => by have := (HU3.out.lt k hk).1; omega))
            clear hap HG5
            have hU5 := HU5.out
            rw [← flatV_snoc, show m.length + 1 = (m ++ [vs[j]]).length by simp] at hU5
            have hV5 : Vals w5 w5.heap.size (some ⟨g, 0, none⟩) (m ++ [vs[j]]) := by
              obtain ⟨q', c', e, hV, _⟩ := own_vals hU5
              injection e with e1 e2 e3
              rw [e1]; exact hV
            have hfd := reffind_any (some ⟨g, 0, none⟩) (m ++ [vs[j]]) cap vs[j].1 vs[j].2 w5 hV5 (by unfold maxLen; simp; omega)
            rw [HF2.out, HPOS.out, List.length_append, List.length_singleton] at hfd
            have HFD := Lib.hid hfd
            have HU6 := Lib.hid hU5
            have hbx5 : b < w5.heap.size := by simp at hs5; omega
            clear hfd hU5 hV5 HU5 HU3 HW3 HB3 y0 y1
            refine HFD.out.mono ?_
            rintro e w4 ⟨rfl, hb4⟩
            have HU4 := Lib.hid (own_below HU6.out hb4)
            have HW4 := Lib.hid (own_below HW5.out hb4)
            have hsw5 : Bn ≤ w5.heap.size := by simp at hs5; omega
            have hsw6 : w.heap.size ≤ w5.heap.size := by simp at hs5; omega
            have HB4 := Lib.hid (HB5.out.trans (hb4.mono hsw6))
            have hs4 := hb4.size
            clear hb4 z0 z1 HU6 HW5 HB5 HFD
            go_wp2_with (at_builtin; refine wpList_append_lies _ rfl _ _ 27 rfl Bn 3 i3 _ 1 8 Try.underlying27 hi3 hy0 hy1 hy2 rfl (by omega) _ j ((posTo (addAll l vs) vs j).map num) rfl (HW4.out.alloc _) ⟨w4.heap.size, 0, none⟩ 1 1 [num (posOf (addAll l vs) vs[j])] rfl rfl (World.news_of_block (cs := #[num (posOf (addAll l vs) vs[j])]) (t := 3) (fr := (0, 0)) (MapKept.heap_alloc _ _).1) (by intro u hu; simp at hu; subst hu; rfl) (by omega) (by unfold maxLen; omega) (by omega) (by simp; omega) _ rfl ?_; intro g2 cap2 w6 hown hgrow hat hlt3)
            have hap := own_apart HU4.out HW4.out
            have HU7 := Lib.hid ((HU4.out.alloc (.cells #[.int .i64 (posOf (addAll l vs) vs[j] : Nat)] 3)).kept hgrow hap.2)
            have HW7 := Lib.hid hown
            have HB7 := Lib.hid ((HB4.out.alloc (by omega) _).grown hgrow (by simp; omega) (fun k hk => by have := (HW4.out.lt k hk).1; omega))
            have hs7 := hgrow.size
            clear hown hgrow hat hap
            go_roundw
            case rel => exact ⟨j + 1, by omega, by go_num, ⟨by rw [HADD.out]; exact (by simpa using HU7.out), by rw [HPT.out, List.map_append]; exact HW7.out, HB7.out⟩, by simp at hs7; omega⟩
            case measure => simp [intOf]; omega
        · obtain rfl : j = vs.length := by omega
          rw [List.take_length] at HU hml
          have HUw := Lib.hid HU.out
          obtain ⟨qu, cu, rfl, _, _⟩ := own_vals HU.out
          have hBw : w.heap.size ≤ Bn := by omega
          have hmb : ∀ {e sz n : Nat} {v : Value} {xs : List Value}, wr.ownsRow Bn e sz v n xs → wr.ownsRow w.heap.size e sz v n xs := fun h => ⟨h.1, h.2.imp id (fun ⟨g, c, cur, h1, h2, h3⟩ => ⟨g, c, cur, h1, Nat.le_trans hBw h2, h3⟩)⟩
          have HU8 := Lib.hid (hmb HUw.out)
          have HW8 := Lib.hid (hmb HW.out)
          clear hmb HU HUw HW
          by_cases hf : 4096 < (addAll l vs).length
          · have hfi : (4096 : Int) < (addAll l vs).length := by omega
            go_wp2_with fail
            go_ret3
            exact ⟨HB.out, .inl ⟨hf, rfl⟩⟩
          · have hfi : ¬ (4096 : Int) < (addAll l vs).length := by omega
            go_wp2_with fail
            go_ret3
            exact ⟨HB.out, by omega, _, _, rfl, HU8.out, HW8.out⟩
end Go.Proofs.Ytdoadclblloddaa
