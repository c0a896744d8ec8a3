/-
  The walk of mandatelaw02.InternBack.
-/
import Derived.Test.YtdoadclblloddaaSame
namespace Go.Proofs.Ytdoadclblloddaa
open Go.RowKit Go.Maps Go.WideMaps
namespace BackLaw

theorem addAll_len (l vs : List Vl) : (addAll l vs).length ≤ l.length + vs.length := by
  induction vs generalizing l with
  | nil => simp [addAll]
  | cons v r ih =>
    have h := ih (addV l v)
    have h2 : (addV l v).length ≤ l.length + 1 := by unfold addV; split <;> simp
    show (addAll (addV l v) r).length ≤ _
    simp only [List.length_cons]; omega
theorem addAll_in (l vs : List Vl) (h : ∀ v ∈ vs, v ∈ l) : addAll l vs = l := by
  induction vs with
  | nil => rfl
  | cons v r ih =>
    show addAll (addV l v) r = l
    have e : addV l v = l := by unfold addV; rw [if_pos (h v (by simp))]
    rw [e]; exact ih (fun u hu => h u (by simp [hu]))
theorem sel_pos (l F vs : List Vl) (h : ∀ v ∈ vs, v ∈ l) (hp : l <+: F) : sel F (vs.map fun v => posOf l v) = vs := by
  unfold sel
  rw [List.map_map]
  conv => rhs; rw [← List.map_id vs]
  apply List.map_congr_left
  intro v hv
  have h1 := posOf_lt (h v hv)
  have h2 := posOf_get (h v hv)
  have h3 : posOf l v < F.length := Nat.lt_of_lt_of_le h1 hp.length_le
  show F.getD (posOf l v) zv = v
  rw [List.getD_eq_getElem?_getD, List.getElem?_eq_getElem h3, ← hp.getElem h1]
  exact h2
/-- a row of numbers reads as a list -/
theorem ints_row {w : World} {R : Nat} {ks : List Nat} (h : RowOf w R 3 (ks.map num)) {B : Nat} (hB : R < B) : Ints w B (some ⟨R, 0, none⟩) (ints ks) :=
  .inr ⟨R, 0, rfl, hB, fun i hi => by
    have hi' : i < ks.length := by simpa [ints] using hi
    rw [h.cell, Nat.zero_add, List.getElem?_map, List.getElem?_eq_getElem hi']
    simp [num, ints]⟩
theorem vals_row {w : World} {R : Nat} {vs : List Vl} (h : RowOf w R 31 (flatV vs)) {B : Nat} (hB : R < B) : Vals w B (some ⟨R, 0, none⟩) vs :=
  .inr ⟨R, 0, rfl, hB, fun i hi => by
    obtain ⟨p, q⟩ := flatV_get vs i hi
    rw [h.cell, h.cell, Nat.zero_add]; exact ⟨p, q⟩⟩

/-- Row of a copy: what it leaves, whatever the list. -/
theorem row_either (w : World) {pb bm : Nat} {sv : Value} {l : List Vl} (h : Pool w pb bm sv l) (g : Nat) (vs : List Vl) (c : Nat) (hv : Vals w w.heap.size (some ⟨g, 0, none⟩) vs) (hoff : Off pb bm sv g) (ho : OkAll vs) (hm : vs.length ≤ 200) (hl : l.length ≤ 3000) :
    Calls Try.prog 13 #[.pointer (some ⟨pb, 0, none⟩), .slice (some ⟨g, 0, none⟩) vs.length c] w fun e w' => ∃ r er sv' l', e = .returned (.tuple #[r, .int .i64 er]) ∧ Pool w' pb bm sv' l' ∧ Turned w w' pb bm sv sv' ∧ l <+: l' ∧ l'.length ≤ l.length + 200 := by
  cases hg : goodAll vs
  · refine (row_bad w _ _ vs c hv ho (by unfold maxLen; omega) hg).mono ?_
    rintro e w' ⟨rfl, hb⟩
    exact ⟨_, _, sv, l, rfl, h.below hb, Turned.of_below _ _ _ hb, List.prefix_refl _, by omega⟩
  · have hle := addAll_len l vs
    refine (row_ok w h _ vs c hv (fun b off e => by cases e; exact hoff) ho (by unfold maxLen; omega) (by omega) hg (by omega)).mono ?_
    rintro e w' ⟨R, sv', rfl, hp, ht, _, _, _⟩
    exact ⟨_, _, sv', _, rfl, hp, ht, addAll_prefix _ _, by omega⟩

/-- Row of a good copy. -/
theorem row_good (w : World) {pb bm : Nat} {sv : Value} {l : List Vl} (h : Pool w pb bm sv l) (g : Nat) (vs : List Vl) (c : Nat) (hv : Vals w w.heap.size (some ⟨g, 0, none⟩) vs) (hoff : Off pb bm sv g) (ho : OkAll vs) (hm : vs.length ≤ 200) (hl : l.length ≤ 3000) (hg : goodAll vs = true) :
    Calls Try.prog 13 #[.pointer (some ⟨pb, 0, none⟩), .slice (some ⟨g, 0, none⟩) vs.length c] w fun e w' => ∃ R sv', e = .returned (.tuple #[.slice (some ⟨R, 0, none⟩) vs.length vs.length, .int .i64 0]) ∧ Pool w' pb bm sv' (addAll l vs) ∧ Turned w w' pb bm sv sv' ∧ RowOf w' R 3 ((vs.map fun v => posOf (addAll l vs) v).map num) ∧ w.heap.size ≤ R ∧ Off pb bm sv' R := by
  have hle := addAll_len l vs
  refine (row_ok w h _ vs c hv (fun b off e => by cases e; exact hoff) ho (by unfold maxLen; omega) (by omega) hg (by omega)).mono ?_
  rintro e w' ⟨R, sv', rfl, hp, ht, hr, hz, hO⟩
  exact ⟨R, sv', rfl, hp, ht, by rw [List.map_map]; exact hr, hz, hO⟩

theorem copy_pool {w wc : World} {pb bm : Nat} {sv : Value} {l : List Vl} (h : Pool w pb bm sv l) (o : Obj) (hb : Below w.heap.size (w.alloc o) wc) : Pool wc pb bm sv l := h.kept fun b hb' _ => (hb.block b hb').trans (Below.heap_alloc w o b hb')
theorem copy_off {w : World} {pb bm B g : Nat} {sv : Value} {l : List Vl} (h : Pool w pb bm sv l) (hB : w.heap.size ≤ B) (hg : B ≤ g) : Off pb bm sv g := h.off (Nat.le_trans hB hg)

set_option maxHeartbeats 8000000 in
set_option maxRecDepth 100000 in
theorem walk_long (q r : Option Addr) (l more : List Vl) (c d : Nat) (w : World) (hm : l.length ≤ maxLen) (hm2 : more.length ≤ maxLen) (h : 200 < l.length ∨ 200 < more.length) :
    Calls Try.prog 5 #[.slice q l.length c, .slice r more.length d] w fun e w' => e = .returned (.bool true) ∧ Below w.heap.size w w' := by
  unfold maxLen at hm hm2
  by_cases h1 : 200 < l.length
  · clear h
    go_enter Try.func5, Try.ntmps5
    go_wp2_with (first
      | (go_at_call 6; refine (new_any _).mono ?_; rintro e w1 ⟨rfl, hP1, hB1⟩)
      | (go_at_call 7; refine (fixed_any _).mono ?_; rintro e w2 ⟨rfl, hB2⟩))
    go_ret
    exact ⟨rfl, hB1.trans (hB2.mono hB1.size)⟩
  · have h2 : 200 < more.length := by omega
    clear h
    go_enter Try.func5, Try.ntmps5
    go_wp2_with (first
      | (go_at_call 6; refine (new_any _).mono ?_; rintro e w1 ⟨rfl, hP1, hB1⟩)
      | (go_at_call 7; refine (fixed_any _).mono ?_; rintro e w2 ⟨rfl, hB2⟩))
    go_ret
    exact ⟨rfl, hB1.trans (hB2.mono hB1.size)⟩

set_option maxHeartbeats 8000000 in
set_option maxRecDepth 100000 in
theorem walk_bad (q r : Option Addr) (l more : List Vl) (c d : Nat) (w : World) (hv : Vals w w.heap.size q l) (ho : OkAll l) (h1 : l.length ≤ 200) (h2 : more.length ≤ 200) (hg : goodAll l = false) :
    Calls Try.prog 5 #[.slice q l.length c, .slice r more.length d] w fun e w' => e = .returned (.bool true) ∧ Below w.heap.size w w' := by
  have HV := Lib.hid hv
  have HO := Lib.hid ho
  have HG := Lib.hid hg
  clear hv ho hg
  go_enter Try.func5, Try.ntmps5
  go_wp2_with (first
    | (go_at_call 6; refine (new_any _).mono ?_; rintro e w1 ⟨rfl, hP1, hB1⟩; have HP1 := Lib.hid hP1; have HB1 := Lib.hid hB1; clear hP1 hB1)
    | (go_at_call 7; refine (fixed_any _).mono ?_; rintro e w2 ⟨rfl, hB2⟩; have HP2 := Lib.hid (HP1.out.below hB2); have HB2 := Lib.hid (HB1.out.trans (hB2.mono HB1.out.size)); clear hB2)
    | (at_builtin; refine wpList_copy _ rfl _ _ rfl w2.heap.size rfl (row_new w2 [] 31) q l c rfl (HV.out.below (HB2.out.alloc HB2.out.size _) (Nat.le_refl _)) (by omega) ?_; intro g cap w3 hBg hlt hvc hbc; have HB3 := Lib.hid ((HB2.out.alloc HB2.out.size (.cells #[] 31)).trans (hbc.mono HB2.out.size)); have HV3 := Lib.hid hvc; have HP3 := Lib.hid (copy_pool HP2.out _ hbc); clear hvc hbc)
    | (go_at_call 13; refine (row_bad _ _ _ l cap HV3.out HO.out (by unfold maxLen; omega) HG.out).mono ?_; rintro e w4 ⟨rfl, hb4⟩; have HP4 := Lib.hid (HP3.out.below hb4); have HB4 := Lib.hid (HB3.out.trans (hb4.mono HB3.out.size)); clear hb4)
    | (go_at_call 18; refine (len_any _ HP4.out).mono ?_; rintro e w' ⟨rfl, rfl⟩))
  go_ret
  exact ⟨rfl, HB4.out⟩

theorem two {w : World} {B : Nat} {p : Option Addr} {vs : List Vl} (h : Vals w B p vs) (k j : Nat) (hk : k < vs.length) (hj : j < vs.length) : ∃ b off, p = some ⟨b, off, none⟩ ∧ b < B ∧ w.cell? ⟨b, off + k * 2, none⟩ = some (.string vs[k].1) ∧ w.cell? ⟨b, off + k * 2 + 1, none⟩ = some (.int .i64 vs[k].2) ∧ w.cell? ⟨b, off + j * 2, none⟩ = some (.string vs[j].1) ∧ w.cell? ⟨b, off + j * 2 + 1, none⟩ = some (.int .i64 vs[j].2) := by
  rcases h with h | ⟨b, off, rfl, hl, hc⟩
  · subst h; simp at hk
  · exact ⟨b, off, rfl, hl, (hc k hk).1, (hc k hk).2, (hc j hj).1, (hc j hj).2⟩
theorem pos_cell {w : World} {R : Nat} {L l : List Vl} (h : RowOf w R 3 ((l.map fun v => posOf L v).map num)) (k : Nat) (hk : k < l.length) : w.cell? ⟨R, k, none⟩ = some (.int .i64 (posOf L l[k])) := by
  rw [h.cell, List.getElem?_map, List.getElem?_map, List.getElem?_eq_getElem hk]; rfl
/-- two values are one just if their numbers are -/
theorem alike {L : List Vl} {u v : Vl} (hu : u ∈ L) (hv : v ∈ L) : ((posOf L u : Int) == (posOf L v : Int)) = (u.1.toList == v.1.toList && u.2 == v.2) := by
  by_cases h : u = v
  · subst h; simp
  · have h1 : (posOf L u : Int) ≠ (posOf L v : Int) := fun e => h (by
      have e : posOf L u = posOf L v := by omega
      have a := posOf_get hu
      have b := posOf_get hv
      rw [← a, ← b]
      congr 1)
    rw [beq_eq_false_iff_ne.2 h1]
    symm
    rw [Bool.and_eq_false_iff]
    by_cases h2 : u.2 = v.2
    · left
      rw [beq_eq_false_iff_ne]
      intro h3
      rw [ByteArray.toList_eq, ByteArray.toList_eq] at h3
      exact h (Prod.ext (ByteArray.ext (Array.toList_inj.1 h3)) h2)
    · right; rw [beq_eq_false_iff_ne]; exact h2

theorem below_copy {w wc : World} (o : Obj) (hb : Below w.heap.size (w.alloc o) wc) : Below w.heap.size w wc := (alloc_below w o).trans hb

set_option maxHeartbeats 16000000 in
set_option maxRecDepth 100000 in
theorem walk_good (q r : Option Addr) (l more : List Vl) (c d : Nat) (w : World) (hv : Vals w w.heap.size q l) (hv2 : Vals w w.heap.size r more) (ho : OkAll l) (ho2 : OkAll more) (h1 : l.length ≤ 200) (h2 : more.length ≤ 200) (hg : goodAll l = true) :
    Calls Try.prog 5 #[.slice q l.length c, .slice r more.length d] w fun e w' => e = .returned (.bool true) ∧ Below w.heap.size w w' := by
  have HV := Lib.hid hv
  have HV2 := Lib.hid hv2
  have HO := Lib.hid ho
  have HO2 := Lib.hid ho2
  have HG := Lib.hid hg
  have hm0 : l.length ≤ maxLen := by unfold maxLen; omega
  have HM := Lib.hid hm0
  clear hv ho hg hv2 ho2 hm0
  go_enter Try.func5, Try.ntmps5
  go_wp2_with (first
    | (go_at_call 6; refine (new_any _).mono ?_; rintro e w1 ⟨rfl, hP1, hB1⟩; have HP1 := Lib.hid hP1; have HB1 := Lib.hid hB1; clear hP1 hB1)
    | (go_at_call 7; refine (fixed_any _).mono ?_; rintro e w2 ⟨rfl, hB2⟩; have HP2 := Lib.hid (HP1.out.below hB2); have HB2 := Lib.hid (HB1.out.trans (hB2.mono HB1.out.size)); clear hB2)
    | (at_builtin; refine wpList_copy _ rfl _ _ rfl w2.heap.size rfl (row_new w2 [] 31) q l c rfl (HV.out.below (HB2.out.alloc HB2.out.size _) (Nat.le_refl _)) (by omega) ?_; intro g3 cap3 w3 hBg hlt hvc hbc; have HB3 := Lib.hid (HB2.out.trans ((below_copy _ hbc).mono HB2.out.size)); have HV3 := Lib.hid hvc; have HP3 := Lib.hid (copy_pool HP2.out _ hbc); have HO3 := Lib.hid (HP2.out.off hBg); clear hvc hbc hBg hlt))
  refine (row_good _ HP3.out g3 l cap3 HV3.out HO3.out HO.out h1 (by simp) HG.out).mono ?_
  rintro e w4 ⟨R1, s4, rfl, hP4, hT4, hR4, hz4, hO4⟩
  have HP4 := Lib.hid hP4
  have HR4 := Lib.hid hR4
  have HO4 := Lib.hid hO4
  have HT4 := Lib.hid hT4
  have HM4 := Lib.hid (show Below w.heap.size w w4 from HB3.out.trans (hT4.below (by omega) (by omega) (fun g hg => by simp [Value.ownBlock] at hg) HB3.out.size))
  clear hP4 hR4 hO4 hT4 hz4 HP3 HV3 HO3 HP2 HP1
  generalize hL1 : addAll [] l = L1 at *
  go_wp2_with (at_builtin; refine wpList_copy _ rfl _ _ rfl w4.heap.size rfl (row_new w4 [] 31) r more d rfl (HV2.out.below (HM4.out.alloc HM4.out.size _) (Nat.le_refl _)) (by omega) ?_; intro g5 cap5 w5 hBg hlt hvc hbc; have HV5 := Lib.hid hvc; have HB45 := Lib.hid (below_copy _ hbc); have HP5 := Lib.hid (copy_pool HP4.out _ hbc); have HO5 := Lib.hid (HP4.out.off hBg); clear hvc hbc hBg hlt)
  have hL1l : L1.length ≤ 200 := by rw [← hL1]; have := addAll_len [] l; simp at this; omega
  refine (row_either _ HP5.out g5 more cap5 HV5.out HO5.out HO2.out h2 (by omega)).mono ?_
  rintro e w6 ⟨r6, e6, s6, L2, rfl, hP6, hT6, hpre, hL2⟩
  have HP6 := Lib.hid hP6
  have HT46 := Lib.hid ((Turned.of_below _ _ s4 HB45.out).trans hT6)
  have HPR := Lib.hid hpre
  have HM6 := Lib.hid (show Below w.heap.size w w6 from by
    have h3 := HB3.out.size
    have hR4l := HR4.out.lt
    have hb := HT4.out
    refine HM4.out.trans (HT46.out.below (by omega) (by omega) ?_ HM4.out.size)
    intro g hg
    rcases hb.row g hg with h | h
    · simp [Value.ownBlock] at h
    · omega)
  clear hP6 hT6 hpre HP5 HV5 HO5 HB45
  go_wp2_with (at_builtin; refine wpList_copy _ rfl _ _ rfl w6.heap.size rfl (row_new w6 [] 31) q l c rfl (HV.out.below (HM6.out.alloc HM6.out.size _) (Nat.le_refl _)) (by omega) ?_; intro g7 cap7 w7 hBg hlt hvc hbc; have HV7 := Lib.hid hvc; have HB67 := Lib.hid (below_copy _ hbc); have HP7 := Lib.hid (copy_pool HP6.out _ hbc); have HO7 := Lib.hid (HP6.out.off hBg); clear hvc hbc hBg hlt)
  refine (row_good _ HP7.out g7 l cap7 HV7.out HO7.out HO.out h1 (by omega) HG.out).mono ?_
  have hmem1 : ∀ v ∈ l, v ∈ L1 := fun v hv => by rw [← hL1]; exact (mem_addAll _ _ _).2 (.inr hv)
  have hmem2 : ∀ v ∈ l, v ∈ L2 := fun v hv => HPR.out.subset (hmem1 v hv)
  have hn2 := HP7.out.n
  have hadd : addAll L2 l = L2 := addAll_in L2 l hmem2
  have hpos : (l.map fun v => posOf L2 v) = l.map fun v => posOf L1 v := List.map_congr_left fun v hv => posOf_prefix HPR.out hn2 (hmem1 v hv)
  rw [hadd, hpos]
  rintro e w8 ⟨R2, s8, rfl, hP8, hT8, hR8, hz8, hO8⟩
  have HP8 := Lib.hid hP8
  have HT48 := Lib.hid ((HT46.out.trans (Turned.of_below _ _ s6 HB67.out)).trans hT8)
  have HR8 := Lib.hid hR8
  have HRa := Lib.hid (HR4.out.kept (HT48.out.block R1 HR4.out.lt HO4.out))
  have HM8 := Lib.hid (show Below w.heap.size w w8 from by
    have h3 := HB3.out.size
    refine HM4.out.trans (HT48.out.below (by omega) (by omega) ?_ HM4.out.size)
    intro g hg
    rcases HT4.out.row g hg with h | h
    · simp [Value.ownBlock] at h
    · omega)
  have HX1 := Lib.hid hmem1
  have HX2 := Lib.hid hmem2
  have HN2 := Lib.hid hn2
  clear hP8 hT8 hR8 hz8 hO8 HP7 HV7 HO7 HB67 HP6 HT46 HR4 HP4 HM6 HB3 HB2 HB1 hmem1 hmem2 hn2 hadd hpos
  have hlen : (l.map fun v => posOf L1 v).length = l.length := by simp
  have hintl : (ints (l.map fun v => posOf L1 v)).length = l.length := by simp [ints]
  have hval := values_ok w8 (some ⟨w.heap.size + 1, 0, none⟩) L2 (fun wx hx k hk => get_any k wx (HP8.out.below hx) hk) (some ⟨R1, 0, none⟩) (l.map fun v => posOf L1 v) l.length (ints_row HRa.out HRa.out.lt) (fun k hk => by
    obtain ⟨v, hv, rfl⟩ := List.mem_map.1 hk
    exact Nat.lt_of_lt_of_le (posOf_lt (HX1.out v hv)) HPR.out.length_le) (by rw [hlen]; exact HM.out) (by rw [hlen]; omega)
  rw [hlen, sel_pos L1 L2 l HX1.out HPR.out] at hval
  have HVL := Lib.hid hval
  clear hval
  go_wp2_with fail
  refine HVL.out.mono ?_
  rintro e w9 ⟨R9, rfl, hR9, hz9, hb9⟩
  have HP9 := Lib.hid (HP8.out.below hb9)
  have HA9 := Lib.hid (HRa.out.below hb9 HRa.out.lt)
  have HB9 := Lib.hid (HR8.out.below hb9 HR8.out.lt)
  have HW9 := Lib.hid hR9
  have HM9 := Lib.hid (HM8.out.trans (hb9.mono HM8.out.size))
  clear hR9 hz9 hb9 HVL HP8 HRa HR8 HM8 HT48
  have hnum := numbers_same (some ⟨R1, 0, none⟩) (some ⟨R2, 0, none⟩) (ints (l.map fun v => posOf L1 v)) l.length l.length w9 (ints_row HA9.out HA9.out.lt) (ints_row HB9.out HB9.out.lt) (by rw [hintl]; exact HM.out)
  rw [hintl] at hnum
  have HNUM := Lib.hid hnum
  clear hnum
  go_wp2_with (first
    | (go_at_call 14; refine HNUM.out.mono ?_; rintro e w10 ⟨rfl, hb10⟩; have HP10 := Lib.hid (HP9.out.below hb10); have HA10 := Lib.hid (HA9.out.below hb10 HA9.out.lt); have HW10 := Lib.hid (HW9.out.below hb10 HW9.out.lt); have HM10 := Lib.hid (HM9.out.trans (hb10.mono HM9.out.size)); clear hb10)
    | (go_at_call 16; refine (values_same _ _ l l.length c _ (vals_row HW10.out HW10.out.lt) ((HV.out.below HM10.out (Nat.le_refl _)).up HM10.out.size) HM.out).mono ?_; rintro e w11 ⟨rfl, hb11⟩; have HP11 := Lib.hid (HP10.out.below hb11); have HA11 := Lib.hid (HA10.out.below hb11 HA10.out.lt); have HM11 := Lib.hid (HM10.out.trans (hb11.mono HM10.out.size)); clear hb11))
  clear HP9 HA9 HB9 HW9 HM9 HNUM HP10 HA10 HW10 HM10
  go_loopw [12] (fun i wr => ∃ k : Nat, k ≤ l.length ∧ i = .int .i64 k ∧ Below w11.heap.size w11 wr) (fun i _ => l.length - (intOf i).toNat)
  case atStart => exact ⟨0, Nat.zero_le _, rfl, Below.refl _ _⟩
  case round =>
    obtain ⟨k, hk, rfl, hb⟩ := hrel
    have HB := Lib.hid hb
    clear hb
    by_cases hlt : k < l.length
    · go_wp2_with fail
      go_loopw [13] (fun i wr => ∃ j : Nat, j ≤ k ∧ i = .int .i64 j ∧ Below w11.heap.size w11 wr) (fun i _ => k - (intOf i).toNat)
      case atStart => exact ⟨0, Nat.zero_le _, rfl, HB.out⟩
      case round =>
        obtain ⟨j, hj, rfl, hb⟩ := hrel
        have HBj := Lib.hid hb
        clear hb
        by_cases hjk : j < k
        · obtain ⟨b, off, rfl, hbl, x0, x1, y0, y1⟩ := two (HV.out.below (HM11.out.trans (HBj.out.mono HM11.out.size)) (Nat.le_refl _)) k j hlt (by omega)
          have hA := HA11.out.below HBj.out HA11.out.lt
          have a0 := pos_cell hA k hlt
          have a1 := pos_cell hA j (by omega)
          have hR1 := hA.lt
          have hal := alike (HX1.out l[k] (List.getElem_mem hlt)) (HX1.out l[j] (List.getElem_mem (by omega)))
          have heq : ∀ wx, _ := fun wx => eqB l[k].1 l[j].1 l[k].2 l[j].2 wx
          have hb2 : b < _ := Nat.lt_of_lt_of_le hbl (Nat.le_trans HM11.out.size HBj.out.size)
          clear hA
          generalize (posOf L1 l[k] : Int) = pk at *
          generalize (posOf L1 l[j] : Int) = pj at *
          generalize (l[k].1.toList == l[j].1.toList && l[k].2 == l[j].2) = tb at *
          generalize l[k].1 = s1 at *
          generalize l[k].2 = n1 at *
          generalize l[j].1 = s2 at *
          generalize l[j].2 = n2 at *
          have hjl : (j : Int) < l.length := by omega
          have hkl : (k : Int) < l.length := by omega
          cases tb
          all_goals
            go_wp2_with fail
            go_quiet (fail)
            all_goals
              go_wp2_with fail
              go_roundw
              case rel => exact ⟨j + 1, by omega, by go_num, below_drewN HBj.out _⟩
              case measure => simp [intOf]; omega
        · obtain rfl : j = k := by omega
          obtain ⟨b, off, rfl, hbl, x0, x1⟩ := (HV.out.below (HM11.out.trans (HBj.out.mono HM11.out.size)) (Nat.le_refl _)).at j hlt
          have hb2 : b < _ := Nat.lt_of_lt_of_le hbl (Nat.le_trans HM11.out.size HBj.out.size)
          have hmem := HX2.out l[j] (List.getElem_mem hlt)
          have hps : posOf L2 l[j] = posOf L1 l[j] := posOf_prefix HPR.out HN2.out (HX1.out l[j] (List.getElem_mem hlt))
          have hfind := find_in_any l[j].1 l[j].2 _ (HP11.out.below HBj.out) (HO.out.at j hlt) (posOf L2 l[j]) (posOf_lt hmem) (posOf_get hmem)
          have hlt2 := posOf_lt hmem
          rw [hps] at hfind hlt2
          have HF := Lib.hid hfind
          have HLT2 := Lib.hid hlt2
          clear hmem hps hfind hlt2
          go_wp2_with fail
          refine HF.out.mono ?_
          rintro e w12 ⟨rfl, hb12⟩
          have HB12 := Lib.hid (HBj.out.trans (hb12.mono HBj.out.size))
          have hA := HA11.out.below HB12.out HA11.out.lt
          have a0 := pos_cell hA j hlt
          have hR1 := hA.lt
          have hp2 := HLT2.out
          have HP12 := Lib.hid (HP11.out.below HB12.out)
          generalize posOf L1 l[j] = pk at *
          clear hA hb12 HF
          go_wp2_with (go_at_call 18; refine (len_any _ HP12.out).mono ?_; rintro e w' ⟨rfl, rfl⟩)
          go_roundw
          case rel => exact ⟨j + 1, by omega, by go_num, HB12.out⟩
          case measure => simp [intOf]; omega
    · go_wp2_with fail
      go_ret
      exact ⟨rfl, HM11.out.trans (HB.out.mono HM11.out.size)⟩
end BackLaw
end Go.Proofs.Ytdoadclblloddaa
