/-
  Joined of: PrtD, VarA, VarB.
-/
import Derived.Test.YtnjdganikeganaaGreatDoorJa19
import Derived.Lib.AppendZerosOnto
import Derived.Lib.SliceRun
set_option linter.unusedVariables false
set_option linter.unusedSimpArgs false
/-
  Contracts: clause.listText of literals, clause.Print, clause.PrintLit.
-/
namespace Go.Proofs.YtnjdganikeganaaGreatDoor
open Go.RowKit

theorem short_of_said {l : Lp} (h : l.said = true) (hn : l.Nb) : l.Short := by
  unfold Lp.said at h
  simp only [Bool.and_eq_true, decide_eq_true_eq, List.all_eq_true] at h
  obtain ⟨h1, h2, h3, h4⟩ := h
  refine ⟨hn, fun hw => ?_, fun t ht => Nat.le_trans (txt_size (h4 t ht) (hn.args t ht)) (by decide), by omega⟩
  unfold Tm.spk at h1
  rw [hw] at h1
  simp only [Bool.false_or, Bool.and_eq_true] at h1
  exact Nat.le_trans (txt_size h1.1 hn.who) (by decide)
theorem short_of_lit {l : Lp} (h : l.lit = true) (hn : l.Nb) : l.Short := by
  unfold Lp.lit at h
  split at h
  · exact short_of_said h hn
  · split at h
    · unfold Lp.comp at h
      simp only [Bool.and_eq_true, decide_eq_true_eq, List.all_eq_true] at h
      obtain ⟨h1, h2, h3, h4⟩ := h
      exact ⟨hn, fun hw => by rw [hw] at h1; exact absurd h1 (by decide), fun t ht => Nat.le_trans (txt_size (h4 t ht) (hn.args t ht)) (by decide), by omega⟩
    · exact absurd h (by decide)
theorem litT_size {l : Lp} (h : l.lit = true) (hs : l.Short) : l.litT.size ≤ 2000000 := by
  unfold Lp.litT
  have hsz := saidT_size l hs
  have hp : l.kind = 1 ∨ l.kind = 2 → l.pred.size ≤ 16 := fun hk => by
    unfold Lp.lit at h
    rw [if_pos (by rcases hk with h | h <;> simp [h])] at h
    unfold Lp.said at h
    simp only [Bool.and_eq_true] at h
    exact name_size h.2.1
  split
  · rename_i h2
    have := hp (.inr h2)
    rw [ByteArray.size_append]
    have e : wdNotB.size = 4 := rfl
    omega
  · split
    · rename_i h3
      obtain ⟨a, b, hab⟩ := two_of (comp_two h (.inl h3))
      have ha := hs.args a (by rw [hab]; simp)
      have hb := hs.args b (by rw [hab]; simp)
      rw [hab]
      unfold cmpT
      rw [ByteArray.size_append, ByteArray.size_append]
      have e : wdLessB.size = 3 := rfl
      omega
    · split
      · rename_i h4
        obtain ⟨a, b, hab⟩ := two_of (comp_two h (.inr h4))
        have ha := hs.args a (by rw [hab]; simp)
        have hb := hs.args b (by rw [hab]; simp)
        rw [hab]
        unfold cmpT
        rw [ByteArray.size_append, ByteArray.size_append]
        have e : wdUnlikeB.size = 4 := rfl
        omega
      · rename_i h2 h3 h4
        have h1 : l.kind = 1 := by
          unfold Lp.lit at h
          split at h
          · rename_i hk; simp at hk; omega
          · split at h
            · rename_i hk; simp at hk; omega
            · exact absurd h (by decide)
        have := hp (.inl h1)
        omega

set_option maxHeartbeats 8000000 in
set_option maxRecDepth 100000 in
theorem listLit_any (q : Option Addr) (c : Nat) (l : List Lp) (w : World) (hi : Lits w w.heap.size q l) (hz : ∀ t ∈ l, t.Short ∧ t.lit = true ∧ t.litT.size ≤ 2000000) (hl : l.length ≤ 1000) (he : Env w) :
    Calls Tryz.prog 44 #[.slice q l.length c, .func (.func 45) #[] #[]] w fun e w' => e = .returned (.string (joinB (l.map Lp.litT))) ∧ Below w.heap.size w w' := by
  have HE := Lib.hid he
  have HI := Lib.hid hi
  have HZ := Lib.hid hz
  obtain ⟨i0, hii, hz0, hz1, hzb⟩ := info_parts infoStr
  clear he hi hz
  go_enter Tryz.func44, Tryz.ntmps44
  go_wp2_with fail
  go_loopw [5, 10] (fun v i wr => ∃ j : Nat, j ≤ l.length ∧ i = .int .i64 j ∧ Hid (wr.ownsRow w.heap.size 9 1 v j (flatE encS ((l.take j).map Lp.litT))) ∧ Below w.heap.size w wr) (fun _ i _ => l.length - (intOf i).toNat)
  case atStart => exact ⟨0, Nat.zero_le _, rfl, Lib.hid (World.ownsRow_nil _ _ _ _), Below.refl _ _⟩
  case round =>
    obtain ⟨j, hj, rfl, HO, hb⟩ := hrel
    have HB := Lib.hid hb
    clear hb
    by_cases hlt : j < l.length
    · obtain ⟨b, o, rfl, hbb, x0, x1, x2, x3, x4, x5⟩ := rdL_at (HI.out.on HB.out (Nat.le_refl _)).rd j hlt
      have hb' : b < wr.heap.size := Nat.lt_of_lt_of_le hbb HB.out.size
      have HT := Lib.hid (show ∀ o, Calls Tryz.prog 45 #[.agg #[.int .u8 l[j].kind, .string l[j].who.v, .string l[j].who.s, .int .i64 l[j].who.n, .string l[j].pred, .slice l[j].ptr l[j].args.length l[j].cap]] (wr.alloc o) fun e w' => e = .returned (.string l[j].litT) ∧ Below (wr.alloc o).heap.size (wr.alloc o) w' from fun o => litText_any l[j] _ (((HI.out.each _ (List.getElem_mem hlt)).on (HB.out.alloc HB.out.size o) (Nat.le_refl _)).mono (HB.out.alloc HB.out.size o).size) (HZ.out _ (List.getElem_mem hlt)).1 (HZ.out _ (List.getElem_mem hlt)).2.1 (HE.out.on (HB.out.alloc HB.out.size o)))
      have HX := Lib.hid (show (l.take (j + 1)).map Lp.litT = (l.take j).map Lp.litT ++ [l[j].litT] by rw [List.take_succ_eq_append_getElem hlt, List.map_append]; rfl)
      have HL1 := Lib.hid (show j + 1 ≤ maxLen by unfold maxLen; omega)
      have HL2 := Lib.hid (show (j + 1) * 16 ≤ 140737488355328 by omega)
      generalize l[j].litT = tx at *
      go_wp2_with (first
        | (go_at_call 45; refine (HT.out _).mono ?_; rintro e w1 ⟨rfl, hb1⟩; have HB1 := Lib.hid ((HB.out.alloc HB.out.size _).trans (hb1.mono (HB.out.alloc HB.out.size _).size)); have HO1 := Lib.hid (own_below (own_below HO.out (below1 wr _)) hb1); have h65 := HB1.out.size; clear hb1)
        | (at_builtin; refine wpList_append_lies _ rfl _ _ 56 rfl w.heap.size 9 i0 (.string ⟨#[]⟩) 1 16 underSs hii hz0 hz1 hzb rfl (by decide) _ _ _ rfl (own_below HO1.out (below1 _ _)) ⟨w1.heap.size, 0, none⟩ 1 1 [.string tx] rfl rfl (news_alloc _ _ _) (ES.one tx) (by decide) HL1.out HL2.out (Nat.le_trans h65 (below1 w1 _).size) _ rfl ?_; intro g cap w2 hown hgrow hat hlt2; have HOW := Lib.hid hown; have HG := Lib.hid ((HB1.out.trans ((below1 w1 _).mono HB1.out.size)).grown hgrow (Nat.le_trans h65 (below1 w1 _).size) (fun x hx => (HO1.out.lt x hx).1)); clear hown hgrow hat))
      go_roundw
      case rel => exact ⟨j + 1, by omega, by go_num, Lib.hid (by rw [HX.out, flatE_snoc]; exact HOW.out), HG.out⟩
      case measure => simp [intOf]; omega
    · have hje : j = l.length := by omega
      have HX := Lib.hid (show (l.take j).map Lp.litT = l.map Lp.litT by rw [hje, List.take_length])
      have hsz := joinB_size (l.map Lp.litT) 2000000 (fun x hx => by obtain ⟨t, ht, rfl⟩ := List.mem_map.1 hx; exact (HZ.out t ht).2.2)
      have hml : (l.map Lp.litT).length = j := by rw [List.length_map]; omega
      rw [hml] at hsz
      have HJ := Lib.hid (join_own (l.map Lp.litT) (base := w.heap.size) (by rw [hml, ← HX.out]; exact HO.out) (by omega) (by omega))
      clear hsz hml
      go_wp2_with (go_at_call 74; refine (HJ.out).mono ?_; rintro e w1 ⟨rfl, hb1⟩)
      go_ret
      exact ⟨rfl, HB.out.trans (hb1.mono HB.out.size)⟩

def wdIfB : ByteArray := ⟨#[32, 58, 45, 32]⟩
/-- a clause's text -/
def Kp.txt (c : Kp) : ByteArray := (if c.body.isEmpty then c.head.saidT else c.head.saidT ++ (wdIfB ++ joinB (c.body.map Lp.litT))) ++ ⟨#[46]⟩
structure Kp.Nb (c : Kp) : Prop where
  head : c.head.Nb
  body : ∀ l ∈ c.body, l.Nb

set_option maxHeartbeats 8000000 in
set_option maxRecDepth 100000 in
theorem printLit_any (l : Lp) (w : World) (hi : l.In w w.heap.size) (hn : l.Nb) (he : Env w) :
    Calls Tryz.prog 21 #[l.agg] w fun e w' => e = .returned (if l.ask then .tuple #[.string l.saidT, .int .i64 0] else .tuple #[.string ⟨#[]⟩, .int .i64 1]) ∧ Below w.heap.size w w' := by
  have HB := Lib.hid (below1 w)
  have HK := Lib.hid (show ∀ o, Calls Tryz.prog 25 #[l.agg] (w.alloc o) fun e w' => e = .returned (.bool l.ask) ∧ Below (w.alloc o).heap.size (w.alloc o) w' from fun o => checkLit_any l _ (hi.grow (below1 w o)) (he.on (below1 w o)))
  cases hk : l.ask with
  | false =>
    rw [hk] at HK
    unfold Lp.agg at HK ⊢
    clear hi hn he hk
    go_enter Tryz.func21, Tryz.ntmps21
    go_wp2_with (go_at_call 25; refine (HK.out _).mono ?_; rintro e w1 ⟨rfl, hb1⟩)
    go_ret2
    exact ⟨rfl, (HB.out _).trans (hb1.mono (HB.out _).size)⟩
  | true =>
    have hsd : l.said = true := by unfold Lp.ask at hk; simp at hk; exact hk.2
    have HS := Lib.hid (show ∀ X, Below w.heap.size w X → Calls Tryz.prog 43 #[l.agg] X fun e w' => e = .returned (.string l.saidT) ∧ Below X.heap.size X w' from fun X hX => saidText_any l X (hi.grow hX) (short_of_said hsd hn) (he.on hX))
    rw [hk] at HK
    unfold Lp.agg at HK HS ⊢
    generalize l.saidT = tx at *
    clear hi hn he hk hsd
    go_enter Tryz.func21, Tryz.ntmps21
    go_wp2_with (first
      | (go_at_call 25; refine (HK.out _).mono ?_; rintro e w1 ⟨rfl, hb1⟩; have e0 := box_cell hb1 0 _ rfl; have e1 := box_cell hb1 1 _ rfl; have e2 := box_cell hb1 2 _ rfl; have e3 := box_cell hb1 3 _ rfl; have e4 := box_cell hb1 4 _ rfl; have e5 := box_cell hb1 5 _ rfl; have HB1 := Lib.hid ((HB.out _).trans (hb1.mono (HB.out _).size)); clear hb1)
      | (go_at_call 43; refine (HS.out _ HB1.out).mono ?_; rintro e w2 ⟨rfl, hb2⟩))
    go_ret2
    exact ⟨rfl, HB1.out.trans (hb2.mono HB1.out.size)⟩

set_option maxHeartbeats 8000000 in
set_option maxRecDepth 100000 in
theorem print_any (c : Kp) (w : World) (hi : c.In w w.heap.size) (hn : c.Nb) (he : Env w) :
    Calls Tryz.prog 18 #[c.agg] w fun e w' => e = .returned (if c.check then .tuple #[.string c.txt, .int .i64 0] else .tuple #[.string ⟨#[]⟩, .int .i64 1]) ∧ Below w.heap.size w w' := by
  have HB := Lib.hid (below1 w)
  have HK := Lib.hid (show ∀ o, Calls Tryz.prog 24 #[c.agg] (w.alloc o) fun e w' => e = .returned (.bool c.check) ∧ Below (w.alloc o).heap.size (w.alloc o) w' from fun o => check_any c _ (hi.grow (below1 w o)) (he.on (below1 w o)))
  cases hk : c.check with
  | false =>
    rw [hk] at HK
    unfold Kp.agg at HK ⊢
    clear hi hn he hk
    go_enter Tryz.func18, Tryz.ntmps18
    go_wp2_with (go_at_call 24; refine (HK.out _).mono ?_; rintro e w1 ⟨rfl, hb1⟩)
    go_ret2
    exact ⟨rfl, (HB.out _).trans (hb1.mono (HB.out _).size)⟩
  | true =>
    obtain ⟨hlen, _, hask, hbody⟩ : c.body.length ≤ 6 ∧ c.head.who.none = true ∧ c.head.ask = true ∧ ∀ l ∈ c.body, l.lit = true := by
      unfold Kp.check at hk
      simp only [Bool.and_eq_true, decide_eq_true_eq, List.all_eq_true] at hk
      exact hk
    have hsd : c.head.said = true := by unfold Lp.ask at hask; simp at hask; exact hask.2
    have hsh := short_of_said hsd hn.head
    have HS := Lib.hid (show ∀ X, Below w.heap.size w X → Calls Tryz.prog 43 #[c.head.agg] X fun e w' => e = .returned (.string c.head.saidT) ∧ Below X.heap.size X w' from fun X hX => saidText_any c.head X (hi.head.grow hX) hsh (he.on hX))
    have HL := Lib.hid (show ∀ X, Below w.heap.size w X → Calls Tryz.prog 44 #[.slice c.ptr c.body.length c.cap, .func (.func 45) #[] #[]] X fun e w' => e = .returned (.string (joinB (c.body.map Lp.litT))) ∧ Below X.heap.size X w' from fun X hX => listLit_any c.ptr c.cap c.body X ((hi.body.on hX (Nat.le_refl _)).mono hX.size) (fun l hl => ⟨short_of_lit (hbody l hl) (hn.body l hl), hbody l hl, litT_size (hbody l hl) (short_of_lit (hbody l hl) (hn.body l hl))⟩) (by omega) (he.on hX))
    have hz1 : c.head.saidT.size ≤ 2000000 := by
      have h1 := saidT_size c.head hsh
      have h2 : c.head.pred.size ≤ 16 := by unfold Lp.said at hsd; simp only [Bool.and_eq_true] at hsd; exact name_size hsd.2.1
      omega
    have hz2 : (joinB (c.body.map Lp.litT)).size ≤ 20000000 := by
      have := (joinB_size (c.body.map Lp.litT) 2000000 (fun x hx => by obtain ⟨t, ht, rfl⟩ := List.mem_map.1 hx; exact litT_size (hbody t ht) (short_of_lit (hbody t ht) (hn.body t ht)))).1
      rw [List.length_map] at this
      have := Nat.mul_le_mul_right 2000002 hlen
      omega
    have HX := Lib.hid (show c.txt = (if c.body.length = 0 then c.head.saidT else c.head.saidT ++ (wdIfB ++ joinB (c.body.map Lp.litT))) ++ ⟨#[46]⟩ by unfold Kp.txt; cases c.body <;> simp)
    rw [hk] at HK
    unfold Kp.agg at HK ⊢
    unfold Lp.agg at HS
    generalize c.txt = ct at *
    generalize c.head.saidT = tx at *
    generalize joinB (c.body.map Lp.litT) = jn at *
    generalize c.body.length = m at *
    clear hi hn he hk hsd hsh hask hbody
    by_cases hm : m = 0
    · subst hm
      have HX2 := Lib.hid (HX.out.trans (by rw [if_pos rfl]))
      go_enter Tryz.func18, Tryz.ntmps18
      go_wp2_with (first
        | (go_at_call 24; refine (HK.out _).mono ?_; rintro e w1 ⟨rfl, hb1⟩; have e0 := box_cell hb1 0 _ rfl; have e1 := box_cell hb1 1 _ rfl; have e2 := box_cell hb1 2 _ rfl; have e3 := box_cell hb1 3 _ rfl; have e4 := box_cell hb1 4 _ rfl; have e5 := box_cell hb1 5 _ rfl; have e6 := box_cell hb1 6 _ rfl; have HBX := Lib.hid hb1; have HB1 := Lib.hid ((HB.out _).trans (hb1.mono (HB.out _).size)); clear hb1)
        | (go_at_call 43; refine (HS.out _ HB1.out).mono ?_; rintro e w2 ⟨rfl, hb2⟩; have i6 := box_cell (HBX.out.trans (hb2.mono HBX.out.size)) 6 _ rfl; have HB2 := Lib.hid (HB1.out.trans (hb2.mono HB1.out.size)); clear hb2))
      go_ret2
      exact ⟨by rw [HX2.out]; rfl, HB2.out⟩
    · have HX2 := Lib.hid (HX.out.trans (by rw [if_neg hm]))
      have hm1 : (m : Int) > 0 := by omega
      go_enter Tryz.func18, Tryz.ntmps18
      go_wp2_with (first
        | (go_at_call 24; refine (HK.out _).mono ?_; rintro e w1 ⟨rfl, hb1⟩; have e0 := box_cell hb1 0 _ rfl; have e1 := box_cell hb1 1 _ rfl; have e2 := box_cell hb1 2 _ rfl; have e3 := box_cell hb1 3 _ rfl; have e4 := box_cell hb1 4 _ rfl; have e5 := box_cell hb1 5 _ rfl; have e6 := box_cell hb1 6 _ rfl; have HBX := Lib.hid hb1; have HB1 := Lib.hid ((HB.out _).trans (hb1.mono (HB.out _).size)); clear hb1)
        | (go_at_call 43; refine (HS.out _ HB1.out).mono ?_; rintro e w2 ⟨rfl, hb2⟩; have i6 := box_cell (HBX.out.trans (hb2.mono HBX.out.size)) 6 _ rfl; have HB2 := Lib.hid (HB1.out.trans (hb2.mono HB1.out.size)); clear hb2)
        | (go_at_call 44; refine (HL.out _ HB2.out).mono ?_; rintro e w3 ⟨rfl, hb3⟩; have HB3 := Lib.hid (HB2.out.trans (hb3.mono HB2.out.size)); clear hb3))
      go_ret2
      exact ⟨by rw [HX2.out]; rfl, HB3.out⟩
end Go.Proofs.YtnjdganikeganaaGreatDoor

/-
  A list appended to a row of the call's own; contracts: slices.Grow of nothing, slices.Concat of two lists of literals.
-/
namespace Go.Proofs.YtnjdganikeganaaGreatDoor
open Go.RowKit

/-- append of an empty slice -/
theorem run_append_zero {P : Program} (w : World) (t ty e : TypeId) (i : TypeInfo) (ht : P.underlying t = some (.slice e)) (hi : P.info? e = some i) (a : Addr) (n d : Nat) (hn : n ≤ d) (q : Option Addr) (c : Nat) (h63 : n ≤ maxLen) :
    (Builtin.append_ #[t, t] ty #[.slice (some a) n d, .slice q 0 c]).run P w = .ok (.slice (some a) n d) w := by
  have h63' : ¬ (9223372036854775807 < (n : Int)) := by unfold maxLen at h63; omega
  cases q <;> simp [Builtin.append_, run_underlying ht, sizeOf, typeInfo, hi, Builtin.lenOf, Builtin.firstCells, loadCells, loadCellsFrom, storeCells, Result.andThen, hn, h63']
theorem run_appendE {P : Program} {w : World} {α : Type} {enc : α → List Value} {size : Nat} (E : Enc enc size) (t ty : TypeId)
    (base : Nat) (e : TypeId) (i : TypeInfo) (z : Value) (bytes : Nat) (ht : P.underlying t = some (.slice e)) (hi : P.info? e = some i) (hz : i.zero = some z)
    (hsize : i.size = size) (hby : i.bytes = bytes) (hzs : z.cells.size = size)
    (v : Value) (xs : List α) (hown : w.ownsRow base e size v xs.length (flatE enc xs))
    (q : Option Addr) (l : List α) (c : Nat) {B0 : Nat} (hr : Rd enc size w B0 q l)
    (h63 : xs.length + l.length ≤ maxLen) (hbytes : (xs.length + l.length) * bytes ≤ 140737488355328) (hbase : base ≤ w.heap.size) :
    ∃ v' w', (Builtin.append_ #[t, t] ty #[v, .slice q l.length c]).run P w = .ok v' w' ∧ w'.ownsRow base e size v' (xs ++ l).length (flatE enc (xs ++ l)) ∧ Below base w w' ∧ w.grownBy w' v.ownBlock ∧ (∀ g, v'.ownBlock = some g → v.ownBlock = some g ∨ g = w.heap.size) := by
  have hfl : flatE enc (xs ++ l) = flatE enc xs ++ flatE enc l := by simp [flatE]
  rcases Nat.eq_zero_or_pos l.length with h0 | h0
  · have he : l = [] := List.length_eq_zero_iff.1 h0
    subst he
    rcases hown.2 with ⟨rfl, hx0⟩ | ⟨g, cap, cur, rfl, _, _, hcap, _⟩
    · have hx : xs = [] := List.length_eq_zero_iff.1 hx0
      subst hx
      exact ⟨_, w, run_append_none (P := P) w t ty e i ht hi none q 0 c, World.ownsRow_nil _ _ _ _, Below.refl _ _, ⟨rfl, rfl, rfl, Nat.le_refl _, fun _ _ _ => rfl⟩, fun _ h => .inl h⟩
    · exact ⟨_, w, run_append_zero (P := P) w t ty e i ht hi _ _ cap hcap q c (by omega), by simpa using hown, Below.refl _ _, ⟨rfl, rfl, rfl, Nat.le_refl _, fun _ _ _ => rfl⟩, fun _ h => .inl h⟩
  · obtain ⟨b, off, rfl, _, _⟩ := hr.at 0 h0
    obtain ⟨g, cap, w', hrun, ho, hg, hat, _⟩ := run_append_lies (P := P) w t ty base e i z size bytes ht hi hz hsize hby hzs E.pos v xs.length (flatE enc xs) hown ⟨b, off, none⟩ l.length c (flatE enc l) (flatE_length E l) (flatE_cells E h0 hr) (flatE_one E l) h0 h63 hbytes hbase _ rfl
    refine ⟨_, w', hrun, ?_, (Below.refl _ _).grown hg hbase (fun k hk => (hown.lt k hk).1), hg, fun g' hg' => by
      have e : g = g' := by injection hg'
      subst e
      exact hat⟩
    rw [hfl, List.length_append]
    exact ho
theorem wpList_appendE {P : Program} {w : World} {α : Type} {enc : α → List Value} {size : Nat} (E : Enc enc size) {ops : Array Oper} {rest : List Oper} {o : Oper} {a : Act} {Q : Exit → Act → World → Prop} (hgd : o.guard = none) (s x : Operand) (t : TypeId)
    (ho : o.op = .call { callee := .builtin .append, args := #[s, x], argTypes := #[t, t] })
    (base : Nat) (e : TypeId) (i : TypeInfo) (z : Value) (bytes : Nat) (ht : P.underlying t = some (.slice e)) (hi : P.info? e = some i) (hz : i.zero = some z)
    (hsize : i.size = size) (hby : i.bytes = bytes) (hzs : z.cells.size = size)
    (v : Value) (xs : List α) (hs : a.eval s = v) (hown : w.ownsRow base e size v xs.length (flatE enc xs))
    (q : Option Addr) (l : List α) (c : Nat) {B0 : Nat} (hx : a.eval x = .slice q l.length c) (hr : Rd enc size w B0 q l)
    (h63 : xs.length + l.length ≤ maxLen) (hbytes : (xs.length + l.length) * bytes ≤ 140737488355328) (hbase : base ≤ w.heap.size)
    (h : ∀ v' w', w'.ownsRow base e size v' (xs ++ l).length (flatE enc (xs ++ l)) → Below base w w' → w.grownBy w' v.ownBlock → (∀ g, v'.ownBlock = some g → v.ownBlock = some g ∨ g = w.heap.size) → wpList P ops Q rest (a.put o.dst v') w') : wpList P ops Q (o :: rest) a w := by
  refine wpList_plain hgd fun K hK => ?_
  obtain ⟨v', w', hrun, h1, h2, h3, h4⟩ := run_appendE (P := P) E t o.type base e i z bytes ht hi hz hsize hby hzs v xs hown q l c hr h63 hbytes hbase
  unfold Oper.wp execOp
  simp only [ho, resolve, invoke, builtin, Sem.run_bind, Sem.run_pure, Result.andThen_ok, List.map_toArray, List.map_cons, List.map_nil, hs, hx, hrun]
  exact hK _ _ (h v' w' h1 h2 h3 h4)

theorem wpList_append_run {P : Program} {w w' : World} {ops : Array Oper} {rest : List Oper} {o : Oper} {a : Act} {Q : Exit → Act → World → Prop} (hgd : o.guard = none) (s x : Operand) (t t' : TypeId)
    (ho : o.op = .call { callee := .builtin .append, args := #[s, x], argTypes := #[t, t'] }) (vs vx v : Value) (hs : a.eval s = vs) (hx : a.eval x = vx)
    (hrun : (Builtin.append_ #[t, t'] o.type #[vs, vx]).run P w = .ok v w') (h : wpList P ops Q rest (a.put o.dst v) w') : wpList P ops Q (o :: rest) a w := by
  refine wpList_plain hgd fun K hK => ?_
  unfold Oper.wp execOp
  simp only [ho, resolve, invoke, builtin, Sem.run_bind, Sem.run_pure, Result.andThen_ok, List.map_toArray, List.map_cons, List.map_nil, hs, hx, hrun]
  exact hK _ _ h

set_option maxHeartbeats 4000000 in
set_option maxRecDepth 100000 in
theorem grow_any (n : Nat) (w : World) (h0 : 0 < n) (h1 : n ≤ 100000) :
    Calls Tryz.prog 82 #[.slice none 0 0, .int .i64 n] w fun e w' => ∃ v, e = .returned v ∧ w'.ownsRow w.heap.size 28 6 v 0 [] ∧ Below w.heap.size w w' := by
  obtain ⟨i0, hi, hz0, hz1, hzb⟩ := info_parts infoLit
  have hzc : (Value.agg #[.int .u8 0, .string ⟨#[]⟩, .string ⟨#[]⟩, .int .i64 0, .string ⟨#[]⟩, .slice none 0 0]).cells.size = 6 := rfl
  generalize hZ : Value.agg #[.int .u8 0, .string ⟨#[]⟩, .string ⟨#[]⟩, .int .i64 0, .string ⟨#[]⟩, .slice none 0 0] = Z at *
  have h2 : ¬ ((n : Int) < 0) := by omega
  have h3 : wrap64 ((n : Int) - 0) = (n : Int) := by unfold wrap64; omega
  have h4 : (n : Int) > 0 := by omega
  have hold : (Builtin.firstCells i0.size 0 (.slice none 0 0)).run Tryz.prog w.drew = .ok (#[] : Array Value) w.drew := run_firstCells_none w.drew i0.size 0 0 0
  have hrz : ∀ ty, (Builtin.append_ #[29, 3] ty #[.slice none 0 0, .int .i64 (n : Int)]).run Tryz.prog w =
      .ok (.slice (some ⟨w.heap.size, 0, none⟩) n (grownCap w n 0 28)) (w.drew.alloc (.cells ((#[] : Array Value) ++ Builtin.zeroCells Z.cells n ++ Builtin.zeroCells Z.cells (grownCap w n 0 28 - n)) 28)) := fun ty => by
    have h := Lib.run_append_grow_zeros w 29 3 ty 28 i0 Z .i64 .i64 underLs Tryz.underlying3 hi hz0 none 0 0 [] hold n h0 (by rw [hz1]; decide) (by omega) (by omega) (by rw [hzb]; omega) (by rw [hzb]; exact growslice_fits (by omega) (by omega))
    simpa using h
  have hG := grownCap_ge w n 0 28
  have hGm := grownCap_le_maxLen w n 0 28 (by unfold maxLen; omega)
  generalize grownCap w n 0 28 = G at *
  have hcur : ((#[] : Array Value) ++ Builtin.zeroCells Z.cells n ++ Builtin.zeroCells Z.cells (G - n)).size = G * 6 := by
    simp only [Array.size_append, size_zeroCells, hzc]
    simp; omega
  generalize (#[] : Array Value) ++ Builtin.zeroCells Z.cells n ++ Builtin.zeroCells Z.cells (G - n) = cur at *
  have HOW := Lib.hid (show (w.drew.alloc (.cells cur 28)).ownsRow w.heap.size 28 6 (.slice (some ⟨w.heap.size, 0, none⟩) 0 G) 0 [] from
    ⟨by simp, .inr ⟨w.heap.size, G, cur, rfl, Nat.le_refl _, World.alloc_heap_new w.drew _, Nat.zero_le _, hGm, hcur, by simp⟩⟩)
  have HB := Lib.hid (show Below w.heap.size w (w.drew.alloc (.cells cur 28)) from (Below.drew (Below.refl _ _)).alloc (Nat.le_refl _) _)
  have hG63 : G ≤ 9223372036854775807 := by unfold maxLen at hGm; omega
  have HRZ := Lib.hid hrz
  clear hold hZ hcur hGm hrz
  go_enter Tryz.func82, Tryz.ntmps82
  go_wp2_with (at_builtin; refine wpList_append_run rfl _ _ 29 3 rfl (.slice none 0 0) (.int .i64 n) _ rfl rfl (HRZ.out _) ?_)
  go_ret
  exact ⟨_, rfl, HOW.out, HB.out⟩
end Go.Proofs.YtnjdganikeganaaGreatDoor

/-
  Contract: slices.Concat of two lists of literals.
-/
namespace Go.Proofs.YtnjdganikeganaaGreatDoor
open Go.RowKit

set_option maxHeartbeats 8000000 in
set_option maxRecDepth 100000 in
theorem concat_any (sb : Nat) (q1 q2 : Option Addr) (c1 c2 : Nat) (l1 l2 : List Lp) (w : World) (hb : sb < w.heap.size) (h0 : w.cell? ⟨sb, 0, none⟩ = some (.slice q1 l1.length c1)) (h1 : w.cell? ⟨sb, 1, none⟩ = some (.slice q2 l2.length c2))
    (r1 : Rd encL 6 w w.heap.size q1 l1) (r2 : Rd encL 6 w w.heap.size q2 l2) (hl : l1.length + l2.length ≤ 1000) (hp : 0 < l1.length) :
    Calls Tryz.prog 52 #[.slice (some ⟨sb, 0, none⟩) 2 2] w fun e w' => ∃ q c, e = .returned (.slice q (l1 ++ l2).length c) ∧ Rd encL 6 w' w'.heap.size q (l1 ++ l2) ∧ Below w.heap.size w w' := by
  obtain ⟨i0, hi, hz0, hz1, hzb⟩ := info_parts infoLit
  have HR1 := Lib.hid r1
  have HR2 := Lib.hid r2
  have HG := Lib.hid (show ∀ wx, Calls Tryz.prog 82 #[.slice none 0 0, .int .i64 ((l1.length : Int) + (l2.length : Int))] wx fun e w' => ∃ v, e = .returned v ∧ w'.ownsRow wx.heap.size 28 6 v 0 [] ∧ Below wx.heap.size wx w' from fun wx => by
    have := grow_any (l1.length + l2.length) wx (by omega) (by omega)
    rwa [Int.natCast_add] at this)
  clear r1 r2
  go_enter Tryz.func52, Tryz.ntmps52
  go_wp2_with fail
  go_loopw [3, 11] (fun sz i wr => ∃ j : Nat, j ≤ 2 ∧ i = .int .i64 j ∧ sz = .int .i64 (if j = 0 then (0 : Int) else if j = 1 then (l1.length : Int) else (l1.length : Int) + (l2.length : Int)) ∧ wr = w) (fun _ i _ => 2 - (intOf i).toNat)
  case atStart => exact ⟨0, by omega, rfl, rfl, rfl⟩
  case round =>
    obtain ⟨j, hj, rfl, rfl, rfl⟩ := hrel
    match j, hj with
    | 0, _ =>
      have hn1 : ¬ ((l1.length : Int) < 0) := by omega
      simp only [if_true]
      go_wp2_with fail
      go_roundw
      case rel => exact ⟨1, by omega, by go_num, by simp, trivial⟩
      case measure => simp [intOf]
    | 1, _ =>
      have hn2 : ¬ ((l1.length : Int) + (l2.length : Int) < 0) := by omega
      simp only [show ¬ ((1 : Nat) = 0) by decide, if_false, if_true]
      have hw1 : wrap64 ((l1.length : Int) + (l2.length : Int)) = (l1.length : Int) + (l2.length : Int) := by unfold wrap64; omega
      have hw0 : IntKind.i64.wrap ((l1.length : Int) + (l2.length : Int)) = (l1.length : Int) + (l2.length : Int) := IntWalk.i64_in _ (by clear hw1; omega)
      go_wp2_with fail
      go_roundw
      case rel => exact ⟨2, by omega, by go_num, by simp, trivial⟩
      case measure => simp [intOf]
    | 2, _ =>
      simp only [show ¬ ((2 : Nat) = 0) by decide, show ¬ ((2 : Nat) = 1) by decide, if_false]
      go_wp2_with (go_at_call 82; refine (HG.out _).mono ?_; rintro e w1 ⟨v, rfl, ho1, hb1⟩; have HO1 := Lib.hid ho1; have HB1 := Lib.hid hb1; have y0 := (hb1.cell (p := ⟨sb, 0, none⟩) hb).trans h0; have y1 := (hb1.cell (p := ⟨sb, 1, none⟩) hb).trans h1; clear ho1 hb1)
      go_loopw [6, 27] (fun v i wx => ∃ (j : Nat) (xs : List Lp), j ≤ 2 ∧ i = .int .i64 j ∧ xs = (if j = 0 then [] else if j = 1 then l1 else l1 ++ l2) ∧ Hid (wx.ownsRow wr.heap.size 28 6 v xs.length (flatE encL xs)) ∧ Below wr.heap.size wr wx) (fun _ i _ => 2 - (intOf i).toNat)
      case atStart => exact ⟨0, [], by omega, rfl, rfl, HO1, HB1.out⟩
      case round =>
        obtain ⟨j2, xs, hj2, rfl, hxs, HO2, hb2⟩ := hrel
        have HB2 := Lib.hid hb2
        have z0 := (hb2.cell (p := ⟨sb, 0, none⟩) hb).trans h0
        have z1 := (hb2.cell (p := ⟨sb, 1, none⟩) hb).trans h1
        clear hb2
        match j2, hj2, hxs with
        | 0, _, hxs =>
          obtain rfl : xs = [] := hxs
          clear hxs
          have HLA := Lib.hid (show ([] : List Lp).length + l1.length ≤ maxLen by unfold maxLen; simp only [List.length_nil]; omega)
          have HLB := Lib.hid (show (([] : List Lp).length + l1.length) * 88 ≤ 140737488355328 by simp only [List.length_nil]; omega)
          go_wp2_with (at_builtin; refine wpList_appendE EL rfl _ _ 29 rfl _ 28 i0 _ 88 underLs hi hz0 hz1 hzb rfl _ [] rfl HO2.out q1 l1 c1 rfl (HR1.out.below HB2.out (Nat.le_refl _)) HLA.out HLB.out HB2.out.size ?_; intro v3 w3 ho3 hb3 _ _; have HO3 := Lib.hid ho3; have HB3 := Lib.hid (HB2.out.trans hb3); clear ho3 hb3)
          go_roundw
          case rel => exact ⟨1, l1, by omega, by go_num, by simp, by simpa using HO3, HB3.out⟩
          case measure => simp [intOf]
        | 1, _, hxs =>
          obtain rfl : xs = l1 := hxs
          clear hxs
          have HLA := Lib.hid (show xs.length + l2.length ≤ maxLen by unfold maxLen; omega)
          have HLB := Lib.hid (show (xs.length + l2.length) * 88 ≤ 140737488355328 by omega)
          go_wp2_with (at_builtin; refine wpList_appendE EL rfl _ _ 29 rfl _ 28 i0 _ 88 underLs hi hz0 hz1 hzb rfl _ xs rfl HO2.out q2 l2 c2 rfl (HR2.out.below HB2.out (Nat.le_refl _)) HLA.out HLB.out HB2.out.size ?_; intro v3 w3 ho3 hb3 _ _; have HO3 := Lib.hid ho3; have HB3 := Lib.hid (HB2.out.trans hb3); clear ho3 hb3)
          go_roundw
          case rel => exact ⟨2, xs ++ l2, by omega, by go_num, by simp, HO3, HB3.out⟩
          case measure => simp [intOf]
        | 2, _, hxs =>
          obtain rfl : xs = l1 ++ l2 := hxs
          clear hxs
          obtain ⟨q, c, rfl, hrd, _⟩ := grw_form EL (.inr HO2.out) HB2.out.size
          have HRD := Lib.hid hrd
          clear hrd
          go_wp2_with fail
          go_ret
          exact ⟨q, c, rfl, HRD.out, HB2.out⟩
end Go.Proofs.YtnjdganikeganaaGreatDoor
