/-
  Joined of: VarC, VarD, VarE, FixA.
-/
import Derived.Test.YtnjdganikeganaaGreatDoorJa20
set_option linter.unusedVariables false
set_option linter.unusedSimpArgs false
/-
  Contract: what clause.Vars hands its terms to: a variable that is not there yet is put behind the others.
-/
namespace Go.Proofs.YtnjdganikeganaaGreatDoor
open Go.RowKit

/-- a list of names with one more, unless it is empty or there -/
def putV (xs : List ByteArray) (v : ByteArray) : List ByteArray := if v.toList.isEmpty then xs else if Lib.containsS xs v then xs else xs ++ [v]
theorem putV_len (xs : List ByteArray) (v : ByteArray) : (putV xs v).length ≤ xs.length + 1 := by
  unfold putV
  split
  · omega
  · split
    · omega
    · simp
/-- The names lie in a row of the call's own, which a box holds; else memory below B is as it was. -/
structure VI (w0 w2 : World) (B vb : Nat) (xs : List ByteArray) (w : World) : Prop where
  below : Below w0.heap.size w0 w
  old : ∀ k, k < B → k ≠ vb → w.heap[k]? = w2.heap[k]?
  own : ∃ v, Boxed w vb 56 v ∧ w.ownsRow B 9 1 v xs.length (flatE encS xs)
  lo : w0.heap.size ≤ vb
  hvb : vb < B
  hi : B ≤ w.heap.size
theorem VI.on {w0 w2 w w' : World} {B vb : Nat} {xs : List ByteArray} (h : VI w0 w2 B vb xs w) (hb : Below w.heap.size w w') : VI w0 w2 B vb xs w' := by
  obtain ⟨v, h1, h2⟩ := h.own
  have hi := h.hi
  exact ⟨h.below.trans (hb.mono h.below.size), fun k hk hn => (hb.block k (by omega)).trans (h.old k hk hn), ⟨v, Boxed.below h1 hb h1.lt, own_below h2 hb⟩, h.lo, h.hvb, Nat.le_trans h.hi hb.size⟩
theorem VI.push {w0 w2 w w7 : World} {B vb : Nat} {xs : List ByteArray} {x : ByteArray} {v v' : Value} (h : VI w0 w2 B vb xs w) (hv : Boxed w7 vb 56 v) (hb : Below B w w7)
    (ho : w7.ownsRow B 9 1 v' (xs ++ [x]).length (flatE encS (xs ++ [x]))) : VI w0 w2 B vb (xs ++ [x]) (w7.setCell ⟨vb, 0, none⟩ v') := by
  have h1 := h.lo
  have h2 := h.hi
  have h3 := h.hvb
  exact ⟨(h.below.trans (hb.mono (by omega))).trans (setB h1 0 _), fun k hk hn => (Below.heap_setCell w7 ⟨vb, 0, none⟩ v' k hn).trans ((hb.block k hk).trans (h.old k hk hn)), ⟨v', Boxed.set _ hv, ownsRow_setCell_below ho (a := ⟨vb, 0, none⟩) (by show vb < B; omega) _⟩, h1, h3, Nat.le_trans h2 (Nat.le_trans hb.size (setB (w := w7) (B := 0) (b := vb) (Nat.zero_le _) 0 v').size)⟩
/-- a block that no put touches -/
def Off (w : World) (vb k : Nat) : Prop := k < w.heap.size ∧ k ≠ vb ∧ ∀ bv, Boxed w vb 56 bv → bv.ownBlock ≠ some k
theorem Off.on {w w' : World} {vb k : Nat} (h : Off w vb k) (hv : vb < w.heap.size) (hb : Below w.heap.size w w') : Off w' vb k ∧ w'.heap[k]? = w.heap[k]? :=
  ⟨⟨Nat.lt_of_lt_of_le h.1 hb.size, h.2.1, fun bv hbv => h.2.2 bv ((hb.block vb hv).symm.trans hbv)⟩, hb.block k h.1⟩
theorem Off.fresh {w : World} {B vb : Nat} {xs : List ByteArray} {w0 w2 : World} (h : VI w0 w2 B vb xs w) (o : Obj) : Off (w.alloc o) vb w.heap.size := by
  have h1 := h.hvb
  have h2 := h.hi
  refine ⟨by simp, by omega, fun bv hbv e => ?_⟩
  obtain ⟨v, hv, ho⟩ := h.own
  have e2 : bv = v := by
    have a := Boxed.cell hbv
    rw [Boxed.cell (Boxed.below hv (below1 w o) hv.lt)] at a
    injection a with a; exact a.symm
  subst e2
  have := (ho.lt _ e).2
  omega
theorem contains_own {w : World} {base : Nat} {v : Value} (xs : List ByteArray) (x : ByteArray) (h : w.ownsRow base 9 1 v xs.length (flatE encS xs)) (hn : xs.length ≤ 100000) :
    Calls Tryz.prog 51 #[v, .string x] w fun e w' => e = .returned (.bool (Lib.containsS xs x)) ∧ w' = w := by
  rcases h.2 with ⟨rfl, h0⟩ | ⟨g, cap, cur, rfl, hb, hg, hcap, _⟩
  · obtain rfl := List.length_eq_zero_iff.1 h0
    exact Tryz.slices_Contains_string_empty none 0 x w
  · have := Tryz.slices_Contains_string g 0 xs.length cap xs x w (Nat.le_refl _) (by omega) (fun j hj => by
      have := h.cells (g := g) rfl (j * 1 + 0) (.string xs[j]) (by rw [flatE_get ES xs j hj 0 (by decide)]; rfl)
      rw [Addr.add_lit] at this
      have e : xs.getD j ByteArray.empty = xs[j] := by simp [List.getD, hj]
      rw [e]
      simpa using this)
    rw [List.take_length] at this
    exact this

/-- a block just laid reads as its one element -/
theorem rd_fresh {α : Type} {enc : α → List Value} {k : Nat} (E : Enc enc k) (w : World) (T : TypeId) (cs : Array Value) (x : α) (h : cs.toList = enc x) : Rd enc k (w.alloc (.cells cs T)) (w.alloc (.cells cs T)).heap.size (some ⟨w.heap.size, 0, none⟩) [x] := by
  refine .inr ⟨w.heap.size, 0, rfl, by simp, fun i hi r u hu => ?_⟩
  have hi0 : i = 0 := by simp at hi; exact hi
  subst hi0
  have := (Bk.new w T cs).cell r u (by rw [h]; exact hu)
  simpa using this

set_option maxHeartbeats 8000000 in
set_option maxRecDepth 100000 in
theorem put_any (w0 w2 w : World) (B vb : Nat) (xs : List ByteArray) (t : Tm) (h : VI w0 w2 B vb xs w) (hl : xs.length ≤ 4096) :
    Calls Tryz.prog 50 #[.agg #[.string t.v, .string t.s, .int .i64 t.n], .pointer (some ⟨vb, 0, none⟩)] w fun e w' => e = .returned (.tuple #[]) ∧ VI w0 w2 B vb (putV xs t.v) w' ∧ ∀ k, Off w vb k → Off w' vb k ∧ w'.heap[k]? = w.heap[k]? := by
  have HI := Lib.hid h
  have HB := Lib.hid (below1 w)
  obtain ⟨i0, hii, hz0, hz1, hzb⟩ := info_parts infoStr
  obtain ⟨bv, hbx, hown⟩ := h.own
  have hlt := hbx.lt
  have y0 : ∀ o, (w.alloc o).cell? ⟨vb, 0, none⟩ = some bv := fun o => Boxed.cell (Boxed.below hbx (below1 w o) hlt)
  have HC := Lib.hid (show ∀ o, Calls Tryz.prog 51 #[bv, .string t.v] (w.alloc o) fun e w' => e = .returned (.bool (Lib.containsS xs t.v)) ∧ w' = w.alloc o from fun o => contains_own xs t.v (own_below hown (below1 w o)) (by omega))
  have HP := Lib.hid (show putV xs t.v = if t.v.toList.isEmpty then xs else if Lib.containsS xs t.v then xs else xs ++ [t.v] from rfl)
  have HBX := Lib.hid hbx
  have HOW := Lib.hid hown
  have HL1 := Lib.hid (show xs.length + [t.v].length ≤ maxLen by unfold maxLen; simp; omega)
  have HL2 := Lib.hid (show (xs.length + [t.v].length) * 16 ≤ 140737488355328 by simp; omega)
  have h65 := h.hi
  have h66 := h.hvb
  generalize putV xs t.v = R at *
  obtain ⟨v, s, n⟩ := t
  simp only at HP HC HL1 HL2 ⊢
  clear h hbx hown
  cases h0 : v.toList.isEmpty with
  | true =>
    go_enter Tryz.func50, Tryz.ntmps50
    go_wp2_with fail
    go_end0
    exact ⟨rfl, by rw [HP.out, h0]; exact HI.out.on (HB.out _), fun k hk => hk.on hlt (HB.out _)⟩
  | false =>
    cases hc : Lib.containsS xs v with
    | true =>
      rw [hc] at HC
      go_enter Tryz.func50, Tryz.ntmps50
      go_wp2_with (go_at_call 51; refine (HC.out _).mono ?_; rintro e w1 ⟨rfl, rfl⟩)
      go_end0
      exact ⟨rfl, by rw [HP.out, h0, hc]; exact HI.out.on (HB.out _), fun k hk => hk.on hlt (HB.out _)⟩
    | false =>
      rw [hc] at HC
      have hw : ∀ o o', Below B w ((w.alloc o).alloc o') := fun o o' => (below2 w o o').mono h65
      go_enter Tryz.func50, Tryz.ntmps50
      go_wp2_with (first
        | (go_at_call 51; refine (HC.out _).mono ?_; rintro e w1 ⟨rfl, rfl⟩)
        | (at_builtin; refine wpList_appendE ES rfl _ _ 56 rfl B 9 i0 _ 16 underSs hii hz0 hz1 hzb rfl _ xs rfl (own_below (own_below HOW.out (below1 _ _)) (below1 _ _)) (some ⟨w.heap.size + 1, 0, none⟩) [v] 1 rfl (by have h := rd_fresh ES (w.alloc (.cells #[.string v, .string s, .int .i64 n] 25)) 9 #[.string v] v rfl; simpa using h) HL1.out HL2.out (Nat.le_trans h65 (below2 w _ _).size) ?_; intro v7 w7 ho7 hb7 hg7 hat7; have HG7 := Lib.hid hg7; have HAT7 := Lib.hid hat7; clear hg7 hat7; obtain ⟨g7, cap7, rfl, _, _⟩ := World.ownsRow.form ho7 (by simp); have HB7 := Lib.hid ((hw _ _).trans hb7); have HBX7 := Lib.hid (Boxed.below HBX.out HB7.out h66); have x7 := Boxed.cell HBX7.out; have f7 := Boxed.frozen HBX7.out; have HO7 := Lib.hid ho7; clear ho7 hb7))
      go_end0
      refine ⟨rfl, by rw [HP.out, h0, hc]; exact VI.push HI.out HBX7.out HB7.out (by simpa using HO7.out), fun k hk => ?_⟩
      have hk2 := (hk.on hlt (below2 w (.cells #[.string v, .string s, .int .i64 n] 25) (.cells #[.string v] 9)))
      have hne : some k ≠ bv.ownBlock := fun e => hk.2.2 bv HBX.out e.symm
      have hkb := HG7.out.block k hk2.1.1 hne
      have hsz := HG7.out.size
      refine ⟨⟨?_, hk.2.1, fun bv' hbv' e => ?_⟩, (Below.heap_setCell w7 ⟨vb, 0, none⟩ _ k hk.2.1).trans (hkb.trans hk2.2)⟩
      · have := hk2.1.1
        simp at this hsz ⊢
        omega
      · have a := Boxed.cell hbv'
        rw [Boxed.cell (Boxed.set _ HBX7.out)] at a
        injection a with a
        subst a
        rcases HAT7.out k e with e | e
        · exact hne e.symm
        · have := hk.1
          simp at e
          omega
end Go.Proofs.YtnjdganikeganaaGreatDoor

/-
  Contracts: clause.Vars, clause.Fact.
-/
namespace Go.Proofs.YtnjdganikeganaaGreatDoor
open Go.RowKit

/-- a literal's variables put behind others -/
def litV (xs : List ByteArray) (l : Lp) : List ByteArray := l.args.foldl (fun ys t => putV ys t.v) (putV xs l.who.v)
/-- a clause's variables -/
def Kp.vars (c : Kp) : List ByteArray := if c.check then (c.head :: c.body).foldl litV [] else []
theorem putArgs_len (l : List Tm) (xs : List ByteArray) : (l.foldl (fun ys t => putV ys t.v) xs).length ≤ xs.length + l.length := by
  induction l generalizing xs with
  | nil => simp
  | cons t r ih =>
    have h1 := ih (putV xs t.v)
    have h2 := putV_len xs t.v
    simp only [List.foldl_cons, List.length_cons]
    omega
theorem litV_len (xs : List ByteArray) (l : Lp) : (litV xs l).length ≤ xs.length + 1 + l.args.length := by
  unfold litV
  have h1 := putArgs_len l.args (putV xs l.who.v)
  have h2 := putV_len xs l.who.v
  omega
theorem foldl_take {α β : Type} (f : β → α → β) (b : β) (l : List α) (j : Nat) (h : j < l.length) : (l.take (j + 1)).foldl f b = f ((l.take j).foldl f b) l[j] := by
  rw [List.take_succ_eq_append_getElem h, List.foldl_append]; rfl
theorem lit_args {l : Lp} (h : l.lit = true) : l.args.length ≤ 4 := by
  unfold Lp.lit at h
  split at h
  · unfold Lp.said at h; simp only [Bool.and_eq_true, decide_eq_true_eq] at h; exact h.2.2.1
  · split at h
    · unfold Lp.comp at h; simp only [Bool.and_eq_true, decide_eq_true_eq] at h; omega
    · exact absurd h (by decide)
theorem ask_lit {l : Lp} (h : l.ask = true) : l.lit = true := by
  unfold Lp.ask at h
  simp only [Bool.and_eq_true, beq_iff_eq] at h
  unfold Lp.lit
  rw [if_pos (by simp [h.1])]
  exact h.2
theorem Kp.all_lit {c : Kp} (h : c.check = true) : c.body.length ≤ 6 ∧ ∀ l ∈ c.head :: c.body, l.lit = true := by
  unfold Kp.check at h
  simp only [Bool.and_eq_true, decide_eq_true_eq, List.all_eq_true] at h
  obtain ⟨h1, _, h3, h4⟩ := h
  refine ⟨h1, fun l hl => ?_⟩
  rcases List.mem_cons.1 hl with rfl | hl
  · exact ask_lit h3
  · exact h4 l hl

theorem Boxed.no_u8s {w : World} {b : Nat} {T : TypeId} {y : Int} (h : Boxed w b T (.slice none 0 0)) (o : Nat) : w.cell? ⟨b, o, none⟩ ≠ some (.int .u8 y) := by
  intro e
  simp only [World.cell?, show w.heap[b]? = _ from h] at e
  match o, e with
  | 0, e => simp at e
  | o + 1, e => simp at e
theorem VI.rdL {w0 w2 w : World} {vb : Nat} {xs : List ByteArray} {q : Option Addr} {L : List Lp} (h : VI w0 w2 w2.heap.size vb xs w) (hr : Rd encL 6 w2 w2.heap.size q L) (hbx : Boxed w2 vb 56 (.slice none 0 0)) : Rd encL 6 w w.heap.size q L := by
  cases L with
  | nil => exact .inl rfl
  | cons x r =>
    obtain ⟨b, o, e, hb, x0, _⟩ := rdL_at hr 0 (by simp)
    refine rd_kept hr (fun b' hb' => ?_) h.hi
    rw [hb'] at e; cases e
    exact h.old b hb (fun e => Boxed.no_u8s hbx _ (by rw [← e]; exact x0))

set_option maxHeartbeats 8000000 in
set_option maxRecDepth 100000 in
theorem vars_any (c : Kp) (w : World) (hi : c.In w w.heap.size) (he : Env w) :
    Calls Tryz.prog 26 #[c.agg] w fun e w' => ∃ q k, e = .returned (.slice q c.vars.length k) ∧ Rd encS 1 w' w'.heap.size q c.vars ∧ Below w.heap.size w w' := by
  have HB := Lib.hid (below1 w)
  have HK := Lib.hid (show ∀ o, Calls Tryz.prog 24 #[c.agg] (w.alloc o) fun e w' => e = .returned (.bool c.check) ∧ Below (w.alloc o).heap.size (w.alloc o) w' from fun o => check_any c _ (hi.grow (below1 w o)) (he.on (below1 w o)))
  cases hk : c.check with
  | false =>
    rw [hk] at HK
    have HV := Lib.hid (show c.vars = [] by unfold Kp.vars; rw [hk]; rfl)
    unfold Kp.agg at HK ⊢
    generalize c.vars = vs at *
    obtain rfl := HV.out
    clear hi he hk HV
    go_enter Tryz.func26, Tryz.ntmps26
    go_wp2_with (go_at_call 24; refine (HK.out _).mono ?_; rintro e w1 ⟨rfl, hb1⟩)
    go_ret
    exact ⟨none, 0, rfl, .nil, (HB.out _).trans (hb1.mono (HB.out _).size)⟩
  | true =>
    obtain ⟨hlen, hall⟩ := Kp.all_lit hk
    have HV := Lib.hid (show c.vars = (c.head :: c.body).foldl litV [] by unfold Kp.vars; rw [if_pos hk])
    have HA := Lib.hid (show ∀ l ∈ c.head :: c.body, l.args.length ≤ 4 from fun l hl => lit_args (hall l hl))
    have HM := Lib.hid (show ∀ l ∈ c.head :: c.body, l.In w w.heap.size from fun l hl => by
      rcases List.mem_cons.1 hl with rfl | hl
      · exact hi.head
      · exact hi.body.each l hl)
    have hln : (c.head :: c.body).length ≤ 7 := by simp; omega
    have HRB := Lib.hid hi.body.rd
    have HPT := Lib.hid (show ∀ w2 B wx vb xs (t : Tm), VI w w2 B vb xs wx → xs.length ≤ 4096 → Calls Tryz.prog 50 #[.agg #[.string t.v, .string t.s, .int .i64 t.n], .pointer (some ⟨vb, 0, none⟩)] wx fun e w' => e = .returned (.tuple #[]) ∧ VI w w2 B vb (putV xs t.v) w' ∧ ∀ k, Off wx vb k → Off w' vb k ∧ w'.heap[k]? = wx.heap[k]? from fun w2 B wx vb xs t hx hl => put_any w w2 wx B vb xs t hx hl)
    have HCC := Lib.hid (show ∀ sb q1 q2 c1 c2 wx, sb < wx.heap.size → wx.cell? ⟨sb, 0, none⟩ = some (.slice q1 1 c1) → wx.cell? ⟨sb, 1, none⟩ = some (.slice q2 c.body.length c2) → Rd encL 6 wx wx.heap.size q1 [c.head] → Rd encL 6 wx wx.heap.size q2 c.body → Calls Tryz.prog 52 #[.slice (some ⟨sb, 0, none⟩) 2 2] wx fun e w' => ∃ q k, e = .returned (.slice q (c.head :: c.body).length k) ∧ Rd encL 6 w' w'.heap.size q (c.head :: c.body) ∧ Below wx.heap.size wx w' from
      fun sb q1 q2 c1 c2 wx hb h0 h1 r1 r2 => concat_any sb q1 q2 c1 c2 [c.head] c.body wx hb h0 h1 r1 r2 (by simp; omega) (by simp))
    have hmf : ∀ (fn : Fn) (first cap : Array Value) (w : World), (Instr.makeFunc fn first cap).run Tryz.prog w = .ok (.func fn first cap) w := fun _ _ _ _ => rfl
    rw [hk] at HK
    unfold Kp.agg at HK ⊢
    generalize c.vars = vs at *
    obtain ⟨⟨kd, ⟨v, s, n⟩, p, hq, hc, xs⟩, q, cc, bs⟩ := c
    simp only at HK HV HA HM HRB HCC hlen hln ⊢
    generalize hL : (⟨kd, ⟨v, s, n⟩, p, hq, hc, xs⟩ : Lp) :: bs = L at *
    clear hi he hk hall hL
    go_enter Tryz.func26, Tryz.ntmps26
    go_wp2_with (first
      | (go_at_call 24; refine (HK.out _).mono ?_; rintro e w1 ⟨rfl, hb1⟩; have HBK := Lib.hid ((Bk.new w _ _).on hb1); obtain ⟨e0, e1, e2, e3, e4, e5, e6⟩ := HBK.out.seven; have i0 : ∀ o, (w1.alloc o).cell? ⟨w.heap.size, 0, none⟩ = some (.int .u8 kd) := fun o => (HBK.out.on (below1 w1 o)).cell 0 _ rfl; have i1 : ∀ o, (w1.alloc o).cell? ⟨w.heap.size, 1, none⟩ = some (.string v) := fun o => (HBK.out.on (below1 w1 o)).cell 1 _ rfl; have i2 : ∀ o, (w1.alloc o).cell? ⟨w.heap.size, 2, none⟩ = some (.string s) := fun o => (HBK.out.on (below1 w1 o)).cell 2 _ rfl; have i3 : ∀ o, (w1.alloc o).cell? ⟨w.heap.size, 3, none⟩ = some (.int .i64 n) := fun o => (HBK.out.on (below1 w1 o)).cell 3 _ rfl; have i4 : ∀ o, (w1.alloc o).cell? ⟨w.heap.size, 4, none⟩ = some (.string p) := fun o => (HBK.out.on (below1 w1 o)).cell 4 _ rfl; have i5 : ∀ o, (w1.alloc o).cell? ⟨w.heap.size, 5, none⟩ = some (.slice hq xs.length hc) := fun o => (HBK.out.on (below1 w1 o)).cell 5 _ rfl; have i6 : ∀ o o', ((w1.alloc o).alloc o').cell? ⟨w.heap.size, 6, none⟩ = some (.slice q bs.length cc) := fun o o' => ((HBK.out.on (below1 w1 o)).on (below1 _ o')).cell 6 _ rfl; have HB1 := Lib.hid ((HB.out _).trans (hb1.mono (HB.out _).size)); clear hb1)
      | (go_at_call 52; refine (HCC.out (w1.heap.size + 1 + 1) (some ⟨w1.heap.size + 1, 0, none⟩) q 1 cc _ (by simp) ((Bk.new3 w1 _ _ _ _).cell 0 _ rfl) ((Bk.new3 w1 _ _ _ _).cell 1 _ rfl) (by have h := (rd_fresh EL (w1.alloc (.cells #[.slice none 0 0] 56)) 28 #[.int .u8 kd, .string v, .string s, .int .i64 n, .string p, .slice hq xs.length hc] ⟨kd, ⟨v, s, n⟩, p, hq, hc, xs⟩ rfl).grow (below1 _ (.cells #[.slice (some ⟨w1.heap.size + 1, 0, none⟩) 1 1, .slice q bs.length cc] 29)); simpa using h) (HRB.out.grow (HB1.out.trans ((below3 w1 _ _ _).mono HB1.out.size)))).mono ?_; rintro e w2 ⟨q2, c2, rfl, hr2, hb2⟩; have HR2 := Lib.hid hr2; have HBX2 := Lib.hid (((Bk.new1 w1 _ _ _).on (below1 _ _)).on hb2); have HB2 := Lib.hid ((HB1.out.trans ((below3 w1 _ _ _).mono HB1.out.size)).trans (hb2.mono (Nat.le_trans HB1.out.size (below3 w1 _ _ _).size))); clear hr2 hb2))
    have hst : VI w w2 w2.heap.size w1.heap.size [] w2 := ⟨HB2.out, fun _ _ _ => rfl, ⟨_, HBX2.out, World.ownsRow_nil _ _ _ _⟩, HB1.out.size, HBX2.out.lt, Nat.le_refl _⟩
    have HST := Lib.hid hst
    have hbs : w2.heap.size = w2.heap.size := rfl
    clear hst
    go_loopw [21] (fun i wr => ∃ j : Nat, j ≤ L.length ∧ i = .int .i64 j ∧ Hid (VI w w2 w2.heap.size w1.heap.size ((L.take j).foldl litV []) wr) ∧ Hid (((L.take j).foldl litV []).length ≤ 5 * j)) (fun i _ => L.length - (intOf i).toNat)
    case atStart => exact ⟨0, Nat.zero_le _, rfl, HST, Lib.hid (Nat.le_refl _)⟩
    case round =>
      obtain ⟨j, hj, rfl, HI, HLE⟩ := hrel
      by_cases hlt : j < L.length
      · obtain ⟨b, o, rfl, hbb, x0, x1, x2, x3, x4, x5⟩ := rdL_at (HI.out.rdL HR2.out HBX2.out) j hlt
        have HIN := Lib.hid ((HM.out _ (List.getElem_mem hlt)).args)
        have hal := HA.out _ (List.getElem_mem hlt)
        have HST2 := Lib.hid (show (L.take (j + 1)).foldl litV [] = L[j].args.foldl (fun ys t => putV ys t.v) (putV ((L.take j).foldl litV []) L[j].who.v) from foldl_take litV [] L j hlt)
        have HVB := Lib.hid HI.out.hvb
        generalize (L.take j).foldl litV [] = acc at *
        have HPW := Lib.hid (HPT.out w2 w2.heap.size · w1.heap.size acc L[j].who · (by have := HLE.out; omega))
        have hpl := putV_len acc L[j].who.v
        generalize L[j].args = ars at *
        generalize L[j].who = wh at *
        generalize L[j].ptr = pq at *
        go_wp2_with (go_at_call 50; refine (HPW.out _ (HI.out.on (below1 wr _))).mono ?_; rintro e w3 ⟨rfl, hv3, hk3⟩; have HV3 := Lib.hid hv3; have hbk := (hk3 wr.heap.size (Off.fresh HI.out _)).2.trans (Bk.new wr _ _); have y5 := Bk.cell hbk 5 _ rfl; clear hv3 hk3 hbk)
        go_loopw [32] (fun i2 wy => ∃ k : Nat, k ≤ ars.length ∧ i2 = .int .i64 k ∧ Hid (VI w w2 w2.heap.size w1.heap.size ((ars.take k).foldl (fun ys t => putV ys t.v) (putV acc wh.v)) wy)) (fun i2 _ => ars.length - (intOf i2).toNat)
        case atStart => exact ⟨0, Nat.zero_le _, rfl, HV3⟩
        case round =>
          obtain ⟨k, hk, rfl, HJ⟩ := hrel
          by_cases hlt2 : k < ars.length
          · obtain ⟨b2, o2, rfl, hb2, a0, a1, a2⟩ := rdM_at (HIN.out.below HJ.out.below (Nat.le_refl _)) k hlt2
            have hb2' := Nat.lt_of_lt_of_le hb2 HJ.out.below.size
            have HST3 := Lib.hid (foldl_take (fun ys (t : Tm) => putV ys t.v) (putV acc wh.v) ars k hlt2)
            have hp1 := putArgs_len (ars.take k) (putV acc wh.v)
            have hp2 : (ars.take k).length ≤ 4 := by rw [List.length_take]; omega
            have hp3 := HLE.out
            generalize (ars.take k).foldl (fun ys t => putV ys t.v) (putV acc wh.v) = acc3 at *
            have HPX := Lib.hid (HPT.out w2 w2.heap.size · w1.heap.size acc3 ars[k] · (by omega))
            generalize ars[k] = tk at *
            go_wp2_with (go_at_call 50; refine (HPX.out _ (HJ.out.on (below1 _ _))).mono ?_; rintro e w4 ⟨rfl, hv4, _⟩; have HV4 := Lib.hid hv4; clear hv4)
            go_roundw
            case rel => exact ⟨k + 1, by omega, by go_num, Lib.hid (by rw [HST3.out]; exact HV4.out)⟩
            case measure => simp [intOf]; omega
          · have hke : ars.take k = ars := List.take_of_length_le (by omega)
            rw [hke] at HJ
            have hp1 := putArgs_len ars (putV acc wh.v)
            have hp3 := HLE.out
            go_wp2_with fail
            go_roundw
            case rel => exact ⟨j + 1, by omega, by go_num, Lib.hid (by rw [HST2.out]; exact HJ.out), Lib.hid (by rw [HST2.out]; omega)⟩
            case measure => simp [intOf]; omega
      · have hje : L.take j = L := List.take_of_length_le (by omega)
        obtain ⟨bv, hbx, hown⟩ := HI.out.own
        rw [hje] at hown
        have x0 := Boxed.cell hbx
        obtain ⟨q', k', rfl, hrd, _⟩ := grw_form ES (.inr hown) HI.out.hi
        have HRD := Lib.hid hrd
        clear hrd hbx hown
        go_wp2_with fail
        go_ret
        exact ⟨q', ⟨k', by rw [HV.out]; rfl⟩, by rw [HV.out]; exact HRD.out, HI.out.below⟩
end Go.Proofs.YtnjdganikeganaaGreatDoor

/-
  Contract: clause.Fact.
-/
namespace Go.Proofs.YtnjdganikeganaaGreatDoor
open Go.RowKit

def Kp.fact (c : Kp) : Bool := c.check && (decide (c.body.length = 0) && decide (c.vars.length = 0))

set_option maxHeartbeats 8000000 in
set_option maxRecDepth 100000 in
theorem fact_any (c : Kp) (w : World) (hi : c.In w w.heap.size) (he : Env w) :
    Calls Tryz.prog 28 #[c.agg] w fun e w' => e = .returned (.bool c.fact) ∧ Below w.heap.size w w' := by
  have HB := Lib.hid (below1 w)
  have HK := Lib.hid (show ∀ o, Calls Tryz.prog 24 #[c.agg] (w.alloc o) fun e w' => e = .returned (.bool c.check) ∧ Below (w.alloc o).heap.size (w.alloc o) w' from fun o => check_any c _ (hi.grow (below1 w o)) (he.on (below1 w o)))
  have HV := Lib.hid (show ∀ X, Below w.heap.size w X → Calls Tryz.prog 26 #[c.agg] X fun e w' => ∃ q k, e = .returned (.slice q c.vars.length k) ∧ Below X.heap.size X w' from fun X hX => (vars_any c X (hi.grow hX) (he.on hX)).mono fun e w' ⟨q, k, h1, _, h3⟩ => ⟨q, k, h1, h3⟩)
  have HF := Lib.hid (show c.fact = (c.check && (decide (c.body.length = 0) && decide (c.vars.length = 0))) from rfl)
  unfold Kp.agg at *
  generalize c.fact = ft at *
  generalize c.check = ck at *
  generalize c.vars.length = vn at *
  generalize c.body.length = bn at *
  clear hi he
  cases ck with
  | false =>
    go_enter Tryz.func28, Tryz.ntmps28
    go_wp2_with (go_at_call 24; refine (HK.out _).mono ?_; rintro e w1 ⟨rfl, hb1⟩)
    go_ret
    exact ⟨by rw [HF.out]; rfl, (HB.out _).trans (hb1.mono (HB.out _).size)⟩
  | true =>
    by_cases hb : bn = 0
    · subst hb
      by_cases hv : vn = 0
      · subst hv
        go_enter Tryz.func28, Tryz.ntmps28
        go_wp2_with (first
          | (go_at_call 24; refine (HK.out _).mono ?_; rintro e w1 ⟨rfl, hb1⟩; have HBK := Lib.hid ((Bk.new w _ _).on hb1); obtain ⟨e0, e1, e2, e3, e4, e5, e6⟩ := HBK.out.seven; have HB1 := Lib.hid ((HB.out _).trans (hb1.mono (HB.out _).size)); clear hb1)
          | (go_at_call 26; refine (HV.out _ HB1.out).mono ?_; rintro e w2 ⟨q2, k2, rfl, hb2⟩; have HB2 := Lib.hid (HB1.out.trans (hb2.mono HB1.out.size)); clear hb2))
        go_ret
        exact ⟨by rw [HF.out]; rfl, HB2.out⟩
      · have hv' : ((vn : Int) == 0) = false := by simp; omega
        have HD := Lib.hid (show decide (vn = 0) = false by simp [hv])
        go_enter Tryz.func28, Tryz.ntmps28
        go_wp2_with (first
          | (go_at_call 24; refine (HK.out _).mono ?_; rintro e w1 ⟨rfl, hb1⟩; have HBK := Lib.hid ((Bk.new w _ _).on hb1); obtain ⟨e0, e1, e2, e3, e4, e5, e6⟩ := HBK.out.seven; have HB1 := Lib.hid ((HB.out _).trans (hb1.mono (HB.out _).size)); clear hb1)
          | (go_at_call 26; refine (HV.out _ HB1.out).mono ?_; rintro e w2 ⟨q2, k2, rfl, hb2⟩; have HB2 := Lib.hid (HB1.out.trans (hb2.mono HB1.out.size)); clear hb2))
        go_ret
        exact ⟨by rw [HF.out, HD.out]; rfl, HB2.out⟩
    · have hb' : ((bn : Int) == 0) = false := by simp; omega
      have HD := Lib.hid (show decide (bn = 0) = false by simp [hb])
      go_enter Tryz.func28, Tryz.ntmps28
      go_wp2_with (go_at_call 24; refine (HK.out _).mono ?_; rintro e w1 ⟨rfl, hb1⟩; have HBK := Lib.hid ((Bk.new w _ _).on hb1); obtain ⟨e0, e1, e2, e3, e4, e5, e6⟩ := HBK.out.seven; have HB1 := Lib.hid ((HB.out _).trans (hb1.mono (HB.out _).size)); clear hb1)
      go_ret
      exact ⟨by rw [HF.out, HD.out]; rfl, HB1.out⟩
end Go.Proofs.YtnjdganikeganaaGreatDoor

/-
  Plain: what the chapter's examples come to.
-/
namespace Go.Proofs.YtnjdganikeganaaGreatDoor
open Go.RowKit

def exS1 : ByteArray := ⟨#[111, 107, 40, 88, 41, 58, 45, 98, 111, 98, 32, 115, 97, 121, 115, 32, 102, 114, 105, 101, 110, 100, 40, 88, 41, 44, 110, 111, 116, 32, 98, 97, 100, 40, 88, 41, 44, 88, 33, 61, 109, 101, 46]⟩
def exT1 : ByteArray := ⟨#[111, 107, 40, 88, 41, 32, 58, 45, 32, 98, 111, 98, 32, 115, 97, 121, 115, 32, 102, 114, 105, 101, 110, 100, 40, 88, 41, 44, 32, 110, 111, 116, 32, 98, 97, 100, 40, 88, 41, 44, 32, 88, 32, 33, 61, 32, 109, 101, 46]⟩
def exS2 : ByteArray := ⟨#[112, 32, 58, 45, 32, 88, 46]⟩
def exS3 : ByteArray := ⟨#[112, 40, 97, 44, 32, 98, 44, 32, 99, 44, 32, 100, 44, 32, 101, 41, 46]⟩
def exS4 : ByteArray := ⟨#[98, 111, 98, 32, 115, 97, 121, 115, 32, 112, 40, 88, 44, 32, 49, 41]⟩
def exS5 : ByteArray := ⟨#[112, 40, 97, 41, 46]⟩
def exC1 : Cq := ⟨⟨1, tmZ, ⟨#[111, 107]⟩, [⟨⟨#[88]⟩, ⟨#[]⟩, 0⟩]⟩, [⟨1, ⟨⟨#[]⟩, ⟨#[98, 111, 98]⟩, 0⟩, ⟨#[102, 114, 105, 101, 110, 100]⟩, [⟨⟨#[88]⟩, ⟨#[]⟩, 0⟩]⟩, ⟨2, tmZ, ⟨#[98, 97, 100]⟩, [⟨⟨#[88]⟩, ⟨#[]⟩, 0⟩]⟩, ⟨4, tmZ, ⟨#[]⟩, [⟨⟨#[88]⟩, ⟨#[]⟩, 0⟩, ⟨⟨#[]⟩, ⟨#[109, 101]⟩, 0⟩]⟩]⟩
def exL4 : Lq := ⟨1, ⟨⟨#[]⟩, ⟨#[98, 111, 98]⟩, 0⟩, ⟨#[112]⟩, [⟨⟨#[88]⟩, ⟨#[]⟩, 0⟩, ⟨⟨#[]⟩, ⟨#[]⟩, 1⟩]⟩
def exC5 : Cq := ⟨⟨1, tmZ, ⟨#[112]⟩, [⟨⟨#[]⟩, ⟨#[97]⟩, 0⟩]⟩, []⟩
/-- a clause of no place -/
def Cq.at0 (c : Cq) : Kp := ⟨c.head.at none 0, none, 0, c.body.map fun l => l.at none 0⟩
theorem lit_q (l : Lp) : (l.q.at none 0).lit = l.lit := rfl
theorem litT_q (l : Lp) : (l.q.at none 0).litT = l.litT := rfl
theorem check_q (c : Kp) : c.check = c.q.at0.check := by
  unfold Kp.check Cq.at0 Kp.q
  simp only [List.length_map, List.all_map]
  rfl
theorem txt_q (c : Kp) : c.txt = c.q.at0.txt := by
  unfold Kp.txt Cq.at0 Kp.q
  simp only [List.map_map, List.isEmpty_map]
  rfl
theorem litV_q (xs : List ByteArray) (l : Lp) : litV xs (l.q.at none 0) = litV xs l := rfl
theorem vars_q (c : Kp) : c.vars = c.q.at0.vars := by
  have h := check_q c
  unfold Kp.vars
  rw [h]
  split
  · unfold Cq.at0 Kp.q
    simp only [List.foldl_cons, List.map_map, List.foldl_map]
    rfl
  · rfl
theorem fact_q (c : Kp) : c.fact = c.q.at0.fact := by
  unfold Kp.fact
  rw [check_q c, vars_q c]
  unfold Cq.at0 Kp.q
  simp only [List.length_map]
theorem xp1 : parseR exS1 = .ok exC1 := by kernel_rfl
theorem xp2 : parseR exS2 = .error (6, 6) := by kernel_rfl
theorem xp3 : parseR exS3 = .error (2, 12) := by kernel_rfl
theorem xp4 : parseLitR exS4 = .ok exL4 := by kernel_rfl
theorem xp5 : parseR exS5 = .ok exC5 := by kernel_rfl
theorem xp1c : exC1.at0.check = true := by kernel_rfl
theorem xp1v : exC1.at0.vars = [⟨#[88]⟩] := by kernel_rfl
theorem xp1f : exC1.at0.fact = false := by kernel_rfl
theorem xp5f : exC5.at0.fact = true := by kernel_rfl
theorem xp4a : (exL4.at none 0).ask = true := by kernel_rfl
theorem xp1t : exC1.at0.txt = exT1 := by kernel_rfl
theorem xp4t : (exL4.at none 0).saidT = exS4 := by kernel_rfl
end Go.Proofs.YtnjdganikeganaaGreatDoor
