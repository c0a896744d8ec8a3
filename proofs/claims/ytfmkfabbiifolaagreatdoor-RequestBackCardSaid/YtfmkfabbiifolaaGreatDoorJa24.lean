/-
  Joined of: Apn, CpyA, RdrA, RdrB.
-/
import Derived.Test.YtfmkfabbiifolaaGreatDoorJa18
import Derived.Lib.AppendZerosOnto
import Derived.Lib.SliceRun
set_option linter.unusedVariables false
set_option linter.unusedSimpArgs false
/-
  Appending a list to a row; a fresh block is read.
-/
set_option linter.unusedVariables false
set_option linter.unusedSimpArgs false
namespace Go.Proofs.YtfmkfabbiifolaaGreatDoor
open Go.RowKit

theorem run_append_zero {P : Program} (w : World) (t ty e : TypeId) (i : TypeInfo) (ht : P.underlying t = some (.slice e)) (hi : P.info? e = some i) (a : Addr) (n d : Nat) (hn : n ≤ d) (q : Option Addr) (c : Nat) (h63 : n ≤ maxLen) :
    (Builtin.append_ #[t, t] ty #[.slice (some a) n d, .slice q 0 c]).run P w = .ok (.slice (some a) n d) w := by
  have h63' : ¬ (9223372036854775807 < (n : Int)) := by unfold maxLen at h63; omega
  cases q <;> simp [Builtin.append_, run_underlying ht, sizeOf, typeInfo, hi, Builtin.lenOf, Builtin.firstCells, loadCells, loadCellsFrom, storeCells, Result.andThen, hn, h63']
theorem run_appendE {P : Program} {w : World} {α : Type} {enc : α → List Value} {size : Nat} (E : Enc enc size) (t ty : TypeId)
    (base : Nat) (e : TypeId) (i : TypeInfo) (z : Value) (bytes : Nat) (ht : P.underlying t = some (.slice e)) (hi : P.info? e = some i) (hz : i.zero = some z)
    (hsize : i.size = size) (hby : i.bytes = bytes) (hzs : z.cells.size = size)
    (v : Value) (xs : List α) (hown : w.ownsRow base e size v xs.length (flatE enc xs))
    (q : Option Addr) (l : List α) (c : Nat) {B0 : Nat} (hr : Rd enc size w B0 q l)
    (h63 : xs.length + l.length ≤ maxLen) (hbytes : (xs.length + l.length) * bytes ≤ 140737488355328) (hbase : base ≤ w.heap.size) :
    ∃ v' w', (Builtin.append_ #[t, t] ty #[v, .slice q l.length c]).run P w = .ok v' w' ∧ w'.ownsRow base e size v' (xs ++ l).length (flatE enc (xs ++ l)) ∧ Below base w w' ∧ w.grownBy w' v.ownBlock ∧ (∀ g, v'.ownBlock = some g → v.ownBlock = some g ∨ g = w.heap.size) := by
  have hfl : flatE enc (xs ++ l) = flatE enc xs ++ flatE enc l := by simp [flatE]
  rcases Nat.eq_zero_or_pos l.length with h0 | h0
  · have he : l = [] := List.length_eq_zero_iff.1 h0
    subst he
    rcases hown.2 with ⟨rfl, hx0⟩ | ⟨g, cap, cur, rfl, _, _, hcap, _⟩
    · have hx : xs = [] := List.length_eq_zero_iff.1 hx0
      subst hx
      exact ⟨_, w, run_append_none (P := P) w t ty e i ht hi none q 0 c, World.ownsRow_nil _ _ _ _, Below.refl _ _, ⟨rfl, rfl, rfl, Nat.le_refl _, fun _ _ _ => rfl⟩, fun _ h => .inl h⟩
    · exact ⟨_, w, run_append_zero (P := P) w t ty e i ht hi _ _ cap hcap q c (by omega), by simpa using hown, Below.refl _ _, ⟨rfl, rfl, rfl, Nat.le_refl _, fun _ _ _ => rfl⟩, fun _ h => .inl h⟩
  · obtain ⟨b, off, rfl, _, _⟩ := hr.at 0 h0
    obtain ⟨g, cap, w', hrun, ho, hg, hat, _⟩ := run_append_lies (P := P) w t ty base e i z size bytes ht hi hz hsize hby hzs E.pos v xs.length (flatE enc xs) hown ⟨b, off, none⟩ l.length c (flatE enc l) (flatE_length E l) (flatE_cells E h0 hr) (flatE_one E l) h0 h63 hbytes hbase _ rfl
    refine ⟨_, w', hrun, ?_, (Below.refl _ _).grown hg hbase (fun k hk => (hown.lt k hk).1), hg, fun g' hg' => by
      have e : g = g' := by injection hg'
      subst e
      exact hat⟩
    rw [hfl, List.length_append]
    exact ho
theorem wpList_appendE {P : Program} {w : World} {α : Type} {enc : α → List Value} {size : Nat} (E : Enc enc size) {ops : Array Oper} {rest : List Oper} {o : Oper} {a : Act} {Q : Exit → Act → World → Prop} (hgd : o.guard = none) (s x : Operand) (t : TypeId)
    (ho : o.op = .call { callee := .builtin .append, args := #[s, x], argTypes := #[t, t] })
    (base : Nat) (e : TypeId) (i : TypeInfo) (z : Value) (bytes : Nat) (ht : P.underlying t = some (.slice e)) (hi : P.info? e = some i) (hz : i.zero = some z)
    (hsize : i.size = size) (hby : i.bytes = bytes) (hzs : z.cells.size = size)
    (v : Value) (xs : List α) (hs : a.eval s = v) (hown : w.ownsRow base e size v xs.length (flatE enc xs))
    (q : Option Addr) (l : List α) (c : Nat) {B0 : Nat} (hx : a.eval x = .slice q l.length c) (hr : Rd enc size w B0 q l)
    (h63 : xs.length + l.length ≤ maxLen) (hbytes : (xs.length + l.length) * bytes ≤ 140737488355328) (hbase : base ≤ w.heap.size)
    (h : ∀ v' w', w'.ownsRow base e size v' (xs ++ l).length (flatE enc (xs ++ l)) → Below base w w' → w.grownBy w' v.ownBlock → (∀ g, v'.ownBlock = some g → v.ownBlock = some g ∨ g = w.heap.size) → wpList P ops Q rest (a.put o.dst v') w') : wpList P ops Q (o :: rest) a w := by
  refine wpList_plain hgd fun K hK => ?_
  obtain ⟨v', w', hrun, h1, h2, h3, h4⟩ := run_appendE (P := P) E t o.type base e i z bytes ht hi hz hsize hby hzs v xs hown q l c hr h63 hbytes hbase
  unfold Oper.wp execOp
  simp only [ho, resolve, invoke, builtin, Sem.run_bind, Sem.run_pure, Result.andThen_ok, List.map_toArray, List.map_cons, List.map_nil, hs, hx, hrun]
  exact hK _ _ (h v' w' h1 h2 h3 h4)

theorem wpList_append_run {P : Program} {w w' : World} {ops : Array Oper} {rest : List Oper} {o : Oper} {a : Act} {Q : Exit → Act → World → Prop} (hgd : o.guard = none) (s x : Operand) (t t' : TypeId)
    (ho : o.op = .call { callee := .builtin .append, args := #[s, x], argTypes := #[t, t'] }) (vs vx v : Value) (hs : a.eval s = vs) (hx : a.eval x = vx)
    (hrun : (Builtin.append_ #[t, t'] o.type #[vs, vx]).run P w = .ok v w') (h : wpList P ops Q rest (a.put o.dst v) w') : wpList P ops Q (o :: rest) a w := by
  refine wpList_plain hgd fun K hK => ?_
  unfold Oper.wp execOp
  simp only [ho, resolve, invoke, builtin, Sem.run_bind, Sem.run_pure, Result.andThen_ok, List.map_toArray, List.map_cons, List.map_nil, hs, hx, hrun]
  exact hK _ _ h

theorem rd_fresh {α : Type} {enc : α → List Value} {k : Nat} (E : Enc enc k) (w : World) (T : TypeId) (cs : Array Value) (x : α) (h : cs.toList = enc x) : Rd enc k (w.alloc (.cells cs T)) (w.alloc (.cells cs T)).heap.size (some ⟨w.heap.size, 0, none⟩) [x] := by
  refine .inr ⟨w.heap.size, 0, rfl, by simp, fun i hi r u hu => ?_⟩
  have hi0 : i = 0 := by simp at hi; exact hi
  subst hi0
  have := (Bk.new w T cs).cell r u (by rw [h]; exact hu)
  simpa using this

end Go.Proofs.YtfmkfabbiifolaaGreatDoor

/-
  Contract: the reference's SameLit.
-/
namespace Go.Proofs.YtfmkfabbiifolaaGreatDoor
open Go.RowKit

def tmEq (a b : Tm) : Bool := (a.v.toList == b.v.toList) && ((a.s.toList == b.s.toList) && (a.n == b.n))
/-- are two literals alike -/
def sameL (a b : Lp) : Bool := (a.kind == b.kind) && (tmEq a.who b.who && ((a.pred.toList == b.pred.toList) && (decide (a.args.length = b.args.length) && (List.zip a.args b.args).all fun p => tmEq p.1 p.2)))
theorem ba_eq {a b : ByteArray} : (a.toList == b.toList) = true ↔ a = b := by
  rw [ByteArray.toList_eq, ByteArray.toList_eq, beq_iff_eq]
  constructor
  · intro h; rcases a with ⟨⟨a⟩⟩; rcases b with ⟨⟨b⟩⟩; simp at h; rw [h]
  · intro h; rw [h]
theorem ba_eq2 {a b : ByteArray} : a.toList = b.toList ↔ a = b := by
  have := ba_eq (a := a) (b := b)
  rwa [beq_iff_eq] at this
theorem tmEq_iff {a b : Tm} : tmEq a b = true ↔ a = b := by
  unfold tmEq
  simp only [Bool.and_eq_true, beq_iff_eq, ba_eq2]
  constructor
  · rintro ⟨h1, h2, h3⟩; cases a; cases b; simp_all
  · intro h; rw [h]; exact ⟨rfl, rfl, rfl⟩
theorem zip_eq : ∀ (l m : List Tm), l.length = m.length → (((List.zip l m).all fun p => tmEq p.1 p.2) = true ↔ l = m)
  | [], [], _ => by simp
  | a :: l, b :: m, h => by
    have := zip_eq l m (by simpa using h)
    simp only [List.zip_cons_cons, List.all_cons, Bool.and_eq_true, tmEq_iff, this]
    constructor
    · rintro ⟨h1, h2⟩; rw [h1, h2]
    · intro h; injection h with h1 h2; exact ⟨h1, h2⟩
  | [], b :: m, h => by simp at h
  | a :: l, [], h => by simp at h
theorem sameL_iff {a b : Lp} : sameL a b = true ↔ a.q = b.q := by
  unfold sameL
  simp only [Bool.and_eq_true, beq_iff_eq, tmEq_iff, ba_eq2, decide_eq_true_eq]
  constructor
  · rintro ⟨h1, h2, h3, h4, h5⟩
    have h6 := (zip_eq _ _ h4).1 h5
    unfold Lp.q
    rw [h1, h2, h3, h6]
  · intro h
    unfold Lp.q at h
    injection h with h1 h2 h3 h4
    exact ⟨h1, h2, h3, by rw [h4], (zip_eq _ _ (by rw [h4])).2 h4⟩

set_option maxHeartbeats 8000000 in
set_option maxRecDepth 100000 in
theorem sameLit_any (a b : Lp) (w : World) (ha : Tms w w.heap.size a.ptr a.args) (hb : Tms w w.heap.size b.ptr b.args) (hla : a.args.length ≤ 9223372036854775807) :
    Calls Tryz.prog 27 #[a.agg, b.agg] w fun e w' => e = .returned (.bool (sameL a b)) ∧ Below w.heap.size w w' := by
  have HB := Lib.hid (below2 w)
  have HA := Lib.hid ha
  have HC := Lib.hid hb
  have HS := Lib.hid (show sameL a b = ((a.kind == b.kind) && (((a.who.v.toList == b.who.v.toList) && ((a.who.s.toList == b.who.s.toList) && (a.who.n == b.who.n))) && ((a.pred.toList == b.pred.toList) && (decide (a.args.length = b.args.length) && (List.zip a.args b.args).all fun p => tmEq p.1 p.2)))) from rfl)
  generalize sameL a b = R at *
  unfold Lp.agg
  obtain ⟨kd, ⟨v, s, n⟩, p, q, c, xs⟩ := a
  obtain ⟨kd2, ⟨v2, s2, n2⟩, p2, q2, c2, ys⟩ := b
  simp only at HS HA HC hla ⊢
  clear ha hb
  cases h1 : (kd == kd2) with
  | false =>
    have h1' : (kd != kd2) = true := by simp [bne, h1]
    go_enter Tryz.func27, Tryz.ntmps27
    go_wp2_with fail
    go_ret
    exact ⟨by rw [HS.out, h1]; rfl, HB.out _ _⟩
  | true =>
  have h1' : (kd != kd2) = false := by simp [bne, h1]
  cases h2 : (v.toList == v2.toList) with
  | false =>
    go_enter Tryz.func27, Tryz.ntmps27
    go_wp2_with fail
    go_ret
    exact ⟨by rw [HS.out, h1, h2]; rfl, HB.out _ _⟩
  | true =>
  cases h3 : (s.toList == s2.toList) with
  | false =>
    go_enter Tryz.func27, Tryz.ntmps27
    go_wp2_with fail
    go_ret
    exact ⟨by rw [HS.out, h1, h2, h3]; rfl, HB.out _ _⟩
  | true =>
  cases h4 : (n == n2) with
  | false =>
    go_enter Tryz.func27, Tryz.ntmps27
    go_wp2_with fail
    go_ret
    exact ⟨by rw [HS.out, h1, h2, h3, h4]; rfl, HB.out _ _⟩
  | true =>
  cases h5 : (p.toList == p2.toList) with
  | false =>
    go_enter Tryz.func27, Tryz.ntmps27
    go_wp2_with fail
    go_ret
    exact ⟨by rw [HS.out, h1, h2, h3, h4, h5]; rfl, HB.out _ _⟩
  | true =>
  by_cases h6 : xs.length = ys.length
  · have h6' : ((xs.length : Int) == (ys.length : Int)) = true := by simp [h6]
    have h6'' : ((xs.length : Int) != (ys.length : Int)) = false := by simp [h6]
    have HD := Lib.hid (show decide (xs.length = ys.length) = true by simp [h6])
    go_enter Tryz.func27, Tryz.ntmps27
    go_wp2_with fail
    go_loopw [5] (fun i wr => ∃ j : Nat, j ≤ xs.length ∧ i = .int .i64 j ∧ Hid ((List.zip xs ys).all (fun p => tmEq p.1 p.2) = ((List.zip xs ys).drop j).all fun p => tmEq p.1 p.2) ∧ Hid (Bk wr w.heap.size 28 #[.int .u8 kd, .string v, .string s, .int .i64 n, .string p, .slice q ys.length c]) ∧ Hid (Bk wr (w.heap.size + 1) 28 #[.int .u8 kd2, .string v2, .string s2, .int .i64 n2, .string p2, .slice q2 ys.length c2]) ∧ Below w.heap.size w wr) (fun i _ => xs.length - (intOf i).toNat)
    case atStart => exact ⟨0, Nat.zero_le _, rfl, Lib.hid rfl, Lib.hid (Bk.new1 w _ _ _), Lib.hid (Bk.new2 w _ _ _), HB.out _ _⟩
    case round =>
      obtain ⟨j, hj, rfl, HZ, HX, HY, hbw⟩ := hrel
      have HBW := Lib.hid hbw
      have e5 := HX.out.cell 5 _ rfl
      have g5 := HY.out.cell 5 _ rfl
      clear hbw
      have hzl : (List.zip xs ys).length = xs.length := by rw [List.length_zip]; omega
      by_cases hlt : j < xs.length
      · have hlt2 : j < ys.length := by omega
        obtain ⟨b, o, rfl, hbb, x0, x1, x2⟩ := rdM_at (HA.out.below HBW.out (Nat.le_refl _)) j hlt
        obtain ⟨b2, o2, rfl, hbb2, y0, y1, y2⟩ := rdM_at (HC.out.below HBW.out (Nat.le_refl _)) j hlt2
        have HST := Lib.hid (show ((List.zip xs ys).drop j).all (fun p => tmEq p.1 p.2) = (((xs[j].v.toList == ys[j].v.toList) && ((xs[j].s.toList == ys[j].s.toList) && (xs[j].n == ys[j].n))) && ((List.zip xs ys).drop (j + 1)).all fun p => tmEq p.1 p.2) by
          rw [all_step _ _ j (by omega)]
          simp only [List.getElem_zip]
          rfl)
        have hj0 : (0 : Int) ≤ (j : Int) := by omega
        have hj1 : (j : Int) < (xs.length : Int) := by omega
        have hj2 : (j : Int) < (ys.length : Int) := by omega
        generalize xs[j] = ta at *
        generalize ys[j] = tb at *
        obtain ⟨av, as_, an⟩ := ta
        obtain ⟨bv, bs_, bn⟩ := tb
        simp only at x0 x1 x2 y0 y1 y2 HST
        cases k1 : (av.toList == bv.toList) with
        | false =>
          go_wp2_with fail
          go_quiet (fail)
          go_wp2_with fail
          go_ret
          exact ⟨by rw [HS.out, h1, h2, h3, h4, h5, HD.out, HZ.out, HST.out, k1]; rfl, below_drewN' HBW.out _⟩
        | true =>
          cases k2 : (as_.toList == bs_.toList) with
          | false =>
            go_wp2_with fail
            go_quiet (fail)
            go_wp2_with fail
            go_ret
            exact ⟨by rw [HS.out, h1, h2, h3, h4, h5, HD.out, HZ.out, HST.out, k1, k2]; rfl, below_drewN' HBW.out _⟩
          | true =>
            cases k3 : (an == bn) with
            | false =>
              go_wp2_with fail
              go_quiet (fail)
              go_wp2_with fail
              go_ret
              exact ⟨by rw [HS.out, h1, h2, h3, h4, h5, HD.out, HZ.out, HST.out, k1, k2, k3]; rfl, below_drewN' HBW.out _⟩
            | true =>
              go_wp2_with fail
              go_quiet (fail)
              go_wp2_with fail
              go_roundw
              case rel => exact ⟨j + 1, by omega, by go_num, Lib.hid (by rw [HZ.out, HST.out, k1, k2, k3]; rfl), Lib.hid (HX.out.on (below_drewN' (Below.refl _ _) _)), Lib.hid (HY.out.on (below_drewN' (Below.refl _ _) _)), below_drewN' HBW.out _⟩
              case measure => simp [intOf]; omega
      · have HED := Lib.hid (all_end (fun p : Tm × Tm => tmEq p.1 p.2) (List.zip xs ys) j (by omega))
        go_wp2_with fail
        go_ret
        exact ⟨by rw [HS.out, h1, h2, h3, h4, h5, HD.out, HZ.out, HED.out]; rfl, HBW.out⟩
  · have h6' : ((xs.length : Int) == (ys.length : Int)) = false := by simp; omega
    have h6'' : ((xs.length : Int) != (ys.length : Int)) = true := by simp; omega
    have HD := Lib.hid (show decide (xs.length = ys.length) = false by simp [h6])
    go_enter Tryz.func27, Tryz.ntmps27
    go_wp2_with fail
    go_ret
    exact ⟨by rw [HS.out, h1, h2, h3, h4, h5, HD.out]; rfl, HB.out _ _⟩
end Go.Proofs.YtfmkfabbiifolaaGreatDoor

/-
  The reference's reader in memory; contracts: text, kind.
-/
namespace Go.Proofs.YtfmkfabbiifolaaGreatDoor
open Go.RowKit

/-- The reference's reader lies at block rb: its text, its tokens, which one is next, its error. -/
structure Rr (w : World) (rb : Nat) (s : ByteArray) (q : Option Addr) (c : Nat) (ts : List Tok) (k : Nat) (er fr : Int) : Prop where
  box : Bk w rb 104 #[.string s, .slice q ts.length c, .int .i64 (k : Int), .int .i64 er, .int .i64 fr]
  rd : Rd encT 3 w rb q ts
  le : k ≤ ts.length
  src : Srcs s ts
section
variable {w w' : World} {rb : Nat} {s : ByteArray} {q : Option Addr} {c : Nat} {ts : List Tok} {k : Nat} {er fr : Int}
theorem Rr.lt (h : Rr w rb s q c ts k er fr) : rb < w.heap.size := h.box.lt
theorem Rr.on' (h : Rr w rb s q c ts k er fr) (hb : Below (rb + 1) w w') : Rr w' rb s q c ts k er fr :=
  ⟨h.box.below hb (Nat.lt_succ_self _), h.rd.below hb (Nat.le_succ _), h.le, h.src⟩
theorem Rr.on (h : Rr w rb s q c ts k er fr) (hb : Below w.heap.size w w') : Rr w' rb s q c ts k er fr :=
  ⟨h.box.on hb, h.rd.below hb (Nat.le_of_lt h.lt), h.le, h.src⟩
theorem Rr.set (h : Rr w rb s q c ts k er fr) (i : Nat) (u : Value) (k' : Nat) (er' fr' : Int) (hk : k' ≤ ts.length) (he : (#[.string s, .slice q ts.length c, .int .i64 (k : Int), .int .i64 er, .int .i64 fr] : Array Value).setIfInBounds i u = #[.string s, .slice q ts.length c, .int .i64 (k' : Int), .int .i64 er', .int .i64 fr']) : Rr (w.setCell ⟨rb, i, none⟩ u) rb s q c ts k' er' fr' :=
  ⟨he ▸ h.box.set i u, h.rd.below (setB (Nat.le_refl _) i u) (Nat.le_refl _), hk, h.src⟩
theorem Rr.five (h : Rr w rb s q c ts k er fr) : w.cell? ⟨rb, 0, none⟩ = some (.string s) ∧ w.cell? ⟨rb, 1, none⟩ = some (.slice q ts.length c) ∧ w.cell? ⟨rb, 2, none⟩ = some (.int .i64 k) ∧ w.cell? ⟨rb, 3, none⟩ = some (.int .i64 er) ∧ w.cell? ⟨rb, 4, none⟩ = some (.int .i64 fr) :=
  ⟨h.box.cell 0 _ rfl, h.box.cell 1 _ rfl, h.box.cell 2 _ rfl, h.box.cell 3 _ rfl, h.box.cell 4 _ rfl⟩
end

set_option maxHeartbeats 4000000 in
theorem rtext_any (w : World) (rb : Nat) (s : ByteArray) (q : Option Addr) (c : Nat) (ts : List Tok) (k n : Nat) (er fr : Int) (h : Rr w rb s q c ts k er fr) (hn : n ≤ 1) :
    Calls Tryz.prog 60 #[.pointer (some ⟨rb, 0, none⟩), .int .i64 n] w fun e w' => e = .returned (.string (textAt s ts (k + n))) ∧ Below w.heap.size w w' := by
  obtain ⟨c0, c1, c2, _, _⟩ := h.five
  have hle := h.le
  have hl := h.src.len
  have HB := Lib.hid (Below.refl w.heap.size w)
  have hi1 : IntKind.i64.wrap ((k : Int) + (n : Int)) = (k : Int) + (n : Int) := IntWalk.i64_in _ (by omega)
  have hi4 : wrap64 ((k : Int) + (n : Int)) = (k : Int) + (n : Int) := by clear hi1; unfold wrap64; omega
  by_cases hk : ts.length ≤ k + n
  · have HK := Lib.hid (textAt_none (s := s) hk)
    have he : (k : Int) + (n : Int) ≥ (ts.length : Int) := by omega
    clear h
    go_enter Tryz.func60, Tryz.ntmps60
    go_wp2_with fail
    go_quiet (fail)
    go_wp2_with fail
    go_ret
    exact ⟨by rw [HK.out]; rfl, below_drewN' HB.out _⟩
  · have hlt : k + n < ts.length := by omega
    have HK := Lib.hid (textAt_some (s := s) hlt)
    have he : ¬ (k : Int) + (n : Int) ≥ (ts.length : Int) := by omega
    have hp := h.src.pos _ (List.getElem_mem hlt)
    obtain ⟨b, o, rfl, hb, x0, x1, x2⟩ := rdT_at h.rd (k + n) hlt
    generalize ts[k + n] = t at *
    obtain ⟨kd, f, te⟩ := t
    simp only at hp x0 x1 x2 HK
    obtain ⟨f, rfl⟩ := Int.eq_ofNat_of_zero_le hp.1
    obtain ⟨g, rfl⟩ := Int.eq_ofNat_of_zero_le (Int.le_trans hp.1 hp.2.1)
    have hf0 : (0 : Int) ≤ (f : Int) := by omega
    have hfg' : (f : Int) ≤ (g : Int) := by omega
    have hgs' : (g : Int) ≤ (s.size : Int) := by omega
    have hi2 : (0 : Int) ≤ (k : Int) + (n : Int) := by omega
    have hi3 : (k : Int) + (n : Int) < (ts.length : Int) := by omega
    have hi5 : ((k : Int) + (n : Int)).toNat = k + n := by omega
    clear h hle hp
    go_enter Tryz.func60, Tryz.ntmps60
    go_wp2_with fail
    go_quiet (fail)
    go_wp2_with fail
    go_quiet (fail)
    go_wp2_with fail
    go_ret
    exact ⟨by rw [HK.out]; simp, below_drewN' (below_drewN' HB.out _) _⟩

set_option maxHeartbeats 1000000 in
theorem rkind_any (w : World) (rb : Nat) (s : ByteArray) (q : Option Addr) (c : Nat) (ts : List Tok) (k : Nat) (er fr : Int) (h : Rr w rb s q c ts k er fr) :
    Calls Tryz.prog 92 #[.pointer (some ⟨rb, 0, none⟩)] w fun e w' => e = .returned (.int .u8 (kindAt ts k)) ∧ Below w.heap.size w w' := by
  obtain ⟨c0, c1, c2, _, _⟩ := h.five
  have hle := h.le
  have hl := h.src.len
  have HB := Lib.hid (Below.refl w.heap.size w)
  by_cases hk : k = ts.length
  · have HK := Lib.hid (show kindAt ts k = 0 by unfold kindAt; rw [List.getElem?_eq_none (by omega)]; rfl)
    have he : (k : Int) ≥ (ts.length : Int) := by omega
    clear h hle
    go_enter Tryz.func92, Tryz.ntmps92
    go_wp2_with fail
    go_quiet (fail)
    go_wp2_with fail
    go_ret
    exact ⟨by rw [HK.out]; rfl, below_drewN' HB.out _⟩
  · have hlt : k < ts.length := by omega
    have HK := Lib.hid (show kindAt ts k = ts[k].kind by unfold kindAt; rw [List.getElem?_eq_getElem hlt]; rfl)
    have he : ¬ (k : Int) ≥ (ts.length : Int) := by omega
    have hi2 : (0 : Int) ≤ (k : Int) := by omega
    have hi3 : (k : Int) < (ts.length : Int) := by omega
    obtain ⟨b, o, rfl, hb, x0, x1, x2⟩ := rdT_at h.rd k hlt
    clear h hle x1 x2
    go_enter Tryz.func92, Tryz.ntmps92
    go_wp2_with fail
    go_quiet (fail)
    go_wp2_with fail
    go_quiet (fail)
    go_wp2_with fail
    go_ret
    exact ⟨by rw [HK.out]; rfl, below_drewN' (below_drewN' HB.out _) _⟩
end Go.Proofs.YtfmkfabbiifolaaGreatDoor

/-
  Contracts: the reference's reader: fail, need, ended.
-/
namespace Go.Proofs.YtfmkfabbiifolaaGreatDoor
open Go.RowKit

theorem rfail_stuck (w : World) (rb : Nat) (s : ByteArray) (q : Option Addr) (c : Nat) (ts : List Tok) (k : Nat) (er fr n : Int) (h : Rr w rb s q c ts k er fr) (he : er ≠ 0) :
    Calls Tryz.prog 62 #[.pointer (some ⟨rb, 0, none⟩), .int .i64 n] w fun e w' => e = .returned (.tuple #[]) ∧ w' = w := by
  obtain ⟨c0, c1, c2, c3, c4⟩ := h.five
  have g3 : (er != 0) = true := by simpa using he
  clear h
  go_enter Tryz.func62, Tryz.ntmps62
  go_wp2_with fail
  first
    | go_end0
    | refine bodyPost_ret (results_none rfl _ _ _) rfl ?_
  exact ⟨rfl, rfl⟩
set_option maxHeartbeats 8000000 in
set_option maxRecDepth 100000 in
theorem rfail_new (w : World) (rb : Nat) (s : ByteArray) (q : Option Addr) (c : Nat) (ts : List Tok) (k : Nat) (fr n : Int) (h : Rr w rb s q c ts k 0 fr) :
    Calls Tryz.prog 62 #[.pointer (some ⟨rb, 0, none⟩), .int .i64 n] w fun e w' => e = .returned (.tuple #[]) ∧ Rr w' rb s q c ts k n (placeAt s ts k) ∧ Only rb w w' := by
  obtain ⟨c0, c1, c2, c3, c4⟩ := h.five
  have f3 := h.box.soft 3
  have f4 := h.box.soft 4
  have hle := h.le
  have hl := h.src.len
  have hsz := h.src.size
  have HS1 := Lib.hid (h.set 3 (.int .i64 n) k n fr h.le rfl)
  have HS2 := Lib.hid (HS1.out.set 4 (.int .i64 (s.size : Int)) k n (s.size : Int) h.le rfl)
  have HO2 := Lib.hid ((Only.set rb w 3 (.int .i64 n)).trans (Only.set rb _ 4 (.int .i64 (s.size : Int))))
  have d0 := HS1.out.box.cell 0 _ rfl
  have d4 := HS1.out.box.cell 4 _ rfl
  have d4' := HS1.out.box.soft 4
  obtain ⟨e0, e1, e2, e3, e4⟩ := HS2.out.five
  have e4' := HS2.out.box.soft 4
  by_cases hk : k = ts.length
  · have HK := Lib.hid (show placeAt s ts k = s.size by unfold placeAt; rw [List.getElem?_eq_none (by omega)])
    have he : ¬ (k : Int) < (ts.length : Int) := by omega
    clear h hle
    go_enter Tryz.func62, Tryz.ntmps62
    go_wp2_with fail
    go_quiet (fail)
    go_wp2_with fail
    go_end0
    exact ⟨rfl, by rw [HK.out]; exact HS2.out.on (below_drewN' (Below.refl _ _) _), HO2.out.trans (Only.of (below_drewN' (Below.refl _ _) _))⟩
  · have hlt : k < ts.length := by omega
    have HK := Lib.hid (show placeAt s ts k = ts[k].fr by unfold placeAt; rw [List.getElem?_eq_getElem hlt])
    have he : (k : Int) < (ts.length : Int) := by omega
    have hi2 : (0 : Int) ≤ (k : Int) := by omega
    obtain ⟨b, o, rfl, hb, x0, x1, x2⟩ := rdT_at HS2.out.rd k hlt
    have HS3 := Lib.hid (HS2.out.set 4 (.int .i64 ts[k].fr) k n ts[k].fr h.le rfl)
    generalize ts[k].fr = tf at *
    have HLE := Lib.hid hle
    clear h hle x0 x2
    go_enter Tryz.func62, Tryz.ntmps62
    go_wp2_with fail
    generalize (w.setCell ⟨rb, 3, none⟩ (.int .i64 n)).setCell ⟨rb, 4, none⟩ (.int .i64 (s.size : Int)) = W2 at *
    go_quiet (fail)
    go_wp2_with fail
    have HSD := Lib.hid (fun m => HS2.out.on (below_drewN' (Below.refl W2.heap.size W2) m))
    have KQ := Lib.hid (show ∀ m v, ((W2.drewN m).setCell ⟨rb, 4, none⟩ v).cell? ⟨rb, 1, none⟩ = some (.slice (some ⟨b, o, none⟩) ts.length c) ∧ ((W2.drewN m).setCell ⟨rb, 4, none⟩ v).cell? ⟨rb, 2, none⟩ = some (.int .i64 k) ∧ ((W2.drewN m).setCell ⟨rb, 4, none⟩ v).cell? ⟨b, o + k * 3 + 1, none⟩ = some (.int .i64 tf) from
      fun m v => ⟨((HSD.out m).box.set 4 v).cell 1 _ rfl, ((HSD.out m).box.set 4 v).cell 2 _ rfl, (World.cell?_of_block (w := W2.drewN m) (a := ⟨b, o + k * 3 + 1, none⟩) (Below.heap_setCell (W2.drewN m) ⟨rb, 4, none⟩ v b (by show b ≠ rb; omega))).trans (((below_drewN' (Below.refl W2.heap.size W2) m).cell (p := ⟨b, o + k * 3 + 1, none⟩) (Nat.lt_of_lt_of_le hb (Nat.le_of_lt HS2.out.lt))).trans x1)⟩)
    go_region_held3 (fun X => X.cell? ⟨rb, 1, none⟩ = some (.slice (some ⟨b, o, none⟩) ts.length c) ∧ X.cell? ⟨rb, 2, none⟩ = some (.int .i64 k) ∧ X.cell? ⟨b, o + k * 3 + 1, none⟩ = some (.int .i64 tf))
      (first | (exact KQ.out _ _) | go_keep) (fail)
    all_goals
      go_end0
      exact ⟨rfl, by rw [HK.out]; exact (HSD.out _).set 4 (.int .i64 tf) k n tf HLE.out rfl, (HO2.out.trans (Only.of (below_drewN' (Below.refl _ _) _))).trans (Only.set rb _ 4 (.int .i64 tf))⟩

/-- whatever the error was: it stays the first one -/
def erN (er n : Int) : Int := if er = 0 then n else er
set_option maxHeartbeats 2000000 in
theorem rneed_stuck (w : World) (rb : Nat) (s : ByteArray) (q : Option Addr) (c : Nat) (ts : List Tok) (k : Nat) (er fr : Int) (x : ByteArray) (h : Rr w rb s q c ts k er fr) (he : er ≠ 0) :
    Calls Tryz.prog 63 #[.pointer (some ⟨rb, 0, none⟩), .string x] w fun e w' => e = .returned (.tuple #[]) ∧ w' = w := by
  obtain ⟨c0, c1, c2, c3, c4⟩ := h.five
  have HF := Lib.hid (rfail_stuck w rb s q c ts k er fr 6 h he)
  have g3 : (er == 0) = false := by simpa using he
  clear h
  go_enter Tryz.func63, Tryz.ntmps63
  go_wp2_with (go_at_call 62; refine (HF.out).mono ?_; rintro e w' ⟨rfl, rfl⟩)
  go_end0
  exact ⟨rfl, rfl⟩
set_option maxHeartbeats 2000000 in
theorem rneed_yes (w : World) (rb : Nat) (s : ByteArray) (q : Option Addr) (c : Nat) (ts : List Tok) (k : Nat) (fr : Int) (x : ByteArray) (h : Rr w rb s q c ts k 0 fr) (hx : textAt s ts k = x) (hk : k < ts.length) :
    Calls Tryz.prog 63 #[.pointer (some ⟨rb, 0, none⟩), .string x] w fun e w' => e = .returned (.tuple #[]) ∧ Rr w' rb s q c ts (k + 1) 0 fr ∧ Only rb w w' := by
  have HP := Lib.hid h
  obtain ⟨c0, c1, c2, c3, c4⟩ := h.five
  have hl := h.src.len
  have HT := Lib.hid (hx ▸ rtext_any w rb s q c ts k 0 0 fr h (by omega))
  clear h hx
  go_enter Tryz.func63, Tryz.ntmps63
  go_wp2_with (go_at_call 60; refine (HT.out).mono ?_; rintro e w1 ⟨rfl, hb1⟩; have HP1 := Lib.hid (HP.out.on hb1); have d2 := HP1.out.box.cell 2 _ rfl; have d2' := HP1.out.box.soft 2; have HB1 := Lib.hid hb1; clear hb1)
  refine bodyPost_ret (results_none rfl _ _ _) rfl ?_
  exact ⟨rfl, HP1.out.set 2 _ (k + 1) 0 fr (by omega) (by simp), (Only.of HB1.out).trans (Only.set rb _ 2 _)⟩
set_option maxHeartbeats 2000000 in
theorem rneed_no (w : World) (rb : Nat) (s : ByteArray) (q : Option Addr) (c : Nat) (ts : List Tok) (k : Nat) (fr : Int) (x : ByteArray) (h : Rr w rb s q c ts k 0 fr) (hx : textAt s ts k ≠ x) :
    Calls Tryz.prog 63 #[.pointer (some ⟨rb, 0, none⟩), .string x] w fun e w' => e = .returned (.tuple #[]) ∧ Rr w' rb s q c ts k 6 (placeAt s ts k) ∧ Only rb w w' := by
  have HP := Lib.hid h
  obtain ⟨c0, c1, c2, c3, c4⟩ := h.five
  have HT := Lib.hid (rtext_any w rb s q c ts k 0 0 fr h (by omega))
  have HF := Lib.hid (show ∀ wx, Rr wx rb s q c ts k 0 fr → _ from fun wx hx => rfail_new wx rb s q c ts k fr 6 hx)
  have hq : ((textAt s ts k).toList == x.toList) = false := by
    rw [beq_eq_false_iff_ne]; intro he; exact hx (ba_eq2.1 he)
  simp only [Nat.add_zero] at HT
  generalize textAt s ts k = tx at *
  clear h hx
  go_enter Tryz.func63, Tryz.ntmps63
  go_wp2_with (first
    | (go_at_call 62; refine (HF.out _ HP1.out).mono ?_; rintro e w2 ⟨rfl, hp2, ho2⟩)
    | (go_at_call 60; refine (HT.out).mono ?_; rintro e w1 ⟨rfl, hb1⟩; have HP1 := Lib.hid (HP.out.on hb1); have HB1 := Lib.hid hb1; clear hb1))
  go_end0
  exact ⟨rfl, hp2, (Only.of HB1.out).trans ho2⟩
set_option maxHeartbeats 2000000 in
theorem rended_any (w : World) (rb : Nat) (s : ByteArray) (q : Option Addr) (c : Nat) (ts : List Tok) (k : Nat) (er fr : Int) (h : Rr w rb s q c ts k er fr) :
    Calls Tryz.prog 64 #[.pointer (some ⟨rb, 0, none⟩)] w fun e w' => e = .returned (.tuple #[]) ∧ Only rb w w' ∧ (if er = 0 then (if ts.length ≤ k then Rr w' rb s q c ts k 0 fr else Rr w' rb s q c ts k 6 (placeAt s ts k)) else Rr w' rb s q c ts k er fr) := by
  have HP := Lib.hid h
  obtain ⟨c0, c1, c2, c3, c4⟩ := h.five
  have hl := h.src.len
  have hle := h.le
  have HB := Lib.hid (Below.refl w.heap.size w)
  by_cases he : er = 0
  · subst he
    simp only [if_true]
    by_cases hk : ts.length ≤ k
    · simp only [if_pos hk]
      have hk1 : ¬ (k : Int) < (ts.length : Int) := by omega
      clear h
      go_enter Tryz.func64, Tryz.ntmps64
      go_wp2_with fail
      go_quiet (fail)
      go_wp2_with fail
      go_end0
      exact ⟨rfl, Only.of (below_drewN' HB.out _), HP.out.on (below_drewN' HB.out _)⟩
    · simp only [if_neg hk]
      have hk1 : (k : Int) < (ts.length : Int) := by omega
      have HF := Lib.hid (show ∀ wx, Rr wx rb s q c ts k 0 fr → _ from fun wx hx => rfail_new wx rb s q c ts k fr 6 hx)
      clear h
      go_enter Tryz.func64, Tryz.ntmps64
      go_wp2_with fail
      go_quiet (fail)
      go_wp2_with (go_at_call 62; refine (HF.out _ (HP.out.on (below_drewN' HB.out _))).mono ?_; rintro e w2 ⟨rfl, hp2, ho2⟩)
      go_end0
      exact ⟨rfl, (Only.of (below_drewN' HB.out _)).trans ho2, hp2⟩
  · simp only [if_neg he]
    have g3 : (er == 0) = false := by simpa using he
    clear h
    go_enter Tryz.func64, Tryz.ntmps64
    go_wp2_with fail
    go_quiet (fail)
    go_wp2_with fail
    go_end0
    exact ⟨rfl, Only.of (below_drewN' HB.out _), HP.out.on (below_drewN' HB.out _)⟩
end Go.Proofs.YtfmkfabbiifolaaGreatDoor
