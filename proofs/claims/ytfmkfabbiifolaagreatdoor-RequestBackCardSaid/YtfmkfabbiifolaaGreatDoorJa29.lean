/-
  Joined of: Fxb, Rqs, Rqm.
-/
import Derived.Test.YtfmkfabbiifolaaGreatDoorJa28
import Derived.Test.YtfmkfabbiifolaaGreatDoorJa23
import Derived.Test.YtfmkfabbiifolaaGreatDoorJa26
import Derived.Test.YtfmkfabbiifolaaGreatDoorJa19
import Derived.Test.YtfmkfabbiifolaaGreatDoorJa24
set_option linter.unusedVariables false
set_option linter.unusedSimpArgs false
/-
  Plain: what is read is small; what is small may be checked and written.
-/
namespace Go.Proofs.YtfmkfabbiifolaaGreatDoor
open Go.RowKit

structure Tm.Sm (t : Tm) : Prop where
  sz : t.Sz
  nb : t.Nb
structure Lq.Sm (l : Lq) : Prop where
  who : l.who.Sm
  pred : l.pred.size ≤ 4096
  args : ∀ t ∈ l.args, t.Sm
  len : l.args.length ≤ 1000
structure Cq.Sm (c : Cq) : Prop where
  head : c.head.Sm
  body : ∀ l ∈ c.body, l.Sm
  len : c.body.length ≤ 1000
theorem tmZ_sm : tmZ.Sm := ⟨⟨by decide, by decide⟩, by unfold Tm.Nb tmZ; decide⟩
theorem readP_sm (x : ByteArray) (h : x.size ≤ 4096) : (readP x).1.size ≤ 4096 ∧ -9223372036854775808 ≤ (readP x).2 ∧ (readP x).2 ≤ 9223372036854775807 := by
  unfold readP
  split
  · exact ⟨h, (by decide : (-9223372036854775808 : Int) ≤ 0), (by decide : (0 : Int) ≤ 9223372036854775807)⟩
  · cases hn : readN x with
    | none => exact ⟨Nat.zero_le _, (by decide : (-9223372036854775808 : Int) ≤ 0), (by decide : (0 : Int) ≤ 9223372036854775807)⟩
    | some v =>
      unfold readN at hn
      split at hn
      · rename_i v' hp
        split at hn
        · injection hn with hn
          subst hn
          have := parseIntB_bd _ _ hp
          exact ⟨Nat.zero_le _, this.1, this.2⟩
        · cases hn
      · cases hn
theorem termR_sm {s : ByteArray} {ts : List Tok} {k : Nat} (h : s.size ≤ 4096) : (termR s ts k).Sm := by
  have ht := textAt_size (s := s) ts k h
  have hr := readP_sm _ ht
  unfold termR
  split
  · exact ⟨⟨Nat.le_trans ht (by decide), Nat.zero_le _⟩, ⟨(by decide : (-9223372036854775808 : Int) ≤ 0), (by decide : (0 : Int) ≤ 9223372036854775807)⟩⟩
  · exact ⟨⟨Nat.zero_le _, Nat.le_trans hr.1 (by decide)⟩, hr.2⟩
theorem moreT_sm {s : ByteArray} {ts : List Tok} (h : s.size ≤ 4096) : ∀ (n : Nat) (acc : List Tm) (k : Nat) (l : List Tm) (k' : Nat), (∀ t ∈ acc, t.Sm) → moreT s ts n acc k = .ok (l, k') → (∀ t ∈ l, t.Sm) ∧ l.length ≤ acc.length + n
  | 0, acc, k, l, k', ha, hr => by
    unfold moreT at hr
    split at hr
    · cases hr
    · injection hr with hr; injection hr with h1 h2; subst h1; exact ⟨ha, by omega⟩
  | n + 1, acc, k, l, k', ha, hr => by
    unfold moreT at hr
    split at hr
    · split at hr
      · have := moreT_sm h n _ _ _ _ (fun t ht => by
          rcases List.mem_append.1 ht with ht | ht
          · exact ha t ht
          · rw [List.mem_singleton.1 ht]; exact termR_sm h) hr
        refine ⟨this.1, ?_⟩
        have h2 := this.2
        rw [List.length_append] at h2
        simp at h2; omega
      · cases hr
    · injection hr with hr; injection hr with h1 h2; subst h1; exact ⟨ha, by omega⟩
theorem listT_sm {s : ByteArray} {ts : List Tok} {n k : Nat} {l : List Tm} {k' : Nat} (h : s.size ≤ 4096) (hr : listT s ts n k = .ok (l, k')) : (∀ t ∈ l, t.Sm) ∧ l.length ≤ n + 1 := by
  unfold listT at hr
  split at hr
  · have := moreT_sm h n _ _ _ _ (fun t ht => by rw [List.mem_singleton.1 ht]; exact termR_sm h) hr
    refine ⟨this.1, ?_⟩
    have h2 := this.2
    simp at h2; omega
  · cases hr
theorem atomR_sm {s : ByteArray} {ts : List Tok} {k : Nat} {nm : ByteArray} {l : List Tm} {k' : Nat} (h : s.size ≤ 4096) (hr : atomR s ts k = .ok ((nm, l), k')) : nm.size ≤ 4096 ∧ (∀ t ∈ l, t.Sm) ∧ l.length ≤ 4 := by
  unfold atomR at hr
  split at hr
  · split at hr
    · cases hl : listT s ts 3 (k + 2) with
      | error e => rw [hl] at hr; cases hr
      | ok lk =>
        obtain ⟨l', k2⟩ := lk
        rw [hl] at hr
        simp only at hr
        split at hr
        · injection hr with hr; injection hr with h1 h2; injection h1 with h1 h3; subst h1; subst h3
          exact ⟨textAt_size ts k h, listT_sm h hl⟩
        · cases hr
    · injection hr with hr; injection hr with h1 h2; injection h1 with h1 h3; subst h1; subst h3
      exact ⟨textAt_size ts k h, by simp, by simp⟩
  · cases hr
theorem saidR_sm {s : ByteArray} {ts : List Tok} {kd : Int} {k : Nat} {l : Lq} {k' : Nat} (h : s.size ≤ 4096) (hr : saidR s ts kd k = .ok (l, k')) : l.Sm := by
  unfold saidR at hr
  split at hr
  · split at hr
    · cases ha : atomR s ts (k + 2) with
      | error e => rw [ha] at hr; cases hr
      | ok a =>
        obtain ⟨⟨nm, as'⟩, k2⟩ := a
        rw [ha] at hr
        injection hr with hr; injection hr with h1 h2; subst h1
        obtain ⟨p1, p2, p3⟩ := atomR_sm h ha
        exact ⟨termR_sm h, p1, p2, by show as'.length ≤ 1000; omega⟩
    · cases hr
  · cases ha : atomR s ts k with
    | error e => rw [ha] at hr; cases hr
    | ok a =>
      obtain ⟨⟨nm, as'⟩, k2⟩ := a
      rw [ha] at hr
      injection hr with hr; injection hr with h1 h2; subst h1
      obtain ⟨p1, p2, p3⟩ := atomR_sm h ha
      exact ⟨tmZ_sm, p1, p2, by show as'.length ≤ 1000; omega⟩
theorem two_sm {s : ByteArray} {ts : List Tok} {j k : Nat} {kd : Int} (h : s.size ≤ 4096) : (⟨kd, tmZ, ⟨#[]⟩, [termR s ts j, termR s ts k]⟩ : Lq).Sm :=
  ⟨tmZ_sm, Nat.zero_le _, fun t ht => by
    rcases List.mem_cons.1 ht with rfl | ht
    · exact termR_sm h
    · rw [List.mem_singleton.1 ht]; exact termR_sm h, by simp⟩
theorem compR_sm {s : ByteArray} {ts : List Tok} {k : Nat} {l : Lq} {k' : Nat} (h : s.size ≤ 4096) (hr : compR s ts k = .ok (l, k')) : l.Sm := by
  unfold compR at hr
  split at hr
  · split at hr
    · split at hr
      · injection hr with hr; injection hr with h1 h2; subst h1; exact two_sm h
      · cases hr
    · split at hr
      · split at hr
        · injection hr with hr; injection hr with h1 h2; subst h1; exact two_sm h
        · cases hr
      · cases hr
  · cases hr
theorem litR_sm {s : ByteArray} {ts : List Tok} {k : Nat} {l : Lq} {k' : Nat} (h : s.size ≤ 4096) (hr : litR s ts k = .ok (l, k')) : l.Sm := by
  unfold litR at hr
  split at hr
  · exact saidR_sm h hr
  · split at hr
    · exact compR_sm h hr
    · exact saidR_sm h hr
theorem moreL_sm {s : ByteArray} {ts : List Tok} (h : s.size ≤ 4096) : ∀ (n : Nat) (acc : List Lq) (k : Nat) (l : List Lq) (k' : Nat), (∀ t ∈ acc, t.Sm) → moreL s ts n acc k = .ok (l, k') → (∀ t ∈ l, t.Sm) ∧ l.length ≤ acc.length + n
  | 0, acc, k, l, k', ha, hr => by
    unfold moreL at hr
    split at hr
    · cases hr
    · injection hr with hr; injection hr with h1 h2; subst h1; exact ⟨ha, by omega⟩
  | n + 1, acc, k, l, k', ha, hr => by
    unfold moreL at hr
    split at hr
    · cases hl : litR s ts (k + 1) with
      | error e => rw [hl] at hr; cases hr
      | ok x =>
        obtain ⟨x, k2⟩ := x
        rw [hl] at hr
        have := moreL_sm h n _ _ _ _ (fun t ht => by
          rcases List.mem_append.1 ht with ht | ht
          · exact ha t ht
          · rw [List.mem_singleton.1 ht]; exact litR_sm h hl) hr
        refine ⟨this.1, ?_⟩
        have h2 := this.2
        rw [List.length_append] at h2
        simp at h2; omega
    · injection hr with hr; injection hr with h1 h2; subst h1; exact ⟨ha, by omega⟩
theorem listL_sm {s : ByteArray} {ts : List Tok} {n k : Nat} {l : List Lq} {k' : Nat} (h : s.size ≤ 4096) (hr : listL s ts n k = .ok (l, k')) : (∀ t ∈ l, t.Sm) ∧ l.length ≤ n + 1 := by
  unfold listL at hr
  cases hl : litR s ts k with
  | error e => rw [hl] at hr; cases hr
  | ok x =>
    obtain ⟨x, k2⟩ := x
    rw [hl] at hr
    have := moreL_sm h n _ _ _ _ (fun t ht => by rw [List.mem_singleton.1 ht]; exact litR_sm h hl) hr
    refine ⟨this.1, ?_⟩
    have h2 := this.2
    simp at h2; omega
theorem clauseR_sm {s : ByteArray} {ts : List Tok} {k : Nat} {c : Cq} {k' : Nat} (h : s.size ≤ 4096) (hr : clauseR s ts k = .ok (c, k')) : c.Sm := by
  unfold clauseR at hr
  cases ha : atomR s ts k with
  | error e => rw [ha] at hr; cases hr
  | ok a =>
    obtain ⟨⟨nm, as'⟩, k1⟩ := a
    rw [ha] at hr
    simp only at hr
    obtain ⟨p1, p2, p3⟩ := atomR_sm h ha
    have hh : (⟨1, tmZ, nm, as'⟩ : Lq).Sm := ⟨tmZ_sm, p1, p2, by show as'.length ≤ 1000; omega⟩
    split at hr
    · cases hl : listL s ts 5 (k1 + 1) with
      | error e => rw [hl] at hr; cases hr
      | ok b =>
        obtain ⟨b, k2⟩ := b
        rw [hl] at hr
        simp only at hr
        obtain ⟨q1, q2⟩ := listL_sm h hl
        split at hr
        · injection hr with hr; injection hr with h1 h2; subst h1
          exact ⟨hh, q1, by show b.length ≤ 1000; omega⟩
        · cases hr
    · split at hr
      · injection hr with hr; injection hr with h1 h2; subst h1
        exact ⟨hh, by simp, by simp⟩
      · cases hr
theorem wholeR_ok {α : Type} {s : ByteArray} {ts : List Tok} {R : Except (Int × Int) (α × Nat)} {x : α} (h : wholeR s ts R = .ok x) : ∃ k, R = .ok (x, k) := by
  unfold wholeR at h
  match R, h with
  | .ok (y, k), h =>
    simp only at h
    split at h
    · injection h with h; subst h; exact ⟨k, rfl⟩
    · cases h
theorem parseR_sm {s : ByteArray} {c : Cq} (h : parseR s = .ok c) : c.Sm := by
  unfold parseR at h
  split at h
  · rename_i he
    obtain ⟨k, hk⟩ := wholeR_ok h
    exact clauseR_sm (src_of s he).size hk
  · cases h
theorem parseLitR_sm {s : ByteArray} {l : Lq} (h : parseLitR s = .ok l) : l.Sm := by
  unfold parseLitR at h
  split at h
  · rename_i he
    obtain ⟨k, hk⟩ := wholeR_ok h
    exact saidR_sm (src_of s he).size hk
  · cases h
theorem lp_in {w : World} {B : Nat} {l : Lp} (hm : Tms w B l.ptr l.args) (hs : l.q.Sm) : l.In w B :=
  ⟨hm, Nat.le_trans hs.len (by decide), hs.who.sz, Nat.le_trans hs.pred (by decide), fun t ht => (hs.args t ht).sz⟩
theorem lp_nb {l : Lp} (hs : l.q.Sm) : l.Nb := ⟨hs.who.nb, fun t ht => (hs.args t ht).nb⟩
theorem kp_in {w : World} {c : Kp} (hm : ClMem w c) (hs : c.q.Sm) : c.In w w.heap.size :=
  ⟨lp_in hm.head hs.head, ⟨hm.body, fun l hl => lp_in (hm.each l hl) (hs.body l.q (List.mem_map_of_mem hl)), by
    have := hs.len
    have e : c.q.body.length = c.body.length := by unfold Kp.q; simp
    omega⟩⟩
theorem kp_nb {c : Kp} (hs : c.q.Sm) : c.Nb := ⟨lp_nb hs.head, fun l hl => lp_nb (hs.body l.q (List.mem_map_of_mem hl))⟩
end Go.Proofs.YtfmkfabbiifolaaGreatDoor

/-
  What both Parse leave, in one form; what is read is small; a load behind a guard.
-/
set_option linter.unusedVariables false
set_option linter.unusedSimpArgs false
namespace Go.Proofs.YtfmkfabbiifolaaGreatDoor
open Go.RowKit

/-- a request without its places -/
structure RqV where
  kd : Int
  lb : ByteArray
  lf : Int
  c : Cq
  no : Int
  l : Lq
def rqvZ : RqV := ⟨0, ⟨#[]⟩, 0, kpZ.q, 0, lpZ.q⟩
def Req.v : Req → RqV
  | .ass lb lf x => ⟨1, lb, lf, x, 0, lpZ.q⟩
  | .rev n => ⟨2, ⟨#[]⟩, 0, kpZ.q, n, lpZ.q⟩
  | .ask kd x => ⟨kd, ⟨#[]⟩, 0, kpZ.q, 0, x⟩
  | .aud => ⟨5, ⟨#[]⟩, 0, kpZ.q, 0, lpZ.q⟩
def reqQ : Except (Int × Int) Req → RqV
  | .ok r => r.v
  | .error _ => rqvZ
def plQ : Except (Int × Int) Req → Int
  | .ok _ => 0
  | .error (_, p) => p
def erQ : Except (Int × Int) Req → Int
  | .ok _ => 0
  | .error (n, _) => n
/-- a request's memory -/
structure RqM (w : World) (cl : Kp) (lp : Lp) : Prop where
  cl : ClMem w cl
  lp : Tms w w.heap.size lp.ptr lp.args
theorem RqM.on {w w' : World} {cl : Kp} {lp : Lp} (h : RqM w cl lp) (hb : Below w.heap.size w w') : RqM w' cl lp := ⟨h.cl.on hb, h.lp.grow hb⟩
theorem clz_mem (w : World) : ClMem w kpZ := ⟨.inl rfl, .inl rfl, fun l hl => by cases hl⟩
theorem lpz_mem (w : World) (B : Nat) : Tms w B lpZ.ptr lpZ.args := .inl rfl
theorem rq_sum {w : World} {R : Except (Int × Int) Req} {e : Ending} {w' : World} (h : ReqPost w R e w') :
    ∃ cl lp, (cl.q = (reqQ R).c ∧ lp.q = (reqQ R).l) ∧ e = .returned (.tuple #[.agg (rqC (reqQ R).kd (reqQ R).lb (reqQ R).lf cl (reqQ R).no lp), .int .i64 (plQ R), .int .i64 (erQ R)]) ∧ RqM w' cl lp ∧ Below w.heap.size w w' := by
  cases R with
  | error x => obtain ⟨n, p⟩ := x; obtain ⟨h1, h2⟩ := h; exact ⟨kpZ, lpZ, ⟨rfl, rfl⟩, h1, ⟨clz_mem _, lpz_mem _ _⟩, h2⟩
  | ok r =>
    obtain ⟨cs, h1, h2, h3⟩ := h
    cases r with
    | ass lb lf x => obtain ⟨cl, hq, rfl, hm, _⟩ := h2; exact ⟨cl, lpZ, ⟨hq, rfl⟩, h1, ⟨hm, lpz_mem _ _⟩, h3⟩
    | rev n => obtain rfl : cs = _ := h2; exact ⟨kpZ, lpZ, ⟨rfl, rfl⟩, h1, ⟨clz_mem _, lpz_mem _ _⟩, h3⟩
    | ask kd x => obtain ⟨qx, cx, rfl, hm, _⟩ := h2; exact ⟨kpZ, x.at qx cx, ⟨rfl, rfl⟩, h1, ⟨clz_mem _, hm⟩, h3⟩
    | aud => obtain rfl : cs = _ := h2; exact ⟨kpZ, lpZ, ⟨rfl, rfl⟩, h1, ⟨clz_mem _, lpz_mem _ _⟩, h3⟩
theorem kpz_sm : kpZ.q.Sm := ⟨⟨tmZ_sm, by decide, fun t ht => (by cases ht), by decide⟩, fun l hl => (by cases hl), by decide⟩
theorem lpz_sm : lpZ.q.Sm := ⟨tmZ_sm, by decide, fun t ht => (by cases ht), by decide⟩
theorem restC_sm {s : ByteArray} {fr : Int} {lb : ByteArray} {lf : Int} {r : Req} (h : restC s fr (.ass lb lf) = .ok r) : r.v.c.Sm ∧ r.v.l.Sm := by
  unfold restC at h
  split at h
  · cases h
  · rename_i c hc
    injection h with h
    subst h
    exact ⟨parseR_sm hc, lpz_sm⟩
theorem restL_sm {s : ByteArray} {fr : Int} {kd : Int} {r : Req} (h : restL s fr (.ask kd) = .ok r) : r.v.c.Sm ∧ r.v.l.Sm := by
  unfold restL at h
  split at h
  · cases h
  · rename_i c hc
    injection h with h
    subst h
    exact ⟨kpz_sm, parseLitR_sm hc⟩
theorem reqR_sm {s : ByteArray} {r : Req} (h : reqR s = .ok r) : r.v.c.Sm ∧ r.v.l.Sm := by
  unfold reqR at h
  split at h
  · unfold reqT at h
    split at h
    · unfold assR at h
      split at h
      · cases h
      · split at h
        · split at h
          · cases h
          · exact restC_sm h
        · exact restC_sm h
    · split at h
      · unfold revR at h
        split at h
        · cases h
        · split at h
          · cases h
          · injection h with h; subst h; exact ⟨kpz_sm, lpz_sm⟩
      · split at h
        · exact restL_sm h
        · split at h
          · exact restL_sm h
          · split at h
            · unfold audR at h
              split at h
              · cases h
              · injection h with h; subst h; exact ⟨kpz_sm, lpz_sm⟩
            · cases h
  · cases h
theorem reqQ_sm (s : ByteArray) : (reqQ (reqR s)).c.Sm ∧ (reqQ (reqR s)).l.Sm := by
  cases h : reqR s with
  | ok r => exact reqR_sm h
  | error x => exact ⟨kpz_sm, lpz_sm⟩
theorem samereq_yes (V : RqV) (h1 : V.c.Sm) (h2 : V.l.Sm) (a b : Kp) (x y : Lp) (w : World) (ha : RqM w a x) (hb : RqM w b y) (ea : a.q = V.c) (eb : b.q = V.c) (ex : x.q = V.l) (ey : y.q = V.l) :
    Calls Tryz.prog 10 #[.agg (rqC V.kd V.lb V.lf a V.no x), .agg (rqC V.kd V.lb V.lf b V.no y)] w fun e w' => e = .returned (.bool true) ∧ Below w.heap.size w w' := by
  have k1 := h1.head.len
  have k2 := h1.len
  have k3 := h2.len
  rw [← ea] at k1 k2
  rw [← ex] at k3
  refine samereq_any V.kd V.lb V.lf V.no a b x y w ha.cl hb.cl ha.lp hb.lp (ea.trans eb.symm) (ex.trans ey.symm) ?_ ?_ (fun l hl => ?_) ?_
  · simp only [Kp.q, Lp.q] at k1; omega
  · simp only [Kp.q, List.length_map] at k2; omega
  · have h5 := (h1.body l.q (by rw [← ea]; exact List.mem_map_of_mem hl)).len
    simp only [Lp.q] at h5
    omega
  · simp only [Lp.q] at k3; omega

/-! Laws at operations. -/
section
variable {P : Program} {ops : Array Oper} {rest : List Oper} {o : Oper} {a : Act} {w : World} {Q : Exit → Act → World → Prop}
theorem wpL_load (hw : Region.wanted o (yielded ops a.tmps) = true) (ty : TypeId) (x : Operand) (ho : o.op = .load ty x) (b f : Nat) (hx : a.eval x = .pointer (some ⟨b, f, none⟩)) (cs : List Value) (d : TypeDesc) (hc : w.rangeAt b f cs)
    (hu : P.underlying ty = some d) (hd : d.isRow = true) (hi : (P.info? ty).map (·.size) = some cs.length) (h : wpList P ops Q rest (a.put o.dst (.agg cs.toArray)) w) : wpList P ops Q (o :: rest) a w := by
  unfold wpList
  rw [if_pos hw]
  exact .inl (wp_load_mid ty x ho b f hx cs d hc hu hd hi h)
end
theorem Bk.zeroReq {w : World} {T : TypeId} (kd : Int) (lb : ByteArray) (lf : Int) (cl : Kp) (no : Int) (lp : Lp) : Bk ((w.alloc (.cells (rqC 0 ⟨#[]⟩ 0 kpZ 0 lpZ) T)).setCells w.heap.size 0 (rqC kd lb lf cl no lp).toList) w.heap.size T (rqC kd lb lf cl no lp) :=
  Bk.setAll (Bk.new w T _) kd lb lf cl no lp ⟨_, _, _, kpZ, _, lpZ, rfl⟩
end Go.Proofs.YtfmkfabbiifolaaGreatDoor

/-
  Contracts: request.isLit, request.isClause.
-/
set_option linter.unusedVariables false
set_option linter.unusedSimpArgs false
namespace Go.Proofs.YtfmkfabbiifolaaGreatDoor
open Go.RowKit

/-- is a literal more than the zero one -/
def isLitB (l : Lp) : Bool := (l.kind != 0) || ((!(l.who.v.toList.isEmpty && (l.who.s.toList.isEmpty && l.who.n == 0))) || ((!l.pred.toList.isEmpty) || decide (0 < l.args.length)))
set_option maxHeartbeats 4000000 in
set_option maxRecDepth 100000 in
theorem islit_any (l : Lp) (w : World) : Calls Tryz.prog 37 #[l.agg] w fun e w' => e = .returned (.bool (isLitB l)) ∧ Below w.heap.size w w' := by
  have HB := Lib.hid (below1 w)
  have HP := Lib.hid (show isLitB l = ((l.kind != 0) || ((!(l.who.v.toList.isEmpty && (l.who.s.toList.isEmpty && l.who.n == 0))) || ((!l.pred.toList.isEmpty) || decide (0 < l.args.length)))) from rfl)
  generalize isLitB l = R at *
  obtain ⟨kd, ⟨v, s, n⟩, pr, q, c, args⟩ := l
  unfold Lp.agg
  simp only at HP ⊢
  have hz : ((args.length : Int) > 0) ↔ 0 < args.length := by omega
  go_enter Tryz.func37, Tryz.ntmps37
  go_wp2_with fail
  all_goals go_ret
  all_goals refine ⟨?_, HB.out _⟩
  all_goals rw [HP.out]
  all_goals simp_all
/-- is a clause more than the zero one -/
def isClauseB (c : Kp) : Bool := isLitB c.head || decide (0 < c.body.length)
set_option maxHeartbeats 4000000 in
set_option maxRecDepth 100000 in
theorem isclause_any (c : Kp) (w : World) : Calls Tryz.prog 36 #[c.agg] w fun e w' => e = .returned (.bool (isClauseB c)) ∧ Below w.heap.size w w' := by
  have HB := Lib.hid (below1 w)
  have HP := Lib.hid (show isClauseB c = (isLitB c.head || decide (0 < c.body.length)) from rfl)
  have HC := Lib.hid (fun X => islit_any c.head X)
  generalize isClauseB c = R at *
  generalize isLitB c.head = L at *
  unfold Lp.agg at HC
  unfold Kp.agg
  have HX := Lib.hid (Bk.new w 31 #[.int .u8 c.head.kind, .string c.head.who.v, .string c.head.who.s, .int .i64 c.head.who.n, .string c.head.pred, .slice c.head.ptr c.head.args.length c.head.cap, .slice c.ptr c.body.length c.cap])
  cases L with
  | true =>
    go_enter Tryz.func36, Tryz.ntmps36
    go_wp2_with (go_at_call 37; refine (HC.out _).mono ?_; rintro e w1 ⟨rfl, hb1⟩; have HB1 := Lib.hid ((HB.out _).trans (hb1.mono (HB.out _).size)); clear hb1)
    go_ret
    exact ⟨by rw [HP.out]; rfl, HB1.out⟩
  | false =>
    by_cases hl : 0 < c.body.length
    · have hl1 : (0 : Int) < (c.body.length : Int) := by omega
      go_enter Tryz.func36, Tryz.ntmps36
      go_wp2_with (go_at_call 37; refine (HC.out _).mono ?_; rintro e w1 ⟨rfl, hb1⟩; have HB1 := Lib.hid ((HB.out _).trans (hb1.mono (HB.out _).size)); obtain ⟨g0, g1, g2, g3, g4, g5, g6⟩ := (HX.out.on hb1).seven; clear hb1)
      go_ret
      exact ⟨by rw [HP.out, decide_eq_true hl]; rfl, HB1.out⟩
    · have hl1 : ¬ (0 : Int) < (c.body.length : Int) := by omega
      go_enter Tryz.func36, Tryz.ntmps36
      go_wp2_with (go_at_call 37; refine (HC.out _).mono ?_; rintro e w1 ⟨rfl, hb1⟩; have HB1 := Lib.hid ((HB.out _).trans (hb1.mono (HB.out _).size)); obtain ⟨g0, g1, g2, g3, g4, g5, g6⟩ := (HX.out.on hb1).seven; clear hb1)
      go_ret
      exact ⟨by rw [HP.out, decide_eq_false hl]; rfl, HB1.out⟩
theorem digits_any (n : Int) (w : World) (h0 : -9223372036854775808 ≤ n) (h1 : n ≤ 9223372036854775807) (he : Env w) : Calls Tryz.prog 69 #[.int .i64 n] w fun e w' => e = .returned (.string (itoaS n)) ∧ Below w.heap.size w w' := by
  have HC := Lib.hid (formatInt_any n w h0 h1 he)
  generalize itoaS n = S at *
  go_enter Tryz.func69, Tryz.ntmps69
  go_wp2_with (go_at_call 96; refine (HC.out).mono ?_; rintro e w1 ⟨rfl, hb1⟩; have HB1 := Lib.hid hb1; clear hb1)
  go_ret
  exact ⟨rfl, HB1.out⟩
end Go.Proofs.YtfmkfabbiifolaaGreatDoor
