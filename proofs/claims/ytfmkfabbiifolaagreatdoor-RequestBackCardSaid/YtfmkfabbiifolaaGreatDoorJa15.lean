/-
  Joined of: PrsN, WholeA.
-/
import Derived.Test.YtfmkfabbiifolaaGreatDoorJa14
import Derived.Test.YtfmkfabbiifolaaGreatDoorJa06
set_option linter.unusedVariables false
set_option linter.unusedSimpArgs false
/-
  Contract: parser.clause.
-/
namespace Go.Proofs.YtfmkfabbiifolaaGreatDoor
open Go.RowKit

def Kp.q (c : Kp) : Cq := ⟨c.head.q, c.body.map Lp.q⟩
/-- a clause's terms and literals can be read -/
structure ClMem (w : World) (cl : Kp) : Prop where
  head : Tms w w.heap.size cl.head.ptr cl.head.args
  body : Rd encL 6 w w.heap.size cl.ptr cl.body
  each : ∀ l ∈ cl.body, Tms w w.heap.size l.ptr l.args
theorem ClMem.on {w w' : World} {cl : Kp} (h : ClMem w cl) (hb : Below w.heap.size w w') : ClMem w' cl :=
  ⟨h.head.grow hb, h.body.grow hb, fun l hl => (h.each l hl).grow hb⟩
/-- they lie at B or behind -/
def ClFar (B : Nat) (cl : Kp) : Prop := (∀ b, cl.head.ptr = some b → B ≤ b.block) ∧ (∀ b, cl.ptr = some b → B ≤ b.block) ∧ ∀ l ∈ cl.body, l.args = [] ∨ ∀ b, l.ptr = some b → B ≤ b.block
theorem ClFar.mono {B B' : Nat} {cl : Kp} (h : ClFar B cl) (hB : B' ≤ B) : ClFar B' cl :=
  ⟨fun b hb => Nat.le_trans hB (h.1 b hb), fun b hb => Nat.le_trans hB (h.2.1 b hb), fun l hl => (h.2.2 l hl).imp id fun h b hb => Nat.le_trans hB (h b hb)⟩
theorem ClMem.above {w w' : World} {G : Nat} {cl : Kp} (h : ClMem w cl) (hf : ClFar G cl) (ha : Above G w w') (hs : w.heap.size ≤ w'.heap.size) : ClMem w' cl :=
  ⟨ha.rd h.head hf.1 hs, ha.rd h.body hf.2.1 hs, fun l hl => by
    rcases hf.2.2 l hl with h' | h'
    · rw [h']; exact .nil
    · exact ha.rd (h.each l hl) h' hs⟩
/-- how a clause's reading ends -/
def ClausePost (w : World) (pb : Nat) (s : ByteArray) (q : Option Addr) (c : Nat) (ts : List Tok) (R : Except (Int × Int) (Cq × Nat)) (e : Ending) (w' : World) : Prop := match R with
  | .ok (x, k) => ∃ cl : Kp, cl.q = x ∧ e = .returned cl.agg ∧ ClMem w' cl ∧ ClFar w.heap.size cl ∧ Ps w' pb s q c ts k ∧ Only pb w w'
  | .error (n, p) => e = .panicked (faultV n p) ∧ Only pb w w'
theorem below3 (w : World) (o o' o'' : Obj) : Below w.heap.size w (((w.alloc o).alloc o').alloc o'') := (below2 w o o').trans ((below1 _ o'').mono (below2 w o o').size)
theorem Bk.new3 (w : World) (o o' : Obj) (T : TypeId) (cs : Array Value) : Bk (((w.alloc o).alloc o').alloc (.cells cs T)) (w.heap.size + 2) T cs := by
  have := Bk.new ((w.alloc o).alloc o') T cs
  simpa using this
theorem Bk.seven {w : World} {b : Nat} {T : TypeId} {a0 a1 a2 a3 a4 a5 a6 : Value} (h : Bk w b T #[a0, a1, a2, a3, a4, a5, a6]) :
    w.cell? ⟨b, 0, none⟩ = some a0 ∧ w.cell? ⟨b, 1, none⟩ = some a1 ∧ w.cell? ⟨b, 2, none⟩ = some a2 ∧ w.cell? ⟨b, 3, none⟩ = some a3 ∧ w.cell? ⟨b, 4, none⟩ = some a4 ∧ w.cell? ⟨b, 5, none⟩ = some a5 ∧ w.cell? ⟨b, 6, none⟩ = some a6 :=
  ⟨h.cell 0 _ rfl, h.cell 1 _ rfl, h.cell 2 _ rfl, h.cell 3 _ rfl, h.cell 4 _ rfl, h.cell 5 _ rfl, h.cell 6 _ rfl⟩
theorem load7 {w : World} {b : Nat} {T : TypeId} {a0 a1 a2 a3 a4 a5 a6 : Value} (h : Bk w b T #[a0, a1, a2, a3, a4, a5, a6]) (u0 u1 u2 u3 u4 u5 u6 : Value) :
    Bk (((((((w.setCell ⟨b, 0, none⟩ u0).setCell ⟨b, 1, none⟩ u1).setCell ⟨b, 2, none⟩ u2).setCell ⟨b, 3, none⟩ u3).setCell ⟨b, 4, none⟩ u4).setCell ⟨b, 5, none⟩ u5).setCell ⟨b, 6, none⟩ u6) b T #[u0, u1, u2, u3, u4, u5, u6] := by
  have h0 : Bk _ b T #[u0, a1, a2, a3, a4, a5, a6] := h.set 0 u0
  have h1 : Bk _ b T #[u0, u1, a2, a3, a4, a5, a6] := h0.set 1 u1
  have h2 : Bk _ b T #[u0, u1, u2, a3, a4, a5, a6] := h1.set 2 u2
  have h3 : Bk _ b T #[u0, u1, u2, u3, a4, a5, a6] := h2.set 3 u3
  have h4 : Bk _ b T #[u0, u1, u2, u3, u4, a5, a6] := h3.set 4 u4
  have h5 : Bk _ b T #[u0, u1, u2, u3, u4, u5, a6] := h4.set 5 u5
  have h6 : Bk _ b T #[u0, u1, u2, u3, u4, u5, u6] := h5.set 6 u6
  exact h6
theorem set7 {w : World} {B b : Nat} (h : B ≤ b) (u0 u1 u2 u3 u4 u5 u6 : Value) : Below B w (((((((w.setCell ⟨b, 0, none⟩ u0).setCell ⟨b, 1, none⟩ u1).setCell ⟨b, 2, none⟩ u2).setCell ⟨b, 3, none⟩ u3).setCell ⟨b, 4, none⟩ u4).setCell ⟨b, 5, none⟩ u5).setCell ⟨b, 6, none⟩ u6) :=
  (set6 h u0 u1 u2 u3 u4 u5).trans (setB h 6 u6)
theorem Above.set7 {G : Nat} {w w' : World} (h : Above G w w') {b : Nat} (hb : b < G) (u0 u1 u2 u3 u4 u5 u6 : Value) : Above G w (((((((w'.setCell ⟨b, 0, none⟩ u0).setCell ⟨b, 1, none⟩ u1).setCell ⟨b, 2, none⟩ u2).setCell ⟨b, 3, none⟩ u3).setCell ⟨b, 4, none⟩ u4).setCell ⟨b, 5, none⟩ u5).setCell ⟨b, 6, none⟩ u6) :=
  (h.set6 hb u0 u1 u2 u3 u4 u5).set hb 6 u6
theorem Above.trans {G : Nat} {a b c : World} (h : Above G a b) (k : Above G b c) : Above G a c := fun g hg => (k g hg).trans (h g hg)

set_option maxHeartbeats 8000000 in
set_option maxRecDepth 100000 in
theorem clause_bad (w : World) (pb : Nat) (s : ByteArray) (q : Option Addr) (c : Nat) (ts : List Tok) (k : Nat) (n p : Int) (h : Ps w pb s q c ts k) (hA : atomR s ts k = .error (n, p)) :
    Calls Tryz.prog 85 #[.pointer (some ⟨pb, 0, none⟩)] w fun e w' => e = .panicked (faultV n p) ∧ Only pb w w' := by
  have HP := Lib.hid h
  have hpb := h.lt
  have HB := Lib.hid (below3 w)
  have HA := Lib.hid (show ∀ wx, Ps wx pb s q c ts k → Calls Tryz.prog 110 #[.pointer (some ⟨pb, 0, none⟩)] wx fun e w' => e = .panicked (faultV n p) ∧ Only pb wx w' from fun wx hx => (atom_any wx pb s q c ts k hx).mono fun e w' he => by rw [hA] at he; exact he.bad)
  clear h hA
  go_enter Tryz.func85, Tryz.ntmps85
  go_wp2_with (go_at_call 110; refine (HA.out _ (HP.out.on (HB.out _ _ _))).mono ?_; rintro e w1 ⟨rfl, ho1⟩)
  exact ⟨rfl, rfl, (Only.of (HB.out _ _ _)).trans ho1⟩

/-- a clause's blocks once its head was read -/
structure Hd (w0 w : World) (pb : Nat) (s : ByteArray) (q : Option Addr) (c : Nat) (ts : List Tok) (k : Nat) (nm : ByteArray) (l : List Tm) (hq : Option Addr) (hc : Nat) : Prop where
  only : Only pb w0 w
  ps : Ps w pb s q c ts k
  z : Bk w (w0.heap.size + 1) 31 #[.int .u8 0, .string ⟨#[]⟩, .string ⟨#[]⟩, .int .i64 0, .string ⟨#[]⟩, .slice none 0 0, .slice none 0 0]
  c : Bk w (w0.heap.size + 2) 31 #[.int .u8 1, .string ⟨#[]⟩, .string ⟨#[]⟩, .int .i64 0, .string nm, .slice hq l.length hc, .slice none 0 0]
  x : Boxed w w0.heap.size 128 (.pointer (some ⟨pb, 0, none⟩))
  args : Tms w w.heap.size hq l
  far : ∀ b, hq = some b → w0.heap.size + 3 ≤ b.block
theorem Hd.step {w0 w w' : World} {pb : Nat} {s : ByteArray} {q : Option Addr} {c : Nat} {ts : List Tok} {k k' : Nat} {nm : ByteArray} {l : List Tm} {hq : Option Addr} {hc : Nat} (h : Hd w0 w pb s q c ts k nm l hq hc) (hp : pb < w0.heap.size) (ho : Only pb w w') (hk : Ps w' pb s q c ts k') : Hd w0 w' pb s q c ts k' nm l hq hc :=
  ⟨h.only.trans ho, hk, h.z.only ho (by omega), h.c.only ho (by omega), Boxed.only h.x ho (by omega), (by
    rcases h.args with h1 | ⟨b, off, h1, h2, h3⟩
    · exact .inl h1
    · have := h.far _ h1
      refine .inr ⟨b, off, h1, Nat.lt_of_lt_of_le h2 ho.size, fun i hi r u hu => ?_⟩
      exact (show w'.cell? ⟨b, off + i * 3 + r, none⟩ = w.cell? ⟨b, off + i * 3 + r, none⟩ from World.cell?_of_block (w := w) (ho.block b h2 (by simp at this; omega))).trans (h3 i hi r u hu)), h.far⟩
theorem Hd.start {w0 w1 : World} {pb : Nat} {s : ByteArray} {q : Option Addr} {c : Nat} {ts : List Tok} {k : Nat} {nm : ByteArray} {l : List Tm} {hq : Option Addr} {hc : Nat} {o1 o2 o3 : Obj}
    (h1 : o1 = .cells #[.pointer (some ⟨pb, 0, none⟩)] 128) (h2 : o2 = .cells #[.int .u8 0, .string ⟨#[]⟩, .string ⟨#[]⟩, .int .i64 0, .string ⟨#[]⟩, .slice none 0 0, .slice none 0 0] 31) (h3 : o3 = .cells #[.int .u8 1, .string ⟨#[]⟩, .string ⟨#[]⟩, .int .i64 0, .string ⟨#[]⟩, .slice none 0 0, .slice none 0 0] 31)
    (hpb : pb < w0.heap.size) (ho : Only pb (((w0.alloc o1).alloc o2).alloc o3) w1) (hp : Ps w1 pb s q c ts k) (ht : Tms w1 w1.heap.size hq l) (hf : ∀ b, hq = some b → (((w0.alloc o1).alloc o2).alloc o3).heap.size ≤ b.block) :
    Hd w0 ((w1.setCell ⟨w0.heap.size + 2, 4, none⟩ (.string nm)).setCell ⟨w0.heap.size + 2, 5, none⟩ (.slice hq l.length hc)) pb s q c ts k nm l hq hc ∧ Bk w1 (w0.heap.size + 2) 31 #[.int .u8 1, .string ⟨#[]⟩, .string ⟨#[]⟩, .int .i64 0, .string ⟨#[]⟩, .slice none 0 0, .slice none 0 0] := by
  subst h1 h2 h3
  have hz : Bk w1 (w0.heap.size + 1) 31 #[.int .u8 0, .string ⟨#[]⟩, .string ⟨#[]⟩, .int .i64 0, .string ⟨#[]⟩, .slice none 0 0, .slice none 0 0] := ((Bk.new2 w0 _ _ _).on (below1 _ _)).only ho (by omega)
  have hc' : Bk w1 (w0.heap.size + 2) 31 #[.int .u8 1, .string ⟨#[]⟩, .string ⟨#[]⟩, .int .i64 0, .string ⟨#[]⟩, .slice none 0 0, .slice none 0 0] := (Bk.new3 w0 _ _ _ _).only ho (by omega)
  have hx : Boxed w1 w0.heap.size 128 (.pointer (some ⟨pb, 0, none⟩)) := ((Bk.new1 w0 _ _ _).on (below1 _ _)).only ho (by omega)
  have hb : Below w0.heap.size w1 ((w1.setCell ⟨w0.heap.size + 2, 4, none⟩ (.string nm)).setCell ⟨w0.heap.size + 2, 5, none⟩ (.slice hq l.length hc)) := (setB (by omega) 4 _).trans (setB (by omega) 5 _)
  have ha : Above (w0.heap.size + 3) w1 ((w1.setCell ⟨w0.heap.size + 2, 4, none⟩ (.string nm)).setCell ⟨w0.heap.size + 2, 5, none⟩ (.slice hq l.length hc)) := ((Above.refl _ _).set (by omega) 4 _).set (by omega) 5 _
  have hfar : ∀ b, hq = some b → w0.heap.size + 3 ≤ b.block := fun b e => by have := hf b e; simp at this; omega
  exact ⟨⟨((Only.of (below3 w0 _ _ _)).trans ho).add hb, hp.on' (hb.mono (by omega)), (hz.other (by omega) 4 _).other (by omega) 5 _, (hc'.set 4 _).set 5 _, ((Bk.other hx (by omega) 4 _).other (by omega) 5 _), ha.rd ht hfar hb.size, hfar⟩, hc'⟩

/-- seven cells laid into the result's block: what stands there, and what stays -/
theorem clause_close {w w4 W : World} {pb : Nat} {s : ByteArray} {q : Option Addr} {c : Nat} {ts : List Tok} {k : Nat} {cl : Kp} {x : Cq} (hx : cl.q = x) (hm : ClMem w4 cl) (hp : Ps w4 pb s q c ts k) (ho : Only pb w w4) (hpb : pb < w.heap.size)
    (hb : Below w.heap.size w4 W) (ha : Above (w.heap.size + 2) w4 W) (hf : ClFar (w.heap.size + 2) cl) :
    ClausePost w pb s q c ts (.ok (x, k)) (.returned cl.agg) W :=
  ⟨cl, hx, rfl, hm.above hf ha hb.size, hf.mono (by omega), hp.on' (hb.mono (by omega)), ho.add hb⟩
theorem ClausePost.sum {w w' : World} {pb : Nat} {s : ByteArray} {q : Option Addr} {c : Nat} {ts : List Tok} {R : Except (Int × Int) (Cq × Nat)} {e : Ending} (h : ClausePost w pb s q c ts R e w') :
    (∃ n p, R = .error (n, p) ∧ e = .panicked (faultV n p) ∧ Only pb w w') ∨
    (∃ x k cl, R = .ok (x, k) ∧ cl.q = x ∧ e = .returned cl.agg ∧ ClMem w' cl ∧ ClFar w.heap.size cl ∧ Ps w' pb s q c ts k ∧ Only pb w w') := by
  match R, h with
  | .error (n, p), h => exact .inl ⟨n, p, rfl, h⟩
  | .ok (x, k), ⟨cl, h⟩ => exact .inr ⟨x, k, cl, rfl, h⟩

set_option maxHeartbeats 8000000 in
set_option maxRecDepth 100000 in
theorem clause_bare (w : World) (pb : Nat) (s : ByteArray) (q : Option Addr) (c : Nat) (ts : List Tok) (k k1 : Nat) (nm : ByteArray) (l : List Tm) (h : Ps w pb s q c ts k) (hA : atomR s ts k = .ok ((nm, l), k1)) (hi : textAt s ts k1 ≠ wdIf) :
    Calls Tryz.prog 85 #[.pointer (some ⟨pb, 0, none⟩)] w (ClausePost w pb s q c ts (clauseR s ts k)) := by
  have HR := Lib.hid (show clauseR s ts k = if textAt s ts k1 = wdDot then .ok (⟨⟨1, tmZ, nm, l⟩, []⟩, k1 + 1) else .error (6, placeAt s ts k1) by unfold clauseR; rw [hA]; simp only; rw [if_neg hi])
  generalize clauseR s ts k = R at *
  have HP := Lib.hid h
  have hpb := h.lt
  have HB := Lib.hid (below3 w)
  have HA := Lib.hid (show ∀ wx, Ps wx pb s q c ts k → Calls Tryz.prog 110 #[.pointer (some ⟨pb, 0, none⟩)] wx (AtomPost wx pb s q c ts (.ok ((nm, l), k1))) from fun wx hx => hA ▸ atom_any wx pb s q c ts k hx)
  have HN := Lib.hid (show ∀ wx, Ps wx pb s q c ts k1 → Calls Tryz.prog 111 #[.pointer (some ⟨pb, 0, none⟩), .string ⟨#[58, 45]⟩] wx fun e w' => e = .returned (.bool false) ∧ Below wx.heap.size wx w' from fun wx hx => took_no wx pb s q c ts k1 _ hx hi)
  have HW := Lib.hid (show ∀ wx, Ps wx pb s q c ts k1 → Calls Tryz.prog 115 #[.pointer (some ⟨pb, 0, none⟩), .string ⟨#[46]⟩] wx fun e w' =>
      (e = .panicked (faultV 6 (placeAt s ts k1)) ∧ textAt s ts k1 ≠ wdDot ∧ Only pb wx w') ∨ (e = .returned (.tuple #[]) ∧ textAt s ts k1 = wdDot ∧ Ps w' pb s q c ts (k1 + 1) ∧ Only pb wx w') from fun wx hx => want_any wx pb s q c ts k1 _ hx (by decide))
  clear h hA hi
  go_enter Tryz.func85, Tryz.ntmps85
  go_wp2_with (first
    | (go_at_call 110; refine (HA.out _ (HP.out.on (HB.out _ _ _))).mono ?_; intro e w1 h1; obtain ⟨hq, hc, rfl, ht1, hf1, hp1, ho1⟩ := h1.ok; have HS := Lib.hid (Hd.start (nm := nm) (hc := hc) rfl rfl rfl hpb ho1 hp1 ht1 hf1); have HD1 := Lib.hid HS.out.1; have e4 := HS.out.2.cell 4 _ rfl; have e5 := HS.out.2.cell 5 _ rfl; have f4 := HS.out.2.soft 4; have f5 := HS.out.2.soft 5; have x1 := Boxed.cell HD1.out.x; clear h1 ht1 hf1 hp1 ho1)
    | (go_at_call 111; refine (HN.out _ HD1.out.ps).mono ?_; rintro e w2 ⟨rfl, hb2⟩; have HD2 := Lib.hid (HD1.out.step hpb (Only.of hb2) (HD1.out.ps.on hb2)); have x2 := Boxed.cell HD2.out.x; clear hb2)
    | (go_at_call 115; refine (HW.out _ HD2.out.ps).mono ?_; rintro e w3 (⟨rfl, hn, ho3⟩ | ⟨rfl, hy, hp3, ho3⟩); (exact ⟨rfl, by rw [HR.out, if_neg hn]; exact ⟨rfl, HD2.out.only.trans ho3⟩⟩); have HR3 := Lib.hid (HR.out.trans (if_pos hy)); have HD3 := Lib.hid (HD2.out.step hpb ho3 hp3); obtain ⟨d0, d1, d2, d3, d4, d5, d6⟩ := HD3.out.c.seven; obtain ⟨r0, r1, r2, r3, r4, r5, r6⟩ := HD3.out.z.seven; obtain ⟨z0, z1, z2, z3, z4, z5, z6⟩ := HD3.out.z.softs; clear hp3 ho3 hy))
  obtain ⟨y0, y1, y2, y3, y4, y5, y6⟩ := (load7 HD3.out.z (.int .u8 1) (.string ⟨#[]⟩) (.string ⟨#[]⟩) (.int .i64 0) (.string nm) (.slice hq l.length hc) (.slice none 0 0)).seven
  refine bodyPost_ret (v := Kp.agg ⟨⟨1, tmZ, nm, hq, hc, l⟩, none, 0, []⟩) ?_ rfl ?_
  · simp [results, Tryz.results85, go_sem, y0, y1, y2, y3, y4, y5, y6, Kp.agg, tmZ]
  · rw [HR3.out]
    exact clause_close (w4 := w3) (cl := ⟨⟨1, tmZ, nm, hq, hc, l⟩, none, 0, []⟩) rfl ⟨HD3.out.args, .nil, fun l hl => by cases hl⟩ HD3.out.ps HD3.out.only hpb (set7 (by omega) _ _ _ _ _ _ _) ((Above.refl _ _).set7 (by omega) _ _ _ _ _ _ _) ⟨fun b hb => Nat.le_trans (by omega) (HD3.out.far b hb), fun b hb => by (cases hb), fun l hl => by cases hl⟩

theorem LI.start {w w2 : World} {pb : Nat} {s : ByteArray} {q : Option Addr} {c : Nat} {ts : List Tok} {k : Nat} {nm : ByteArray} {l : List Tm} {hq : Option Addr} {hc : Nat} (h : Hd w w2 pb s q c ts k nm l hq hc) (hp : pb < w.heap.size) :
    LI w w2 w2.heap.size pb (w.heap.size + 2) w.heap.size (.int .u8 1) (.string ⟨#[]⟩) (.string ⟨#[]⟩) (.int .i64 0) (.string nm) (.slice hq l.length hc) s q c ts k [] w2 := by
  have h1 := h.c.lt
  exact ⟨h.only, fun _ _ _ _ => rfl, h.ps, ⟨_, h.c, World.ownsRow_nil _ _ _ _, fun x hx => by cases hx⟩, h.x, by omega, h1, h.x.lt, by omega, by omega, by omega, hp, by omega, Nat.le_refl _⟩
/-- the clause once its body was read -/
theorem LI.mem {w w2 w4 : World} {pb : Nat} {s : ByteArray} {q : Option Addr} {c : Nat} {ts : List Tok} {k k2 : Nat} {nm : ByteArray} {l : List Tm} {hq : Option Addr} {hc : Nat} {acc : List Lp} (hd : Hd w w2 pb s q c ts k nm l hq hc) (hpb : pb < w.heap.size)
    (h : LI w w2 w2.heap.size pb (w.heap.size + 2) w.heap.size (.int .u8 1) (.string ⟨#[]⟩) (.string ⟨#[]⟩) (.int .i64 0) (.string nm) (.slice hq l.length hc) s q c ts k2 acc w4) :
    Bk w4 (w.heap.size + 1) 31 #[.int .u8 0, .string ⟨#[]⟩, .string ⟨#[]⟩, .int .i64 0, .string ⟨#[]⟩, .slice none 0 0, .slice none 0 0] ∧
    ∃ q' c', Bk w4 (w.heap.size + 2) 31 #[.int .u8 1, .string ⟨#[]⟩, .string ⟨#[]⟩, .int .i64 0, .string nm, .slice hq l.length hc, .slice q' acc.length c'] ∧
      ClMem w4 ⟨⟨1, tmZ, nm, hq, hc, l⟩, q', c', acc⟩ ∧ (∀ b, q' = some b → w.heap.size + 2 ≤ b.block) ∧ (∀ x ∈ acc, x.args = [] ∨ ∀ b, x.ptr = some b → w.heap.size + 2 ≤ b.block) := by
  have hz := hd.z.lt
  have hcl := hd.c.lt
  obtain ⟨v, hv, hown, hfar⟩ := h.own
  obtain ⟨q', c', rfl, hrd, _⟩ := grw_form EL (.inr hown) h.hi
  have hfr := own_fresh hown
  refine ⟨(h.old (w.heap.size + 1) hz (by omega) (by omega)).trans hd.z, q', c', hv, ⟨?_, hrd, fun x hx => (hfar x hx).rd⟩, fun b hb => Nat.le_trans (by omega) (hfr b hb), fun x hx => ?_⟩
  · rcases hd.args with h1 | ⟨b, off, h1, h2, h3⟩
    · exact .inl h1
    · have hb := hd.far _ h1
      simp only at hb
      exact .inr ⟨b, off, h1, Nat.lt_of_lt_of_le h2 h.hi, fun i hi r u hu => (show w4.cell? ⟨b, off + i * 3 + r, none⟩ = w2.cell? ⟨b, off + i * 3 + r, none⟩ from World.cell?_of_block (w := w2) (h.old b h2 (by omega) (by omega))).trans (h3 i hi r u hu)⟩
  · rcases hfar x hx with h1 | ⟨b, off, h1, h2, _⟩
    · exact .inl h1
    · exact .inr fun b' hb' => by rw [h1] at hb'; cases hb'; show w.heap.size + 2 ≤ b; omega

set_option maxHeartbeats 8000000 in
set_option maxRecDepth 100000 in
theorem clause_if (w : World) (pb : Nat) (s : ByteArray) (q : Option Addr) (c : Nat) (ts : List Tok) (k k1 : Nat) (nm : ByteArray) (l : List Tm) (h : Ps w pb s q c ts k) (hA : atomR s ts k = .ok ((nm, l), k1)) (hi : textAt s ts k1 = wdIf) :
    Calls Tryz.prog 85 #[.pointer (some ⟨pb, 0, none⟩)] w (ClausePost w pb s q c ts (clauseR s ts k)) := by
  have HR := Lib.hid (show clauseR s ts k = match listL s ts 5 (k1 + 1) with
      | .error e => .error e
      | .ok (b, k2) => if textAt s ts k2 = wdDot then .ok (⟨⟨1, tmZ, nm, l⟩, b⟩, k2 + 1) else .error (6, placeAt s ts k2) by
    unfold clauseR; rw [hA]; simp only; rw [if_pos hi]; cases listL s ts 5 (k1 + 1) <;> rfl)
  generalize clauseR s ts k = R at *
  have HP := Lib.hid h
  have hpb := h.lt
  have HB := Lib.hid (below3 w)
  have hmf : ∀ (fn : Fn) (first cap : Array Value) (w : World), (Instr.makeFunc fn first cap).run Tryz.prog w = .ok (.func fn first cap) w := fun _ _ _ _ => rfl
  have HA := Lib.hid (show ∀ wx, Ps wx pb s q c ts k → Calls Tryz.prog 110 #[.pointer (some ⟨pb, 0, none⟩)] wx (AtomPost wx pb s q c ts (.ok ((nm, l), k1))) from fun wx hx => hA ▸ atom_any wx pb s q c ts k hx)
  have HN := Lib.hid (show ∀ wx, Ps wx pb s q c ts k1 → Calls Tryz.prog 111 #[.pointer (some ⟨pb, 0, none⟩), .string ⟨#[58, 45]⟩] wx fun e w' => e = .returned (.bool true) ∧ Ps w' pb s q c ts (k1 + 1) ∧ Only pb wx w' from fun wx hx => took_yes wx pb s q c ts k1 _ hx hi (text_lt hi (by decide)))
  have HLC := Lib.hid (show ∀ w1 wx B cb pp a0 a1 a2 a3 a4 a5, LI w w1 B pb cb pp a0 a1 a2 a3 a4 a5 s q c ts (k1 + 1) [] wx → Calls Tryz.prog 112 #[.pointer (some ⟨pb, 0, none⟩), .int .i64 6, .func (.func 113) #[] #[.pointer (some ⟨cb, 0, none⟩), .pointer (some ⟨pp, 0, none⟩)]] wx (ListPostL w w1 B pb cb pp a0 a1 a2 a3 a4 a5 s q c ts (listL s ts 5 (k1 + 1))) from fun w1 wx B cb pp a0 a1 a2 a3 a4 a5 hx => listL_any w w1 wx B pb cb pp a0 a1 a2 a3 a4 a5 s q c ts (k1 + 1) hx)
  have HW := Lib.hid (show ∀ wx k2, Ps wx pb s q c ts k2 → Calls Tryz.prog 115 #[.pointer (some ⟨pb, 0, none⟩), .string ⟨#[46]⟩] wx fun e w' =>
      (e = .panicked (faultV 6 (placeAt s ts k2)) ∧ textAt s ts k2 ≠ wdDot ∧ Only pb wx w') ∨ (e = .returned (.tuple #[]) ∧ textAt s ts k2 = wdDot ∧ Ps w' pb s q c ts (k2 + 1) ∧ Only pb wx w') from fun wx k2 hx => want_any wx pb s q c ts k2 _ hx (by decide))
  clear h hA hi
  cases hL : listL s ts 5 (k1 + 1) with
  | error np =>
    obtain ⟨n, p⟩ := np
    rw [hL] at HR HLC
    obtain rfl : R = .error (n, p) := HR.out
    clear HR hL HW
    go_enter Tryz.func85, Tryz.ntmps85
    go_wp2_with (first
      | (go_at_call 110; refine (HA.out _ (HP.out.on (HB.out _ _ _))).mono ?_; intro e w1 h1; obtain ⟨hq, hc, rfl, ht1, hf1, hp1, ho1⟩ := h1.ok; have HS := Lib.hid (Hd.start (nm := nm) (hc := hc) rfl rfl rfl hpb ho1 hp1 ht1 hf1); have HD1 := Lib.hid HS.out.1; have e4 := HS.out.2.cell 4 _ rfl; have e5 := HS.out.2.cell 5 _ rfl; have f4 := HS.out.2.soft 4; have f5 := HS.out.2.soft 5; have x1 := Boxed.cell HD1.out.x; clear h1 ht1 hf1 hp1 ho1)
      | (go_at_call 111; refine (HN.out _ HD1.out.ps).mono ?_; rintro e w2 ⟨rfl, hp2, ho2⟩; have HD2 := Lib.hid (HD1.out.step hpb ho2 hp2); have x2 := Boxed.cell HD2.out.x; have HLL := Lib.hid (LI.start HD2.out hpb); clear hp2 ho2)
      | (go_at_call 112; refine (HLC.out _ _ _ _ _ _ _ _ _ _ _ HLL.out).mono ?_; rintro e w3 ⟨rfl, ho3⟩))
    exact ⟨rfl, rfl, ho3⟩
  | ok bk =>
    obtain ⟨b, k2⟩ := bk
    rw [hL] at HR HLC
    have HR2 := Lib.hid (show R = if textAt s ts k2 = wdDot then .ok (⟨⟨1, tmZ, nm, l⟩, b⟩, k2 + 1) else .error (6, placeAt s ts k2) from HR.out)
    clear HR hL
    go_enter Tryz.func85, Tryz.ntmps85
    go_wp2_with (first
      | (go_at_call 110; refine (HA.out _ (HP.out.on (HB.out _ _ _))).mono ?_; intro e w1 h1; obtain ⟨hq, hc, rfl, ht1, hf1, hp1, ho1⟩ := h1.ok; have HS := Lib.hid (Hd.start (nm := nm) (hc := hc) rfl rfl rfl hpb ho1 hp1 ht1 hf1); have HD1 := Lib.hid HS.out.1; have e4 := HS.out.2.cell 4 _ rfl; have e5 := HS.out.2.cell 5 _ rfl; have f4 := HS.out.2.soft 4; have f5 := HS.out.2.soft 5; have x1 := Boxed.cell HD1.out.x; clear h1 ht1 hf1 hp1 ho1)
      | (go_at_call 111; refine (HN.out _ HD1.out.ps).mono ?_; rintro e w2 ⟨rfl, hp2, ho2⟩; have HD2 := Lib.hid (HD1.out.step hpb ho2 hp2); have x2 := Boxed.cell HD2.out.x; have HLL := Lib.hid (LI.start HD2.out hpb); clear hp2 ho2)
      | (go_at_call 112; refine (HLC.out _ _ _ _ _ _ _ _ _ _ _ HLL.out).mono ?_; rintro e w3 ⟨rfl, acP, hmap, hi3⟩; have HMP := Lib.hid hmap; have HI3 := Lib.hid hi3; have x3 := Boxed.cell hi3.ptr; clear hi3 hmap)
      | (go_at_call 115; refine (HW.out _ _ HI3.out.ps).mono ?_; rintro e w4 (⟨rfl, hn, ho4⟩ | ⟨rfl, hy, hp4, ho4⟩); (exact ⟨rfl, by rw [HR2.out, if_neg hn]; exact ⟨rfl, HI3.out.only.trans ho4⟩⟩); have HR4 := Lib.hid (HR2.out.trans (if_pos hy)); have HI4 := Lib.hid (HI3.out.step ho4 hp4); obtain ⟨hbz, q', c', hbc, hcm, hq1, hq2⟩ := LI.mem HD2.out hpb HI4.out; have HBZ := Lib.hid hbz; have HCM := Lib.hid hcm; have HQ1 := Lib.hid hq1; have HQ2 := Lib.hid hq2; obtain ⟨d0, d1, d2, d3, d4, d5, d6⟩ := hbc.seven; obtain ⟨r0, r1, r2, r3, r4, r5, r6⟩ := hbz.seven; obtain ⟨z0, z1, z2, z3, z4, z5, z6⟩ := hbz.softs; clear hp4 ho4 hy hbz hbc hcm hq1 hq2))
    obtain ⟨y0, y1, y2, y3, y4, y5, y6⟩ := (load7 HBZ.out (.int .u8 1) (.string ⟨#[]⟩) (.string ⟨#[]⟩) (.int .i64 0) (.string nm) (.slice hq l.length hc) (.slice q' acP.length c')).seven
    refine bodyPost_ret (v := Kp.agg ⟨⟨1, tmZ, nm, hq, hc, l⟩, q', c', acP⟩) ?_ rfl ?_
    · simp [results, Tryz.results85, go_sem, y0, y1, y2, y3, y4, y5, y6, Kp.agg, tmZ]
    · rw [HR4.out]
      exact clause_close (w4 := w4) (cl := ⟨⟨1, tmZ, nm, hq, hc, l⟩, q', c', acP⟩) (by rw [← HMP.out]; rfl) HCM.out HI4.out.ps HI4.out.only hpb (set7 (by omega) _ _ _ _ _ _ _) ((Above.refl _ _).set7 (by omega) _ _ _ _ _ _ _) ⟨fun b hb => Nat.le_trans (by omega) (HD2.out.far b hb), HQ1.out, HQ2.out⟩
theorem clause_any (w : World) (pb : Nat) (s : ByteArray) (q : Option Addr) (c : Nat) (ts : List Tok) (k : Nat) (h : Ps w pb s q c ts k) :
    Calls Tryz.prog 85 #[.pointer (some ⟨pb, 0, none⟩)] w (ClausePost w pb s q c ts (clauseR s ts k)) := by
  cases hA : atomR s ts k with
  | error np =>
    obtain ⟨n, p⟩ := np
    rw [show clauseR s ts k = .error (n, p) by unfold clauseR; rw [hA]]
    exact clause_bad w pb s q c ts k n p h hA
  | ok a =>
    obtain ⟨⟨nm, l⟩, k1⟩ := a
    by_cases hi : textAt s ts k1 = wdIf
    · exact clause_if w pb s q c ts k k1 nm l h hA hi
    · exact clause_bare w pb s q c ts k k1 nm l h hA hi
end Go.Proofs.YtfmkfabbiifolaaGreatDoor

/-
  Plain: the tokens of a text stand one behind the other, blanks between.
-/
namespace Go.Proofs.YtfmkfabbiifolaaGreatDoor
open Go.RowKit

/-- blanks from k on, up to p -/
def Blanks (l : List UInt8) (k p : Nat) : Prop := ∀ j, k ≤ j → j < p → ∃ h : j < l.length, (l[j].toNat = 32 ∨ l[j].toNat = 9)
def ChainT (l : List UInt8) : Nat → List Tok → Prop
  | k, [] => k ≤ l.length ∧ Blanks l k l.length
  | k, t :: ts => ∃ p n : Nat, k ≤ p ∧ p < l.length ∧ t.fr = p ∧ Blanks l k p ∧ oneL (l.drop p) = ⟨0, t.kind, n⟩ ∧ t.to = (p + n : Nat) ∧ 0 < n ∧ p + n ≤ l.length ∧ ChainT l (p + n) ts
theorem one_four (c : UInt8) (r : List UInt8) (h : (oneL (c :: r)).err = 4) : c.toNat = 32 ∨ c.toNat = 9 := by
  cases hb : Blk c with
  | true => simpa [Blk] using hb
  | false =>
    exfalso
    rw [oneL, if_neg (nt hb)] at h
    have hp : ∀ n, (pieceL (c :: r) n).err ≠ 4 := fun n => by unfold pieceL; split <;> simp
    split at h
    · simp at h
    split at h
    · split at h <;> simp at h
    split at h
    · split at h <;> simp at h
    split at h
    · split at h
      · exact hp _ h
      · simp at h
    split at h
    · exact hp _ h
    · simp at h
theorem chain_blank (l : List UInt8) (k : Nat) (hk : k < l.length) (hb : l[k].toNat = 32 ∨ l[k].toNat = 9) : ∀ ts, ChainT l (k + 1) ts → ChainT l k ts
  | [], h => ⟨by omega, fun j h1 h2 => by
      by_cases e : j = k
      · subst e; exact ⟨hk, hb⟩
      · exact h.2 j (by omega) h2⟩
  | t :: ts, ⟨p, n, h1, h2, h3, h4, h5⟩ => ⟨p, n, by omega, h2, h3, fun j a b => by
      by_cases e : j = k
      · subst e; exact ⟨hk, hb⟩
      · exact h4 j (by omega) b, h5⟩
theorem chain_of_all (l : List UInt8) : ∀ (f k : Nat), k ≤ l.length → l.length - k ≤ f → (allF f k (l.drop k)).err = 0 → ChainT l k (allF f k (l.drop k)).toks
  | 0, k, hk, hf, _ => by
    rw [allF]
    exact ⟨hk, fun j h1 h2 => by omega⟩
  | f + 1, k, hk, hf, he => by
    by_cases hlt : k < l.length
    · have hd : l.drop k = l[k] :: l.drop (k + 1) := List.drop_eq_getElem_cons hlt
      rw [hd] at he ⊢
      rw [allF] at he ⊢
      by_cases h4 : (oneL (l[k] :: l.drop (k + 1))).err = 4
      · rw [if_pos h4] at he ⊢
        exact chain_blank l k hlt (one_four _ _ h4) _ (chain_of_all l f (k + 1) hlt (by omega) he)
      · rw [if_neg h4] at he ⊢
        by_cases h0 : (oneL (l[k] :: l.drop (k + 1))).err = 0
        · rw [if_pos h0] at he ⊢
          rw [← hd] at he h0 ⊢
          obtain ⟨hb, hb2⟩ := (oneL_bd (l.drop k) (by simp; omega)).1 h0
          simp only [List.length_drop] at hb2
          rw [List.drop_drop] at he ⊢
          have hr : (allF f (k + (oneL (l.drop k)).len) (l.drop (k + (oneL (l.drop k)).len))).err = 0 := by
            unfold Toks.put at he
            by_cases h : (allF f (k + (oneL (l.drop k)).len) (l.drop (k + (oneL (l.drop k)).len))).err = 0
            · exact h
            · rw [if_neg h] at he; exact absurd he h
          have ih := chain_of_all l f (k + (oneL (l.drop k)).len) (by omega) (by omega) hr
          unfold Toks.put
          rw [if_pos hr]
          refine ⟨k, (oneL (l.drop k)).len, Nat.le_refl _, hlt, rfl, fun j a b => by omega, ?_, rfl, hb, by omega, ih⟩
          rw [← h0]
        · rw [if_neg h0] at he
          exact absurd he h0
    · have hd : l.drop k = [] := List.drop_eq_nil_of_le (by omega)
      rw [hd, allF]
      exact ⟨hk, fun j h1 h2 => by omega⟩
theorem chain_all (l : List UInt8) (h : (allL l).err = 0) : ChainT l 0 (allL l).toks := by
  unfold allL at h ⊢
  split at h
  · simp at h
  · rename_i hl
    rw [if_neg hl]
    have := chain_of_all l l.length 0 (Nat.zero_le _) (by omega) (by rw [List.drop_zero]; exact h)
    rw [List.drop_zero] at this
    exact this
theorem all_err_nil (l : List UInt8) (h : (allL l).err ≠ 0) : (allL l).toks = [] := by
  unfold allL at h ⊢
  split at h
  · rename_i hl; rw [if_pos hl]
  · rename_i hl; rw [if_neg hl]; exact (allF_form _ _ _).2 h
end Go.Proofs.YtfmkfabbiifolaaGreatDoor
