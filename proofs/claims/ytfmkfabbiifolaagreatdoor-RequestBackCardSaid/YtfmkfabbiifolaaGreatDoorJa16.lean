/-
  Joined of: JoinA, PrsO, PrsP, PrsQ.
-/
import Derived.Test.YtfmkfabbiifolaaGreatDoorJa15
import Derived.Recover
import Derived.Defers
import Derived.RangeFuncNested
set_option linter.unusedVariables false
set_option linter.unusedSimpArgs false
/-
  Plain: the tokens of two texts with a blank between.
-/
namespace Go.Proofs.YtfmkfabbiifolaaGreatDoor
open Go.RowKit

theorem runL_app (y : List UInt8) : ∀ r : List UInt8, runL (r ++ 32 :: y) = runL r
  | [] => by rw [List.nil_append, runL]; rfl
  | c :: r => by rw [List.cons_append, runL, runL, runL_app y r]
theorem head_app (r y : List UInt8) : (r = [] ∧ (r ++ 32 :: y).headD 0 = 32 ∧ r.headD 0 = 0) ∨ ((r ++ 32 :: y).headD 0 = r.headD 0) := by
  cases r with
  | nil => exact .inl ⟨rfl, rfl, rfl⟩
  | cons c r => exact .inr rfl
theorem one_app (x y : List UInt8) (hx : x ≠ []) : oneL (x ++ 32 :: y) = oneL x := by
  cases x with
  | nil => exact absurd rfl hx
  | cons c r =>
    have hp : pieceL (c :: (r ++ 32 :: y)) (1 + runL r) = pieceL (c :: r) (1 + runL r) := by
      unfold pieceL
      have : (c :: (r ++ 32 :: y)).take (1 + runL r) = (c :: r).take (1 + runL r) := by
        rw [← List.cons_append, List.take_append_of_le_length (by have := runL_le r; simp; omega)]
      rw [this]
    rw [List.cons_append, oneL, oneL, runL_app, hp]
    rcases head_app r y with ⟨_, h1, h2⟩ | h
    · rw [h1, h2]; rfl
    · rw [h]
theorem allF_fuel : ∀ (f g k : Nat) (l : List UInt8), l.length ≤ f → l.length ≤ g → allF f k l = allF g k l
  | 0, g, k, l, hf, hg => by
    obtain rfl : l = [] := List.length_eq_zero_iff.1 (by omega)
    cases g <;> simp [allF]
  | f + 1, g, k, [], hf, hg => by cases g <;> simp [allF]
  | f + 1, g, k, c :: r, hf, hg => by
    obtain ⟨g, rfl⟩ : ∃ g', g = g' + 1 := ⟨g - 1, by simp at hg; omega⟩
    simp at hf hg
    rw [allF, allF]
    split
    · exact allF_fuel f g (k + 1) r (by omega) (by omega)
    · split
      · rename_i h0
        have hb := ((oneL_bd (c :: r) (by simp)).1 h0).1
        rw [allF_fuel f g _ _ (by simp; omega) (by simp; omega)]
      · rfl
theorem put_err (t : List Tok) (x : Toks) (h : x.err ≠ 0) (hf : x.toks = []) : Toks.put t x = x := by
  unfold Toks.put; rw [if_neg h]; obtain ⟨a, b, c⟩ := x; simp at hf; subst hf; rfl
theorem put_ok (t : List Tok) (x : Toks) (h : x.err = 0) : Toks.put t x = ⟨t ++ x.toks, 0, 0⟩ := by unfold Toks.put; rw [if_pos h]
theorem put_app (t u : List Tok) (x : Toks) : Toks.put t (Toks.put u x) = Toks.put (t ++ u) x := by
  unfold Toks.put
  by_cases h : x.err = 0
  · simp [h]
  · simp [h]
theorem allF_app (y : List UInt8) : ∀ (m : Nat) (x : List UInt8) (k F : Nat), x.length ≤ m → x.length + 1 + y.length ≤ F →
    allF F k (x ++ 32 :: y) = if (allF x.length k x).err = 0 then Toks.put (allF x.length k x).toks (allF y.length (k + x.length + 1) y) else allF x.length k x := by
  intro m
  induction m with
  | zero =>
    intro x k F hx hF
    obtain rfl : x = [] := List.length_eq_zero_iff.1 (by omega)
    obtain ⟨F, rfl⟩ : ∃ F', F = F' + 1 := ⟨F - 1, by simp at hF; omega⟩
    rw [List.nil_append, allF, if_pos (show (oneL (32 :: y)).err = 4 from by rw [oneL_blank _ _ rfl])]
    show _ = if (0 : Int) = 0 then Toks.put [] (allF y.length (k + 0 + 1) y) else _
    rw [if_pos rfl, put_nil _ (allF_form _ _ _).1 (allF_form _ _ _).2]
    exact allF_fuel _ _ _ _ (by simp at hF; omega) (Nat.le_refl _)
  | succ m ih =>
    intro x k F hx hF
    cases x with
    | nil => exact ih [] k F (Nat.zero_le _) hF
    | cons c r =>
      obtain ⟨F, rfl⟩ : ∃ F', F = F' + 1 := ⟨F - 1, by simp at hF; omega⟩
      have ho := one_app (c :: r) y (by simp)
      simp only [List.length_cons] at hx hF
      by_cases h4 : (oneL (c :: r)).err = 4
      · have e1 : allF (F + 1) k (c :: r ++ 32 :: y) = allF F (k + 1) (r ++ 32 :: y) := by
          rw [List.cons_append] at ho ⊢; rw [allF, ho, if_pos h4]
        have e2 : allF (c :: r).length k (c :: r) = allF r.length (k + 1) r := by
          show allF (r.length + 1) k (c :: r) = _
          rw [allF, if_pos h4]
        rw [e1, e2, ih r (k + 1) F (by omega) (by omega)]
        simp only [List.length_cons, show k + 1 + r.length + 1 = k + (r.length + 1) + 1 by omega]
      · by_cases h0 : (oneL (c :: r)).err = 0
        · obtain ⟨hn, hnl⟩ := (oneL_bd (c :: r) (by simp)).1 h0
          have e1 : allF (F + 1) k (c :: r ++ 32 :: y) = Toks.put [⟨(oneL (c :: r)).kind, k, (k + (oneL (c :: r)).len : Nat)⟩] (allF F (k + (oneL (c :: r)).len) ((c :: r).drop (oneL (c :: r)).len ++ 32 :: y)) := by
            rw [List.cons_append] at ho ⊢
            rw [allF, ho, if_neg h4, if_pos h0, ← List.cons_append, List.drop_append_of_le_length hnl]
          have e2 : allF (c :: r).length k (c :: r) = Toks.put [⟨(oneL (c :: r)).kind, k, (k + (oneL (c :: r)).len : Nat)⟩] (allF ((c :: r).drop (oneL (c :: r)).len).length (k + (oneL (c :: r)).len) ((c :: r).drop (oneL (c :: r)).len)) := by
            show allF (r.length + 1) k (c :: r) = _
            rw [allF, if_neg h4, if_pos h0, allF_fuel r.length ((c :: r).drop (oneL (c :: r)).len).length _ _ (by simp; omega) (Nat.le_refl _)]
          have hk : k + (oneL (c :: r)).len + ((c :: r).drop (oneL (c :: r)).len).length + 1 = k + (c :: r).length + 1 := by simp at hnl ⊢; omega
          rw [e1, e2, ih ((c :: r).drop (oneL (c :: r)).len) (k + (oneL (c :: r)).len) F (by simp; omega) (by simp at hnl ⊢; omega), hk]
          generalize hA : allF ((c :: r).drop (oneL (c :: r)).len).length (k + (oneL (c :: r)).len) ((c :: r).drop (oneL (c :: r)).len) = A
          have hf := allF_form ((c :: r).drop (oneL (c :: r)).len).length (k + (oneL (c :: r)).len) ((c :: r).drop (oneL (c :: r)).len)
          rw [hA] at hf
          by_cases hz : A.err = 0
          · rw [if_pos hz, put_ok _ A hz, if_pos rfl, put_app]
          · rw [if_neg hz, put_err _ A hz (hf.2 hz), if_neg hz]
        · have e1 : allF (F + 1) k (c :: r ++ 32 :: y) = ⟨[], k, (oneL (c :: r)).err⟩ := by
            rw [List.cons_append] at ho ⊢; rw [allF, ho, if_neg h4, if_neg h0]
          have e2 : allF (c :: r).length k (c :: r) = ⟨[], k, (oneL (c :: r)).err⟩ := by
            show allF (r.length + 1) k (c :: r) = _
            rw [allF, if_neg h4, if_neg h0]
          rw [e1, e2, if_neg h0]

def shT (d : Nat) (t : Tok) : Tok := ⟨t.kind, t.fr + d, t.to + d⟩
def shX (d : Nat) (x : Toks) : Toks := ⟨x.toks.map (shT d), if x.err = 0 then 0 else x.pl + d, x.err⟩
theorem sh_put (d : Nat) (t : List Tok) (x : Toks) : shX d (Toks.put t x) = Toks.put (t.map (shT d)) (shX d x) := by
  by_cases h : x.err = 0
  · rw [put_ok _ _ h, put_ok _ (shX d x) h]; simp [shX]
  · unfold Toks.put; rw [if_neg h, if_neg (show ¬ (shX d x).err = 0 from h)]; simp [shX, h]
theorem allF_shift (d : Nat) : ∀ (f k : Nat) (l : List UInt8), allF f (k + d) l = shX d (allF f k l)
  | 0, k, l => by simp [allF, shX]
  | f + 1, k, [] => by simp [allF, shX]
  | f + 1, k, c :: r => by
    rw [allF, allF]
    split
    · rw [show k + d + 1 = k + 1 + d by omega]; exact allF_shift d f (k + 1) r
    · split
      · rw [sh_put, show k + d + (oneL (c :: r)).len = k + (oneL (c :: r)).len + d by omega, allF_shift d f]
        simp [shT]
      · rename_i h; simp [shX, h]
theorem join_all (a b : List UInt8) (h : a.length + 1 + b.length ≤ 4096) :
    ((allL a).err ≠ 0 → (allL (a ++ 32 :: b)).err = (allL a).err) ∧
    ((allL a).err = 0 → (allL b).err ≠ 0 → (allL (a ++ 32 :: b)).err = (allL b).err) ∧
    ((allL a).err = 0 → (allL b).err = 0 → (allL (a ++ 32 :: b)).err = 0 ∧ (allL (a ++ 32 :: b)).toks = (allL a).toks ++ (allL b).toks.map (shT (a.length + 1))) := by
  have hl : (a ++ 32 :: b).length = a.length + 1 + b.length := by simp; omega
  rw [allL_short a (by omega), allL_short b (by omega), allL_short (a ++ 32 :: b) (by omega), hl, allF_app b a.length a 0 _ (Nat.le_refl _) (Nat.le_refl _)]
  have hs : allF b.length (0 + a.length + 1) b = shX (a.length + 1) (allF b.length 0 b) := by
    rw [← allF_shift (a.length + 1) b.length 0 b]; congr 1
  rw [hs]
  generalize allF a.length 0 a = A
  generalize allF b.length 0 b = B
  refine ⟨fun h1 => by rw [if_neg h1], fun h1 h2 => ?_, fun h1 h2 => ?_⟩
  · rw [if_pos h1]
    unfold Toks.put; rw [if_neg (show ¬ (shX (a.length + 1) B).err = 0 from h2)]; rfl
  · rw [if_pos h1, put_ok _ _ (show (shX (a.length + 1) B).err = 0 from h2)]
    exact ⟨rfl, rfl⟩
/-- a token's place, in bytes -/
theorem chain_bd (l : List UInt8) : ∀ (ts : List Tok) (k : Nat), ChainT l k ts → ∀ t ∈ ts, ∃ p q : Nat, t.fr = p ∧ t.to = q ∧ p < q ∧ q ≤ l.length
  | [], _, _, t, ht => by cases ht
  | u :: ts, k, ⟨p, n, _, _, h3, _, _, h6, h7, h8, h9⟩, t, ht => by
    rcases List.mem_cons.1 ht with rfl | ht
    · exact ⟨p, p + n, h3, h6, by omega, h8⟩
    · exact chain_bd l ts (p + n) h9 t ht
end Go.Proofs.YtfmkfabbiifolaaGreatDoor

/-
  Plain: a text's tokens as a parser's source; where a parser begins.
-/
namespace Go.Proofs.YtfmkfabbiifolaaGreatDoor
open Go.RowKit

theorem chain_len (l : List UInt8) : ∀ (ts : List Tok) (k : Nat), ChainT l k ts → k + ts.length ≤ l.length
  | [], k, h => h.1
  | u :: ts, k, ⟨p, n, h1, _, _, _, _, _, h7, _, h9⟩ => by
    have := chain_len l ts (p + n) h9
    simp only [List.length_cons]; omega
theorem src_of (s : ByteArray) (h : (allL s.data.toList).err = 0) : Srcs s (allL s.data.toList).toks := by
  have hl : s.data.toList.length ≤ 4096 := by
    rcases Nat.lt_or_ge 4096 s.data.toList.length with h' | h'
    · rw [allL_long _ h'] at h; exact absurd h (by decide)
    · exact h'
  have hc := chain_all _ h
  have hs : s.data.toList.length = s.size := by simp
  refine ⟨by omega, by have := chain_len _ _ _ hc; omega, fun t ht => ?_⟩
  obtain ⟨p, q, h1, h2, h3, h4⟩ := chain_bd _ _ _ hc t ht
  omega
theorem tokrow_rd {w : World} {v : Value} {l : List Tok} (h : TokRow w v l) : ∃ q c, v = .slice q l.length c ∧ Rd encT 3 w w.heap.size q l := by
  obtain ⟨q, c, rfl, h⟩ := h
  refine ⟨q, c, rfl, ?_⟩
  rcases h with h | ⟨b, rfl, hb, hc⟩
  · exact .inl h
  · refine .inr ⟨b, 0, rfl, hb, fun i hi r u hu => ?_⟩
    obtain ⟨x0, x1, x2⟩ := hc i hi
    have hr : r < 3 := by rw [← ET.len l[i]]; exact (List.getElem?_eq_some_iff.1 hu).1
    match r, hr, hu with
    | 0, _, hu => cases hu; simpa using x0
    | 1, _, hu => cases hu; simpa using x1
    | 2, _, hu => cases hu; simpa using x2
theorem Ps.start {w w1 : World} {s : ByteArray} {q : Option Addr} {c : Nat} {ts : List Tok} (hr : Rd encT 3 w w.heap.size q ts) (hs : Srcs s ts) (he : Env w) (hw : w1 = w.alloc (.cells #[.string s, .slice q ts.length c, .int .i64 0] 143)) :
    Ps w1 w.heap.size s q c ts 0 := by
  subst hw
  exact ⟨Bk.new w _ _, hr.below (below1 w _) (Nat.le_refl _), Nat.zero_le _, hs, fun w' hb => he.on ((below1 w _).trans hb)⟩

/-- a clause's text read -/
def parseR (s : ByteArray) : Except (Int × Int) Cq :=
  if (allL s.data.toList).err = 0 then wholeR s (allL s.data.toList).toks (clauseR s (allL s.data.toList).toks 0) else .error ((allL s.data.toList).err, (allL s.data.toList).pl)
def parseLitR (s : ByteArray) : Except (Int × Int) Lq :=
  if (allL s.data.toList).err = 0 then wholeR s (allL s.data.toList).toks (saidR s (allL s.data.toList).toks 1 0) else .error ((allL s.data.toList).err, (allL s.data.toList).pl)
def lpZ : Lp := ⟨0, tmZ, ⟨#[]⟩, none, 0, []⟩
def kpZ : Kp := ⟨lpZ, none, 0, []⟩
def ParsePost (w : World) (R : Except (Int × Int) Cq) (e : Ending) (w' : World) : Prop := match R with
  | .ok x => ∃ cl : Kp, cl.q = x ∧ e = .returned (.tuple #[cl.agg, .int .i64 0, .int .i64 0]) ∧ ClMem w' cl ∧ ClFar w.heap.size cl ∧ Below w.heap.size w w'
  | .error (n, p) => e = .returned (.tuple #[kpZ.agg, .int .i64 p, .int .i64 n]) ∧ Below w.heap.size w w'
def ParseLitPost (w : World) (R : Except (Int × Int) Lq) (e : Ending) (w' : World) : Prop := match R with
  | .ok x => ∃ q c, e = .returned (.tuple #[(x.at q c).agg, .int .i64 0, .int .i64 0]) ∧ Tms w' w'.heap.size q x.args ∧ (∀ b, q = some b → w.heap.size ≤ b.block) ∧ Below w.heap.size w w'
  | .error (n, p) => e = .returned (.tuple #[lpZ.agg, .int .i64 p, .int .i64 n]) ∧ Below w.heap.size w w'
/-- two boxes were written, all else that was there is as it was -/
structure Two (ab eb : Nat) (w w' : World) : Prop where
  os : w'.os = w.os
  tape : w'.tape = w.tape
  output : w'.output = w.output
  size : w.heap.size ≤ w'.heap.size
  block : ∀ k, k < w.heap.size → k ≠ ab → k ≠ eb → w'.heap[k]? = w.heap[k]?
theorem Two.refl (ab eb : Nat) (w : World) : Two ab eb w w := ⟨rfl, rfl, rfl, Nat.le_refl _, fun _ _ _ _ => rfl⟩
theorem Two.alloc {ab eb : Nat} {w w' : World} (h : Two ab eb w w') (o : Obj) : Two ab eb w (w'.alloc o) :=
  ⟨h.os, h.tape, h.output, Nat.le_trans h.size (below1 w' o).size, fun k hk x y => ((below1 w' o).block k (Nat.lt_of_lt_of_le hk h.size)).trans (h.block k hk x y)⟩
theorem Two.drew {ab eb : Nat} {w w' : World} (h : Two ab eb w w') : Two ab eb w w'.drew := ⟨h.os, h.tape, h.output, h.size, h.block⟩
theorem Two.seta {ab eb : Nat} {w w' : World} (h : Two ab eb w w') (v : Value) : Two ab eb w (w'.setCell ⟨ab, 0, none⟩ v) :=
  ⟨h.os, h.tape, h.output, Nat.le_trans h.size (by simp [World.setCell]), fun k hk x y => (Below.heap_setCell w' ⟨ab, 0, none⟩ v k x).trans (h.block k hk x y)⟩
theorem Two.sete {ab eb : Nat} {w w' : World} (h : Two ab eb w w') (v : Value) : Two ab eb w (w'.setCell ⟨eb, 0, none⟩ v) :=
  ⟨h.os, h.tape, h.output, Nat.le_trans h.size (by simp [World.setCell]), fun k hk x y => (Below.heap_setCell w' ⟨eb, 0, none⟩ v k y).trans (h.block k hk x y)⟩
end Go.Proofs.YtfmkfabbiifolaaGreatDoor

/-
  Contract: what read defers: it recovers a parser's fault.
-/
namespace Go.Proofs.YtfmkfabbiifolaaGreatDoor
open Go.RowKit

set_option maxHeartbeats 2000000 in
set_option maxRecDepth 100000 in
theorem catch_idle (ab eb : Nat) (w : World) :
    CallsD Tryz.prog 108 #[.pointer (some ⟨ab, 0, none⟩), .pointer (some ⟨eb, 0, none⟩)] .returning w fun e u' w' => e = .returned (.tuple #[]) ∧ u' = .returning ∧ w' = w := by
  refine callsD_of_wpS Tryz.func108 rfl fun c₀ cs hu => ?_
  apply wpS_seq
  apply wpS_region
  simp [wpOpsS, go_sem, recoverD, hu, Tryz.ntmps108, Exit.thenS]
  apply wpS_seq
  apply wpS_region
  simp [wpOpsS, go_sem, Exit.thenS]
  refine wpS_cond (t := false) (by simp [Act.eval, Array.replicate]) ?_
  simp only [Bool.false_eq_true, if_false]
  refine wpS_of_wp (wp_skip ?_)
  cases c₀
  simp_all [bodyPostS, results, Tryz.results108]

set_option maxHeartbeats 2000000 in
set_option maxRecDepth 100000 in
theorem catch_fault (ab eb : Nat) (n p x y : Int) (older : List PanicEntry) (w : World) (ha : Boxed w ab 3 (.int .i64 x)) (he : Boxed w eb 34 (.int .i64 y)) (hne : ab ≠ eb) :
    CallsD Tryz.prog 108 #[.pointer (some ⟨ab, 0, none⟩), .pointer (some ⟨eb, 0, none⟩)] (.panicking ({ v := .iface 141 (.agg #[.int .i64 n, .int .i64 p]), recovered := false } :: older)) w fun e u' w' =>
      e = .returned (.tuple #[]) ∧ u' = .panicking ({ v := .iface 141 (.agg #[.int .i64 n, .int .i64 p]), recovered := true } :: older) ∧ Boxed w' ab 3 (.int .i64 p) ∧ Boxed w' eb 34 (.int .i64 n) ∧ Two ab eb w w' := by
  refine callsD_of_wpS Tryz.func108 rfl fun c₀ cs hu => ?_
  apply wpS_seq
  apply wpS_region
  simp [wpOpsS, go_sem, recoverD, hu, Tryz.ntmps108, Exit.thenS]
  apply wpS_seq
  apply wpS_region
  simp [wpOpsS, go_sem, Exit.thenS]
  refine wpS_cond (t := true) (by simp [Act.eval, Array.replicate]) ?_
  simp only [if_true]
  refine wpS_of_wp ?_
  have hta : ∀ (w : World), (Instr.typeAssert (.iface 141 (.agg #[.int .i64 n, .int .i64 p])) 20 141 false).run Tryz.prog w = .ok (.agg #[.int .i64 n, .int .i64 p]) w := fun _ => by kernel_rfl
  have x0 := Boxed.cell ha
  have x1 := Boxed.cell he
  have f0 := Boxed.frozen ha
  have f1 := Boxed.frozen he
  have hla := Boxed.lt ha
  have hle := Boxed.lt he
  have z0 := fun o => Boxed.cell (Boxed.below ha (below1 w o) hla)
  have z1 := fun o => Boxed.cell (Boxed.below he (below1 w o) hle)
  have g0 := fun o => Boxed.frozen (Boxed.below ha (below1 w o) hla)
  have g1 := fun o => Boxed.frozen (Boxed.below he (below1 w o) hle)
  change Code.wp _ _ _ { tmps := #[.pointer (some ⟨ab, 0, none⟩), .pointer (some ⟨eb, 0, none⟩), .iface 141 (.agg #[.int .i64 n, .int .i64 p]), undef, .iface 141 (.agg #[.int .i64 n, .int .i64 p]), .iface 141 (.agg #[.int .i64 n, .int .i64 p]), .bool true, undef, undef, undef, undef, undef, undef], defers := [] } _
  go_wp2_with fail
  go_region_law (fail)
  all_goals
    have hW : Two ab eb w ((((w.setCell ⟨ab, 0, none⟩ (.int .i64 p)).setCell ⟨eb, 0, none⟩ (.int .i64 n)).alloc (.cells #[.int .i64 n, .int .i64 p] 141)).drew) := ((((Two.refl ab eb w).seta _).sete _).alloc _).drew
    have hA : Boxed ((((w.setCell ⟨ab, 0, none⟩ (.int .i64 p)).setCell ⟨eb, 0, none⟩ (.int .i64 n)).alloc (.cells #[.int .i64 n, .int .i64 p] 141)).drew) ab 3 (.int .i64 p) := ((Boxed.set _ ha).other hne _).alloc _
    have hE : Boxed ((((w.setCell ⟨ab, 0, none⟩ (.int .i64 p)).setCell ⟨eb, 0, none⟩ (.int .i64 n)).alloc (.cells #[.int .i64 n, .int .i64 p] 141)).drew) eb 34 (.int .i64 n) := (Boxed.set _ (he.other (Ne.symm hne) _)).alloc _
    exact ⟨rfl, _, rfl, _, results_none rfl _ _ _, rfl, rfl, hA, hE, hW⟩
end Go.Proofs.YtfmkfabbiifolaaGreatDoor

/-
  Contract: clause.read, of a clause.
-/
namespace Go.Proofs.YtfmkfabbiifolaaGreatDoor
open Go.RowKit

/-- read's three results' blocks -/
structure Rs (w0 w : World) (x y : Int) : Prop where
  below : Below w0.heap.size w0 w
  r : Bk w w0.heap.size 31 #[.int .u8 0, .string ⟨#[]⟩, .string ⟨#[]⟩, .int .i64 0, .string ⟨#[]⟩, .slice none 0 0, .slice none 0 0]
  a : Boxed w (w0.heap.size + 1) 3 (.int .i64 x)
  e : Boxed w (w0.heap.size + 1 + 1) 34 (.int .i64 y)
theorem Bk.new3a (w : World) (o o' : Obj) (T : TypeId) (cs : Array Value) : Bk (((w.alloc (.cells cs T)).alloc o).alloc o') w.heap.size T cs := (Bk.new1 w o T cs).on (below1 _ _)
theorem Bk.new3b (w : World) (o o' : Obj) (T : TypeId) (cs : Array Value) : Bk (((w.alloc o).alloc (.cells cs T)).alloc o') (w.heap.size + 1) T cs := (Bk.new2 w o T cs).on (below1 _ _)
theorem Rs.start {w w1 : World} {o1 o2 o3 : Obj} (h1 : o1 = .cells #[.int .u8 0, .string ⟨#[]⟩, .string ⟨#[]⟩, .int .i64 0, .string ⟨#[]⟩, .slice none 0 0, .slice none 0 0] 31) (h2 : o2 = .cells #[.int .i64 0] 3) (h3 : o3 = .cells #[.int .i64 0] 34)
    (hb : Below (((w.alloc o1).alloc o2).alloc o3).heap.size (((w.alloc o1).alloc o2).alloc o3) w1) (x y : Int) :
    Rs w w1 0 0 ∧ Rs w ((w1.setCell ⟨w.heap.size + 1, 0, none⟩ (.int .i64 x)).setCell ⟨w.heap.size + 1 + 1, 0, none⟩ (.int .i64 y)) x y := by
  subst h1 h2 h3
  have hB : Below w.heap.size w w1 := (below3 w _ _ _).trans (hb.mono (below3 w _ _ _).size)
  have hr := (Bk.new3a w _ _ _ _).on hb
  have ha : Boxed w1 (w.heap.size + 1) 3 (.int .i64 0) := (Bk.new3b w _ _ _ _).on hb
  have he : Boxed w1 (w.heap.size + 1 + 1) 34 (.int .i64 0) := (Bk.new3 w _ _ _ _).on hb
  exact ⟨⟨hB, hr, ha, he⟩, ⟨hB.trans ((setB (by omega) 0 _).trans (setB (by omega) 0 _)), (hr.other (by omega) 0 _).other (by omega) 0 _, (Boxed.set _ ha).other (by omega) _, Boxed.set _ (he.other (by omega) _)⟩⟩

theorem Rs.again {w0 w : World} {x y : Int} (h : Rs w0 w x y) : Rs w0 ((((((((((w.setCell ⟨w0.heap.size, 0, none⟩ (.int .u8 0)).setCell ⟨w0.heap.size, 1, none⟩ (.string ⟨#[]⟩)).setCell ⟨w0.heap.size, 2, none⟩ (.string ⟨#[]⟩)).setCell ⟨w0.heap.size, 3, none⟩ (.int .i64 0)).setCell ⟨w0.heap.size, 4, none⟩ (.string ⟨#[]⟩)).setCell ⟨w0.heap.size, 5, none⟩ (.slice none 0 0)).setCell ⟨w0.heap.size, 6, none⟩ (.slice none 0 0)).setCell ⟨w0.heap.size + 1, 0, none⟩ (.int .i64 x)).setCell ⟨w0.heap.size + 1 + 1, 0, none⟩ (.int .i64 y))) x y := by
  have hr := load7 h.r (.int .u8 0) (.string ⟨#[]⟩) (.string ⟨#[]⟩) (.int .i64 0) (.string ⟨#[]⟩) (.slice none 0 0) (.slice none 0 0)
  have hs : Below w0.heap.size w _ := set7 (w := w) (b := w0.heap.size) (Nat.le_refl _) (.int .u8 0) (.string ⟨#[]⟩) (.string ⟨#[]⟩) (.int .i64 0) (.string ⟨#[]⟩) (.slice none 0 0) (.slice none 0 0)
  have ha : Boxed ((((((((w.setCell ⟨w0.heap.size, 0, none⟩ (.int .u8 0)).setCell ⟨w0.heap.size, 1, none⟩ (.string ⟨#[]⟩)).setCell ⟨w0.heap.size, 2, none⟩ (.string ⟨#[]⟩)).setCell ⟨w0.heap.size, 3, none⟩ (.int .i64 0)).setCell ⟨w0.heap.size, 4, none⟩ (.string ⟨#[]⟩)).setCell ⟨w0.heap.size, 5, none⟩ (.slice none 0 0)).setCell ⟨w0.heap.size, 6, none⟩ (.slice none 0 0))) (w0.heap.size + 1) 3 (.int .i64 x) :=
    (((((((Bk.other h.a (by omega) 0 _).other (by omega) 1 _).other (by omega) 2 _).other (by omega) 3 _).other (by omega) 4 _).other (by omega) 5 _).other (by omega) 6 _)
  have he : Boxed ((((((((w.setCell ⟨w0.heap.size, 0, none⟩ (.int .u8 0)).setCell ⟨w0.heap.size, 1, none⟩ (.string ⟨#[]⟩)).setCell ⟨w0.heap.size, 2, none⟩ (.string ⟨#[]⟩)).setCell ⟨w0.heap.size, 3, none⟩ (.int .i64 0)).setCell ⟨w0.heap.size, 4, none⟩ (.string ⟨#[]⟩)).setCell ⟨w0.heap.size, 5, none⟩ (.slice none 0 0)).setCell ⟨w0.heap.size, 6, none⟩ (.slice none 0 0))) (w0.heap.size + 1 + 1) 34 (.int .i64 y) :=
    (((((((Bk.other h.e (by omega) 0 _).other (by omega) 1 _).other (by omega) 2 _).other (by omega) 3 _).other (by omega) 4 _).other (by omega) 5 _).other (by omega) 6 _)
  exact ⟨(h.below.trans hs).trans ((setB (by omega) 0 _).trans (setB (by omega) 0 _)), (hr.other (by omega) 0 _).other (by omega) 0 _, (Boxed.set _ ha).other (by omega) _, Boxed.set _ (he.other (by omega) _)⟩

set_option maxHeartbeats 8000000 in
set_option maxRecDepth 100000 in
theorem read_bad (s : ByteArray) (w : World) (thing : Value) (hm : s.size ≤ 140737488351232) (he : Env w) (hx : (allL s.data.toList).err ≠ 0) :
    Calls Tryz.prog 84 #[.string s, thing] w (ParsePost w (.error ((allL s.data.toList).err, (allL s.data.toList).pl))) := by
  have HA := Lib.hid (show ∀ wx, Env wx → Calls Tryz.prog 15 #[.string s] wx fun e w' => ∃ v, e = .returned (.tuple #[v, .int .i64 (allL s.data.toList).pl, .int .i64 (allL s.data.toList).err]) ∧ Below wx.heap.size wx w' from fun wx hx => (all_any s wx hm hx).mono fun e w' ⟨v, h1, _, h3⟩ => ⟨v, h1, h3⟩)
  have HE := Lib.hid he
  have g0 : ((allL s.data.toList).err == 0) = false := by simpa using hx
  have g1 : ((allL s.data.toList).err != 0) = true := by simpa using hx
  generalize (allL s.data.toList).err = er at *
  generalize (allL s.data.toList).pl = pl at *
  have hmf : ∀ (fn : Fn) (first cap : Array Value) (w : World), (Instr.makeFunc fn first cap).run Tryz.prog w = .ok (.func fn first cap) w := fun _ _ _ _ => rfl
  clear he hx
  go_enter_defers Tryz.func84, Tryz.ntmps84
  go_wp2_with (go_at_call 15; refine (HA.out _ (HE.out.on (below3 w _ _ _))).mono ?_; rintro e w1 ⟨v, rfl, hb1⟩; have HS := Lib.hid (Rs.start rfl rfl rfl hb1 pl er); have x0 := Boxed.cell HS.out.1.a; have x1 := Boxed.cell HS.out.1.e; have f0 := Boxed.frozen HS.out.1.a; have f1 := Boxed.frozen HS.out.1.e; have y0 := Boxed.cell HS.out.2.a; have y1 := Boxed.cell HS.out.2.e; have HZ := Lib.hid (HS.out.2); obtain ⟨r0, r1, r2, r3, r4, r5, r6⟩ := HS.out.2.r.seven; obtain ⟨z0, z1, z2, z3, z4, z5, z6⟩ := HS.out.2.r.softs; have f2 := Boxed.frozen HS.out.2.a; have f3 := Boxed.frozen HS.out.2.e; clear hb1)
  generalize (w1.setCell ⟨w.heap.size + 1, 0, none⟩ (.int .i64 pl)).setCell ⟨w.heap.size + 1 + 1, 0, none⟩ (.int .i64 er) = w2 at *
  go_region_law (fail)
  all_goals
    go_wp2_with fail
    have HG := HZ.out.again
    obtain ⟨q0, q1, q2, q3, q4, q5, q6⟩ := HG.r.seven
    have q7 := Boxed.cell HG.a
    have q8 := Boxed.cell HG.e
    refine ⟨.tuple #[kpZ.agg, .int .i64 pl, .int .i64 er], ?_, rfl, HG.below.drew⟩
    simp [results, Tryz.results84, go_sem, q0, q1, q2, q3, q4, q5, q6, q7, q8, kpZ, lpZ, Kp.agg, tmZ]

theorem Rs.only {w0 w w' : World} {x y : Int} {pb : Nat} (h : Rs w0 w x y) (ho : Only pb w w') (hp : w0.heap.size + 1 + 1 < pb) : Rs w0 w' x y := by
  have he := h.e.lt
  exact ⟨⟨ho.os.trans h.below.os, ho.tape.trans h.below.tape, ho.output.trans h.below.output, Nat.le_trans h.below.size ho.size, fun k hk => (ho.block k (by omega) (by omega)).trans (h.below.block k hk)⟩, h.r.only ho (by omega), Boxed.only h.a ho (by omega), Boxed.only h.e ho (by omega)⟩
theorem Rs.on {w0 w w' : World} {x y : Int} (h : Rs w0 w x y) (hb : Below w.heap.size w w') : Rs w0 w' x y :=
  ⟨h.below.trans (hb.mono h.below.size), h.r.on hb, Boxed.below h.a hb h.a.lt, Boxed.below h.e hb h.e.lt⟩
theorem Rs.two {w0 w w' : World} {x y n p : Int} (h : Rs w0 w x y) (ht : Two (w0.heap.size + 1) (w0.heap.size + 1 + 1) w w') (ha : Boxed w' (w0.heap.size + 1) 3 (.int .i64 p)) (he : Boxed w' (w0.heap.size + 1 + 1) 34 (.int .i64 n)) : Rs w0 w' p n := by
  have hr := h.r.lt
  have hz := h.below.size
  exact ⟨⟨ht.os.trans h.below.os, ht.tape.trans h.below.tape, ht.output.trans h.below.output, Nat.le_trans h.below.size ht.size, fun k hk => (ht.block k (by omega) (by omega) (by omega)).trans (h.below.block k hk)⟩, (ht.block _ hr (by omega) (by omega)).trans h.r, ha, he⟩
/-- the results as they are told -/
theorem Rs.tell {w0 w : World} {x y : Int} (h : Rs w0 w x y) {tmps : Array Value} (h4 : tmps[4]? = some (.pointer (some ⟨w0.heap.size, 0, none⟩))) (h5 : tmps[5]? = some (.pointer (some ⟨w0.heap.size + 1, 0, none⟩))) (h6 : tmps[6]? = some (.pointer (some ⟨w0.heap.size + 1 + 1, 0, none⟩))) :
    (results Tryz.f84 tmps).run Tryz.prog w = .ok (.tuple #[kpZ.agg, .int .i64 x, .int .i64 y]) w := by
  obtain ⟨q0, q1, q2, q3, q4, q5, q6⟩ := h.r.seven
  have q7 := Boxed.cell h.a
  have q8 := Boxed.cell h.e
  simp [results, Tryz.results84, go_sem, h4, h5, h6, q0, q1, q2, q3, q4, q5, q6, q7, q8, kpZ, lpZ, Kp.agg, tmZ]

theorem Boxed.no_u8 {w : World} {b : Nat} {T : TypeId} {x y : Int} (h : Boxed w b T (.int .i64 x)) (o : Nat) : w.cell? ⟨b, o, none⟩ ≠ some (.int .u8 y) := by
  intro e
  simp only [World.cell?, show w.heap[b]? = _ from h] at e
  match o, e with
  | 0, e => simp at e
  | o + 1, e => simp at e
/-- a parser is laid behind the two boxes -/
theorem Rs.parser {w w1 : World} {s : ByteArray} {q : Option Addr} {c : Nat} {ts : List Tok} {x y : Int} (h1 : Rs w w1 0 0) (h : Rs w ((w1.setCell ⟨w.heap.size + 1, 0, none⟩ (.int .i64 x)).setCell ⟨w.heap.size + 1 + 1, 0, none⟩ (.int .i64 y)) x y) (hr : Rd encT 3 w1 w1.heap.size q ts) (hs : Srcs s ts) (he : Env w) :
    Ps (((w1.setCell ⟨w.heap.size + 1, 0, none⟩ (.int .i64 x)).setCell ⟨w.heap.size + 1 + 1, 0, none⟩ (.int .i64 y)).alloc (.cells #[.string s, .slice q ts.length c, .int .i64 0] 143)) w1.heap.size s q c ts 0 := by
  have hz : ((w1.setCell ⟨w.heap.size + 1, 0, none⟩ (.int .i64 x)).setCell ⟨w.heap.size + 1 + 1, 0, none⟩ (.int .i64 y)).heap.size = w1.heap.size := by simp
  have hr' : Rd encT 3 ((w1.setCell ⟨w.heap.size + 1, 0, none⟩ (.int .i64 x)).setCell ⟨w.heap.size + 1 + 1, 0, none⟩ (.int .i64 y)) ((w1.setCell ⟨w.heap.size + 1, 0, none⟩ (.int .i64 x)).setCell ⟨w.heap.size + 1 + 1, 0, none⟩ (.int .i64 y)).heap.size q ts := by
    cases ts with
    | nil => exact .inl rfl
    | cons t r =>
      refine rd_kept hr (fun b hb => ?_) (Nat.le_of_eq hz.symm)
      obtain ⟨b', o, e, _, x0, _, _⟩ := rdT_at hr 0 (by simp)
      rw [hb] at e; cases e
      have n1 : b' ≠ w.heap.size + 1 := fun e => Boxed.no_u8 h1.a _ (by rw [← e]; exact x0)
      have n2 : b' ≠ w.heap.size + 1 + 1 := fun e => Boxed.no_u8 h1.e _ (by rw [← e]; exact x0)
      exact (Below.heap_setCell _ ⟨w.heap.size + 1 + 1, 0, none⟩ _ b' n2).trans (Below.heap_setCell w1 ⟨w.heap.size + 1, 0, none⟩ _ b' n1)
  have := Ps.start (c := c) hr' hs (he.on h.below) rfl
  rw [hz] at this
  exact this
end Go.Proofs.YtfmkfabbiifolaaGreatDoor
