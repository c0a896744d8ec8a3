/-
  Wpq, Wpr, Wsm, Wlw, joined.
-/
import Derived.Test.YtooiaadnhglifaaDoorJwa
import Derived.Test.YtooiaadnhglifaaDoorWbp
import Derived.Test.YtooiaadnhglifaaDoorJwc
import Derived.Test.YtooiaadnhglifaaDoorWsh
import Derived.Test.YtooiaadnhglifaaDoorNil
namespace Go.Proofs.YtooiaadnhglifaaDoor
section
set_option linter.unusedVariables false
set_option linter.unusedSimpArgs false

inductive W3 where
  | log | next | snap
  deriving DecidableEq
def W3.nm : W3 → List UInt8
  | .log => logN
  | .next => nextN
  | .snap => snapN
abbrev Fc := List UInt8 × Nat
structure F3 where
  l : Option Fc
  n : Option Fc
  s : Option Fc
def F3.get (f : F3) : W3 → Option Fc
  | .log => f.l
  | .next => f.n
  | .snap => f.s
def F3.set (f : F3) (i : W3) (x : Option Fc) : F3 := match i with
  | .log => ⟨x, f.n, f.s⟩
  | .next => ⟨f.l, x, f.s⟩
  | .snap => ⟨f.l, f.n, x⟩
def optF (nm : List UInt8) : Option Fc → List Fil
  | none => []
  | some p => [mkF nm p.1 p.2]
def F3.fs (f : F3) : List Fil := optF logN f.l ++ (optF nextN f.n ++ optF snapN f.s)
theorem F3.get_fs (f : F3) (i : W3) : getF i.nm f.fs = (f.get i).map (fun p => mkF i.nm p.1 p.2) := by
  obtain ⟨a, b, c⟩ := f
  cases i <;> cases a <;> cases b <;> cases c <;> rfl
theorem F3.put_fs (f : F3) (i : W3) (xs : List UInt8) (k : Nat) : putF (mkF i.nm xs k) f.fs = (f.set i (some (xs, k))).fs := by
  obtain ⟨a, b, c⟩ := f
  cases i <;> cases a <;> cases b <;> cases c <;> rfl
theorem F3.del_fs (f : F3) (i : W3) : delF i.nm f.fs = (f.set i none).fs := by
  obtain ⟨a, b, c⟩ := f
  cases i <;> cases a <;> cases b <;> cases c <;> rfl
theorem F3.len_fs (f : F3) : f.fs.length ≤ 3 := by
  obtain ⟨a, b, c⟩ := f
  cases a <;> cases b <;> cases c <;> simp [F3.fs, optF]
theorem W3.ok (i : W3) : okName i.nm = true := by cases i <;> kernel_rfl
theorem F3.get_set (f : F3) (i : W3) (x : Option Fc) : (f.set i x).get i = x := by cases i <;> rfl
theorem F3.get_set_ne (f : F3) {i j : W3} (h : j ≠ i) (x : Option Fc) : (f.set i x).get j = f.get j := by cases i <;> cases j <;> first | rfl | exact absurd rfl h
theorem F3.set_set (f : F3) (i : W3) (x y : Option Fc) : (f.set i x).set i y = f.set i y := by cases i <;> rfl
/-- a disk of these files -/
abbrev F3.d (f : F3) (left : Int) : DS := ⟨f.fs, true, left⟩
/-- the bytes and how many are sure; of none, none -/
def F3.at_ (f : F3) (i : W3) : Fc := (f.get i).getD ([], 0)
theorem f3_append (f : F3) (left : Int) (i : W3) (m : List UInt8) (h : (f.at_ i).1.length + m.length ≤ 1048576) :
    appS (f.d left) i.nm m = (⟨(f.set i (some ((f.at_ i).1 ++ m.take (useS left m.length).1, (f.at_ i).2))).fs, (useS left m.length).2.2, (useS left m.length).2.1⟩, okE (useS left m.length).2.2) := by
  unfold appS
  rw [if_neg (by simp), if_neg (by rw [W3.ok]; simp), F3.get_fs]
  unfold F3.at_ at h ⊢
  cases hg : f.get i with
  | none =>
    rw [hg] at h
    simp only [Option.map_none, Option.getD_none, List.nil_append, List.length_nil] at h ⊢
    rw [if_neg (by have := f.len_fs; show ¬ 8 ≤ f.fs.length; omega), if_neg (by omega), F3.put_fs]
  | some p =>
    rw [hg] at h
    simp only [Option.map_some, Option.getD_some] at h ⊢
    rw [if_neg (by show ¬ 1048576 < p.1.length + m.length; omega), F3.put_fs]
    rfl
theorem f3_sync (f : F3) (left : Int) (i : W3) (p : Fc) (hg : f.get i = some p) : syncS (f.d left) i.nm = unitS (f.d left) (f.set i (some (p.1, p.1.length))).fs := by
  unfold syncS
  rw [if_neg (by simp), F3.get_fs, hg]
  simp only [Option.map_some]
  show unitS _ (putF (mkF i.nm p.1 p.1.length) f.fs) = _
  rw [F3.put_fs]
theorem f3_rename (f : F3) (left : Int) (i j : W3) (p : Fc) (hg : f.get i = some p) : renS (f.d left) i.nm j.nm = unitS (f.d left) ((f.set i none).set j (some p)).fs := by
  unfold renS
  rw [if_neg (by simp), F3.get_fs, hg]
  simp only [Option.map_some]
  rw [if_neg (by rw [W3.ok]; simp)]
  show unitS _ (putF (mkF j.nm p.1 p.2) (delF i.nm f.fs)) = _
  rw [F3.del_fs, F3.put_fs]
theorem f3_cut (f : F3) (left : Int) (i : W3) (k : Nat) (p : Fc) (hg : f.get i = some p) (hk : k ≤ p.1.length) : cutS (f.d left) i.nm (k : Int) = unitS (f.d left) (f.set i (some (p.1.take k, min p.2 k))).fs := by
  unfold cutS
  rw [if_neg (by simp), F3.get_fs, hg]
  simp only [Option.map_some]
  rw [if_neg (by show ¬ ((k : Int) < 0 ∨ ((p.1.length : Nat) : Int) < (k : Int)); omega)]
  show unitS _ (putF (mkF i.nm (p.1.take (k : Int).toNat) (min p.2 (k : Int).toNat)) f.fs) = _
  rw [F3.put_fs, Int.toNat_natCast]
theorem f3_cut_none (f : F3) (left : Int) (i : W3) (k : Int) (hg : f.get i = none) : cutS (f.d left) i.nm k = (f.d left, 4) := by
  unfold cutS
  rw [if_neg (by simp), F3.get_fs, hg]
  rfl
theorem f3_remove (f : F3) (left : Int) (i : W3) (p : Fc) (hg : f.get i = some p) : remS (f.d left) i.nm = unitS (f.d left) (f.set i none).fs := by
  unfold remS
  rw [if_neg (by simp), F3.get_fs, hg]
  simp only [Option.map_some]
  rw [F3.del_fs]
theorem f3_remove_none (f : F3) (left : Int) (i : W3) (hg : f.get i = none) : remS (f.d left) i.nm = (f.d left, 4) := by
  unfold remS
  rw [if_neg (by simp), F3.get_fs, hg]
  rfl
theorem f3_read (f : F3) (left : Int) (i : W3) : readS (f.d left) i.nm = (match f.get i with | none => ([], 4) | some p => (p.1, 0)) := by
  unfold readS
  rw [if_neg (by simp), F3.get_fs]
  cases f.get i <;> rfl
theorem f3_file (f : F3) (left : Int) (i : W3) : fileS (f.d left) i.nm = ((f.at_ i).1, 0) := by
  unfold fileS F3.at_
  rw [f3_read]
  cases f.get i <;> rfl
theorem use_ever (n : Nat) : useS (-1) n = (n, -1, true) := by unfold useS; rw [if_pos (by decide)]
theorem unit_ever (s : DS) (fs : List Fil) (h : s.left = -1) : unitS s fs = (⟨fs, true, -1⟩, 0) := by unfold unitS; rw [h, use_ever]; rfl

/-! what is read of records -/
theorem recsS_len (l : List (List UInt8)) : ∀ i, (recsS i l).length = (l.map fun m => m.length + 17).sum := by
  induction l with
  | nil => intro i; rfl
  | cons m r ih => intro i; simp only [recsS, List.length_append, List.map_cons, List.sum_cons, ih]; rw [Nat.add_right_cancel_iff]; simp [recS, numS_len, wendS_len]; omega
theorem whole_nil : wholeS [] = none := by unfold wholeS; rw [if_neg (by simp)]
/-- records behind something, a tail that begins none behind them -/
theorem scan_more (tail : List UInt8) (ht : wholeS tail = none) : ∀ (ps : List (List UInt8)) (pre : List UInt8) (i first : Nat) (out : List (List UInt8)), (out = [] ∨ i + 1 = first + out.length) → i + ps.length ≤ 1099511627776 → (∀ m ∈ ps, m.length ≤ 8192) →
    scanG (pre ++ (recsS i ps ++ tail)) first out pre.length = (if ps = [] then first else if out = [] then i + 1 else first, out ++ ps, pre.length + (recsS i ps).length)
  | [], pre, i, first, out, _, _, _ => by
    rw [scanG_none (by simpa [recsS] using ht)]
    simp [recsS]
  | m :: r, pre, i, first, out, ho, hi, hm => by
    have hm0 : m.length ≤ 8192 := hm m (List.mem_cons_self ..)
    have hd : (pre ++ (recsS i (m :: r) ++ tail)).drop pre.length = recS (i + 1) m ++ (recsS (i + 1) r ++ tail) := by
      rw [List.drop_left' rfl]; simp [recsS]
    have hw := whole_rec (i + 1) m (recsS (i + 1) r ++ tail) hm0
    have hn : (numS (i + 1) 8 ++ m).take 8 = numS (i + 1) 8 := by rw [List.take_append_of_le_length (by rw [numS_len]; omega), List.take_of_length_le (by rw [numS_len]; omega)]
    have hdr : (numS (i + 1) 8 ++ m).drop 8 = m := by rw [List.drop_append_of_le_length (by rw [numS_len]; omega), List.drop_of_length_le (by rw [numS_len]; omega), List.nil_append]
    simp only [List.length_cons] at hi
    have hb : beS (numS (i + 1) 8) = i + 1 := beS_num (i + 1) 8 (by omega)
    have hok : okN (beS ((numS (i + 1) 8 ++ m).take 8)) first out.length = true := by
      rw [hn, hb]
      unfold okN
      rcases ho with rfl | ho
      · simp; omega
      · by_cases h0 : out.length = 0
        · rw [if_pos h0]; simp; omega
        · rw [if_neg h0]; simp; omega
    have hl : (numS (i + 1) 8 ++ m).length + 9 = (recS (i + 1) m).length := by simp [recS, numS_len, wendS_len]; omega
    rw [scanG_step (by rw [hd]; exact hw) hok, hn, hb, hdr, hl]
    have he : pre ++ (recsS i (m :: r) ++ tail) = (pre ++ recS (i + 1) m) ++ (recsS (i + 1) r ++ tail) := by simp [recsS]
    have hlen : pre.length + (recS (i + 1) m).length = (pre ++ recS (i + 1) m).length := by simp
    rw [he, hlen]
    have ih := scan_more tail ht r (pre ++ recS (i + 1) m) (i + 1) (if out.length = 0 then i + 1 else first) (out ++ [m]) (.inr (by
      rcases ho with rfl | ho
      · simp
      · by_cases h0 : out.length = 0
        · rw [if_pos h0]
          have e9 : (out ++ [m]).length = 1 := by rw [List.length_append, h0]; rfl
          rw [e9]
        · rw [if_neg h0, List.length_append]
          show i + 1 + 1 = first + (out.length + 1)
          omega)) (by omega) (fun x hx => hm x (List.mem_cons_of_mem _ hx))
    rw [ih]
    rw [if_neg (show ¬ (out ++ [m] = []) by simp), ite_self, if_neg (show ¬ (m :: r = []) by simp), List.append_assoc, List.singleton_append]
    refine Prod.ext ?_ (Prod.ext rfl ?_)
    · by_cases h0 : out = []
      · subst h0; simp
      · rw [if_neg h0, if_neg (by simpa using h0)]
    · simp [recsS]; omega
theorem scan_recs (ps : List (List UInt8)) (i : Nat) (tail : List UInt8) (ht : wholeS tail = none) (hi : i + ps.length ≤ 1099511627776) (hm : ∀ m ∈ ps, m.length ≤ 8192) :
    scanG (recsS i ps ++ tail) 0 [] 0 = (if ps = [] then 0 else i + 1, ps, (recsS i ps).length) := by
  have h := scan_more tail ht ps [] i 0 [] (.inl rfl) hi hm
  simpa using h
end
section
set_option linter.unusedVariables false
set_option linter.unusedSimpArgs false

theorem recS_len17 (n : Nat) (m : List UInt8) : (recS n m).length = m.length + 17 := by
  simp [recS, numS_len, wendS_len]; omega
def Fc.sure (xs : List UInt8) : Fc := (xs, xs.length)
theorem wapp_ever (f : F3) (ps : List (List UInt8)) (m : List UInt8) (hm : m.length ≤ 8192) (hz : (f.at_ .log).1.length + (m.length + 17) ≤ 1048576) :
    wAppS ⟨f.d (-1), ps, false⟩ m = (⟨(f.set .log (some (Fc.sure ((f.at_ .log).1 ++ recS (ps.length + 1) m)))).d (-1), ps ++ [m], false⟩, 0) := by
  have h1 : appS (f.d (-1)) logN (recS (ps.length + 1) m) = ((f.set .log (some ((f.at_ .log).1 ++ recS (ps.length + 1) m, (f.at_ .log).2))).d (-1), 0) := by
    have h := f3_append f (-1) .log (recS (ps.length + 1) m) (by rw [recS_len17]; exact hz)
    rw [use_ever] at h
    simp only [List.take_length] at h
    exact h
  have h2 : syncS ((f.set .log (some ((f.at_ .log).1 ++ recS (ps.length + 1) m, (f.at_ .log).2))).d (-1)) logN = ((f.set .log (some (Fc.sure ((f.at_ .log).1 ++ recS (ps.length + 1) m)))).d (-1), 0) := by
    have h := f3_sync (f.set .log (some ((f.at_ .log).1 ++ recS (ps.length + 1) m, (f.at_ .log).2))) (-1) .log _ (F3.get_set _ _ _)
    rw [unit_ever _ _ rfl, F3.set_set] at h
    exact h
  unfold wAppS
  dsimp only
  rw [if_neg (by simp), if_neg (by omega), h1]
  dsimp only
  rw [if_neg (by simp), h2]
  rfl
theorem wchk_ever (f : F3) (hn : f.n = none) (ps : List (List UInt8)) (hz : (recsS 0 ps).length ≤ 1048576) :
    wChkS ⟨f.d (-1), ps, false⟩ = (⟨(F3.mk (f.l.map fun _ => ([], 0)) none (some (Fc.sure (recsS 0 ps)))).d (-1), ps, false⟩, 0) := by
  obtain ⟨a, b, c⟩ := f
  cases hn
  have h1 : appS ((F3.mk a none c).d (-1)) nextN (recsS 0 ps) = ((F3.mk a (some (recsS 0 ps, 0)) c).d (-1), 0) := by
    have h := f3_append ⟨a, none, c⟩ (-1) .next (recsS 0 ps) (by show 0 + _ ≤ _; omega)
    rw [use_ever] at h
    simp only [List.take_length] at h
    exact h
  have h2 : syncS ((F3.mk a (some (recsS 0 ps, 0)) c).d (-1)) nextN = ((F3.mk a (some (Fc.sure (recsS 0 ps))) c).d (-1), 0) := by
    have h := f3_sync (F3.mk a (some (recsS 0 ps, 0)) c) (-1) .next _ rfl
    rw [unit_ever _ _ rfl] at h
    exact h
  have h3 : renS ((F3.mk a (some (Fc.sure (recsS 0 ps))) c).d (-1)) nextN snapN = ((F3.mk a none (some (Fc.sure (recsS 0 ps)))).d (-1), 0) := by
    have h := f3_rename (F3.mk a (some (Fc.sure (recsS 0 ps))) c) (-1) .next .snap _ rfl
    rw [unit_ever _ _ rfl] at h
    exact h
  have h4 : thereE (cutS ((F3.mk a none (some (Fc.sure (recsS 0 ps)))).d (-1)) logN 0).2 = 0 ∧ (cutS ((F3.mk a none (some (Fc.sure (recsS 0 ps)))).d (-1)) logN 0).1 = (F3.mk (a.map fun _ => ([], 0)) none (some (Fc.sure (recsS 0 ps)))).d (-1) := by
    cases a with
    | none =>
      have h : cutS ((F3.mk none none (some (Fc.sure (recsS 0 ps)))).d (-1)) logN 0 = _ := f3_cut_none _ (-1) .log 0 rfl
      rw [h]
      exact ⟨rfl, rfl⟩
    | some p =>
      have h : cutS ((F3.mk (some p) none (some (Fc.sure (recsS 0 ps)))).d (-1)) logN ((0 : Nat) : Int) = _ := f3_cut _ (-1) .log 0 p rfl (Nat.zero_le _)
      rw [unit_ever _ _ rfl] at h
      rw [show (0 : Int) = ((0 : Nat) : Int) from rfl, h]
      refine ⟨rfl, ?_⟩
      simp [F3.set]
  unfold wChkS
  dsimp only
  rw [if_neg (by simp), if_neg (by omega), h1]
  dsimp only
  rw [if_neg (by simp), h2]
  dsimp only
  rw [if_neg (by simp), h3]
  dsimp only
  simp only [h4.1, h4.2, ne_eq, not_true_eq_false, if_false]
/-- what Open makes of a snapshot and a log -/
theorem takeS_gen (f : F3) (left : Int) (ps qs : List (List UInt8)) (j : Nat) (tail : List UInt8) (hl : (f.at_ .log).1 = recsS j qs ++ tail) (ht : wholeS tail = none) (hj : j ≤ ps.length) (hjq : ps.length ≤ j + qs.length) (hq : qs ≠ [] ∨ j = ps.length) (hi : j + qs.length ≤ 1099511627776) (hm : ∀ m ∈ qs, m.length ≤ 8192) :
    takeS (f.d left) ps = (if tail = [] then (⟨f.d left, ps ++ qs.drop (ps.length - j), false⟩, 0) else (⟨(cutS (f.d left) logN (((recsS j qs).length : Nat) : Int)).1, ps ++ qs.drop (ps.length - j), (cutS (f.d left) logN (((recsS j qs).length : Nat) : Int)).2 == 20⟩, (cutS (f.d left) logN (((recsS j qs).length : Nat) : Int)).2)) := by
  have hf : fileS (f.d left) logN = (recsS j qs ++ tail, 0) := by rw [← hl]; exact f3_file f left .log
  have hs := scan_recs qs j tail ht hi hm
  unfold takeS
  dsimp only
  rw [hf]
  dsimp only
  rw [if_neg (by simp), hs]
  dsimp only
  by_cases h0 : qs = []
  · subst h0
    have hjp : j = ps.length := by rcases hq with h | h; · exact absurd rfl h
                                   · exact h
    have hb : takesB (if ([] : List (List UInt8)) = [] then 0 else j + 1) ([] : List (List UInt8)).length ps.length = false := by simp [takesB]
    rw [hb]
    simp only [recsS, List.nil_append, List.length_nil, Bool.false_eq_true, if_false, List.drop_nil, List.append_nil]
    by_cases h1 : tail = []
    · subst h1; rw [if_pos (by simp), if_pos rfl]
    · have : 0 < tail.length := List.length_pos_iff.2 h1
      rw [if_neg (by omega), if_neg h1]
  · have hpos : 0 < qs.length := List.length_pos_iff.2 h0
    have hb : takesB (if qs = [] then 0 else j + 1) qs.length ps.length = true := by
      rw [if_neg h0]; simp only [takesB, Bool.and_eq_true, decide_eq_true_eq]; omega
    rw [hb]
    simp only [if_true, if_neg h0]
    rw [show ps.length + 1 - (j + 1) = ps.length - j by omega]
    by_cases h1 : tail = []
    · subst h1; rw [if_pos (by simp), if_pos rfl]
    · have : 0 < tail.length := List.length_pos_iff.2 h1
      rw [if_neg (by rw [List.length_append]; omega), if_neg h1]
theorem snapS_gen (f : F3) (left : Int) (ps : List (List UInt8)) (h : (f.at_ .snap).1 = recsS 0 ps) (hi : ps.length ≤ 1099511627776) (hm : ∀ m ∈ ps, m.length ≤ 8192) : snapS (f.d left) = ps := by
  have hf : fileS (f.d left) snapN = (recsS 0 ps, 0) := by rw [← h]; exact f3_file f left .snap
  have hs := scan_recs ps 0 [] whole_nil (by omega) hm
  rw [List.append_nil] at hs
  unfold snapS
  dsimp only
  rw [hf]
  dsimp only
  rw [hs]
  by_cases h0 : ps = []
  · subst h0; rfl
  · simp [h0]
theorem wopen_ever (f : F3) (left : Int) (hn : f.n = none) (ps qs : List (List UInt8)) (hs : (f.at_ .snap).1 = recsS 0 ps) (hl : (f.at_ .log).1 = recsS ps.length qs) (hi : ps.length + qs.length ≤ 1099511627776) (hmp : ∀ m ∈ ps, m.length ≤ 8192) (hm : ∀ m ∈ qs, m.length ≤ 8192) :
    wOpenS (f.d left) = (⟨f.d left, ps ++ qs, false⟩, 0) := by
  have h1 : remS (f.d left) nextN = (f.d left, 4) := f3_remove_none f left .next hn
  have h2 := snapS_gen f left ps hs (by omega) hmp
  have h3 := takeS_gen f left ps qs ps.length [] (by rw [hl, List.append_nil]) whole_nil (Nat.le_refl _) (by omega) (.inr rfl) hi hm
  rw [if_pos rfl, Nat.sub_self, List.drop_zero] at h3
  have h4 : fileS (f.d left) snapN = ((f.at_ .snap).1, 0) := f3_file f left .snap
  unfold wOpenS
  dsimp only
  rw [h1]
  dsimp only
  rw [if_neg (by simp [thereE]), h4]
  dsimp only
  rw [if_neg (by simp), h2, h3]
/-- a file behind a crash -/
def crC (keep : Int) (p : Fc) : Fc := (p.1.take (p.2 + min keep.toNat (p.1.length - p.2)), p.2 + min keep.toNat (p.1.length - p.2))
def F3.crash (f : F3) (keep : Int) : F3 := ⟨f.l.map (crC keep), f.n.map (crC keep), f.s.map (crC keep)⟩
theorem f3_crash (f : F3) (on : Bool) (left keep : Int) : crashS ⟨f.fs, on, left⟩ keep = (f.crash keep).d (-1) := by
  obtain ⟨a, b, c⟩ := f
  cases a <;> cases b <;> cases c <;> rfl
theorem crC_sure (keep : Int) (xs : List UInt8) : crC keep (Fc.sure xs) = Fc.sure xs := by
  unfold crC Fc.sure
  simp
end
section
set_option linter.unusedVariables false
set_option linter.unusedSimpArgs false
open Go.Maps Go.RowKit

theorem lsa_of_pl {w : World} {base : Nat} {p : Option Addr} {n d : Nat} {l : List SlA} (h : Pl w base (.slice p n d) l) : Lsa w p l := by
  refine ⟨?_, h.ok⟩
  by_cases h0 : l = []
  · exact .inl h0
  · obtain ⟨p', d', he, _, hr⟩ := h.rd
    cases he
    rcases hr with h1 | ⟨b, off, rfl, hb, hc⟩
    · exact .inl h1
    · refine .inr ⟨b, off, rfl, hb, fun i hi => ?_⟩
      have := hc i hi 0 _ rfl
      rw [Nat.mul_one, Nat.add_zero] at this
      exact this
theorem Lsa.at {w : World} {q : Option Addr} {l : List SlA} (h : Lsa w q l) (k : Nat) (hk : k < l.length) : ∃ b off, q = some ⟨b, off, none⟩ ∧ b < w.heap.size ∧ w.cell? ⟨b, off + k, none⟩ = some (.slice l[k].q l[k].m.length l[k].c) ∧ Rd0 w l[k].q l[k].m ∧ l[k].m.length ≤ l[k].c := by
  rcases h.at_ with h0 | ⟨b, off, h1, h2, h3⟩
  · subst h0; simp at hk
  · exact ⟨b, off, h1, h2, h3 k hk, h.el _ (List.getElem_mem hk)⟩
structure SmB (w w' : World) (r : Ending) (a b : List SlA) : Prop where
  ex : ∃ k : Bool, r = .returned (.bool k) ∧ (k = true ↔ a.map (·.m) = b.map (·.m))
  bel : Below w.heap.size w w'
set_option maxRecDepth 100000 in
set_option maxHeartbeats 4000000 in
theorem sameL_any (p1 p2 : Option Addr) (n1 n2 d1 d2 : Nat) (l1 l2 : List SlA) (hn1 : n1 = l1.length) (hn2 : n2 = l2.length) (w : World) (h1 : Lsa w p1 l1) (h2 : Lsa w p2 l2) (hl : l1.length ≤ 1000000000) (hl2 : l2.length ≤ 1000000000) :
    Calls Tryd.prog 14 #[.slice p1 n1 d1, .slice p2 n2 d2] w fun r w' => SmB w w' r l1 l2 := by
  have H1 := Lib.hid h1
  have H2 := Lib.hid h2
  by_cases he : l1.length = l2.length
  · obtain ⟨K, hK⟩ : ∃ K, K = l1.length := ⟨_, rfl⟩
    rw [show n1 = K by omega, show n2 = K by omega]
    have z0 : ((K : Int) != (K : Int)) = false := by simp
    have HK1 := Lib.hid (show l1.length = K by omega)
    have HK2 := Lib.hid (show l2.length = K by omega)
    have HKB := Lib.hid (show K ≤ 1000000000 by omega)
    clear h1 h2 he hK hn1 hn2 hl hl2
    go_enter Tryd.func14, Tryd.ntmps14
    go_wp2_with fail
    go_loopw [5] (fun i wr => ∃ k : Nat, k ≤ K ∧ i = .int .i64 (k : Int) ∧ Hid ((l1.map (·.m)).take k = (l2.map (·.m)).take k) ∧ Hid (Below w.heap.size w wr)) (fun i _ => K - (intOf i).toNat)
    case atStart => exact ⟨0, Nat.zero_le _, rfl, Lib.hid (by simp), Lib.hid (Below.refl _ _)⟩
    case round =>
      obtain ⟨k, hk, rfl, HT, HB⟩ := hrel
      have k0 : (0 : Int) ≤ (k : Int) := by omega
      by_cases hlt : k < K
      · have k1 : (k : Int) < (K : Int) := by omega
        have k6 : IntKind.i64.wrap ((k : Int) + 1) = (k : Int) + 1 := IntWalk.i64_in _ (by have := HKB.out; omega)
        have hx1 : k < l1.length := by rw [HK1.out]; exact hlt
        have hx2 : k < l2.length := by rw [HK2.out]; exact hlt
        obtain ⟨g1, o1, rfl, hg1, hc1, hr1, hd1⟩ := H1.out.at k hx1
        obtain ⟨g2, o2, rfl, hg2, hc2, hr2, hd2⟩ := H2.out.at k hx2
        have HTA := Lib.hid (show (l1.map (·.m)).take (k + 1) = (l1.map (·.m)).take k ++ [l1[k].m] by rw [List.take_succ_eq_append_getElem (by simpa using hx1)]; simp)
        have HTB := Lib.hid (show (l2.map (·.m)).take (k + 1) = (l2.map (·.m)).take k ++ [l2[k].m] by rw [List.take_succ_eq_append_getElem (by simpa using hx2)]; simp)
        have HD := Lib.hid (show wr.drew.cell? ⟨g1, o1 + k, none⟩ = some (.slice l1[k].q l1[k].m.length l1[k].c) ∧ wr.drew.cell? ⟨g2, o2 + k, none⟩ = some (.slice l2[k].q l2[k].m.length l2[k].c) ∧ Rd0 wr.drew l1[k].q l1[k].m ∧ Rd0 wr.drew l2[k].q l2[k].m from
          ⟨(HB.out.drew.cell (p := ⟨g1, o1 + k, none⟩) hg1).trans hc1, (HB.out.drew.cell (p := ⟨g2, o2 + k, none⟩) hg2).trans hc2, hr1.on HB.out.drew, hr2.on HB.out.drew⟩)
        have HBD := Lib.hid HB.out.drew
        clear hc1 hc2 hr1 hr2 hd1 hd2
        generalize l1[k].q = qx at *
        generalize l1[k].m = mx at *
        generalize l1[k].c = cx at *
        generalize l2[k].q = qy at *
        generalize l2[k].m = my at *
        generalize l2[k].c = cy at *
        clear hx1 hx2
        go_upto_region 6 with fail
        by_cases hmm : mx = my
        · subst hmm
          have HTN := Lib.hid (show (l1.map (·.m)).take (k + 1) = (l2.map (·.m)).take (k + 1) by rw [HTA.out, HTB.out, HT.out])
          refine wp_region_held_drew (S := fun X => X.cell? ⟨g1, o1 + k, none⟩ = some (.slice qx mx.length cx) ∧ X.cell? ⟨g2, o2 + k, none⟩ = some (.slice qy mx.length cy) ∧ Rd0 X qx mx ∧ Rd0 X qy mx) (by kernel_rfl) (HD.out) (fun hHeld => ?_)
          refine wpAnyH_take (i := 0) (v := ?_) rfl (by kernel_rfl) (by kernel_rfl) (by kernel_rfl) (fun _ _ _ h => h) (Or.inl ⟨by rfl, ?hy⟩) (by assumption) ?_
          case hy =>
            intro X hSw
            obtain ⟨h1, h2, h3, h4⟩ := hSw
            go_simp
            all_goals with_reducible rfl
          (try simp only [Act.put, List.getElem_toArray, List.getElem_cons_succ, List.getElem_cons_zero, List.setIfInBounds_toArray, List.set_cons_zero, List.set_cons_succ])
          refine wpAnyH_take (i := 1) (v := ?_) rfl (by kernel_rfl) (by kernel_rfl) (by kernel_rfl) (fun _ _ _ h => h) (Or.inl ⟨by rfl, ?hy⟩) (by assumption) ?_
          case hy =>
            intro X hSw
            obtain ⟨h1, h2, h3, h4⟩ := hSw
            go_simp
            all_goals with_reducible rfl
          (try simp only [Act.put, List.getElem_toArray, List.getElem_cons_succ, List.getElem_cons_zero, List.setIfInBounds_toArray, List.set_cons_zero, List.set_cons_succ])
          refine wpAnyH_take (i := 2) (v := ?_) rfl (by kernel_rfl) (by kernel_rfl) (by kernel_rfl) (fun _ _ _ h => h) (Or.inl ⟨by rfl, ?hy⟩) (by assumption) ?_
          case hy =>
            intro X hSw
            obtain ⟨h1, h2, h3, h4⟩ := hSw
            go_simp
            all_goals with_reducible rfl
          (try simp only [Act.put, List.getElem_toArray, List.getElem_cons_succ, List.getElem_cons_zero, List.setIfInBounds_toArray, List.set_cons_zero, List.set_cons_succ])
          refine wpAnyH_take (i := 3) (v := ?_) rfl (by kernel_rfl) (by kernel_rfl) (by kernel_rfl) (fun _ _ _ h => h) (Or.inl ⟨by rfl, ?hy⟩) (by assumption) ?_
          case hy =>
            intro X hSw
            obtain ⟨h1, h2, h3, h4⟩ := hSw
            go_simp
            all_goals with_reducible rfl
          (try simp only [Act.put, List.getElem_toArray, List.getElem_cons_succ, List.getElem_cons_zero, List.setIfInBounds_toArray, List.set_cons_zero, List.set_cons_succ])
          refine wpAnyH_take (i := 4) (v := ?_) rfl (by kernel_rfl) (by kernel_rfl) (by kernel_rfl) (fun _ _ _ h => h) (Or.inl ⟨by rfl, ?hy⟩) (by assumption) ?_
          case hy =>
            intro X hSw
            obtain ⟨h1, h2, h3, h4⟩ := hSw
            have hc := run_back8 X qx mx cx h3
            go_simp
            all_goals with_reducible rfl
          (try simp only [Act.put, List.getElem_toArray, List.getElem_cons_succ, List.getElem_cons_zero, List.setIfInBounds_toArray, List.set_cons_zero, List.set_cons_succ])
          refine wpAnyH_take (i := 5) (v := ?_) rfl (by kernel_rfl) (by kernel_rfl) (by kernel_rfl) (fun _ _ _ h => h) (Or.inl ⟨by rfl, ?hy⟩) (by assumption) ?_
          case hy =>
            intro X hSw
            obtain ⟨h1, h2, h3, h4⟩ := hSw
            go_simp
            all_goals with_reducible rfl
          (try simp only [Act.put, List.getElem_toArray, List.getElem_cons_succ, List.getElem_cons_zero, List.setIfInBounds_toArray, List.set_cons_zero, List.set_cons_succ])
          refine wpAnyH_take (i := 6) (v := ?_) rfl (by kernel_rfl) (by kernel_rfl) (by kernel_rfl) (fun _ _ _ h => h) (Or.inl ⟨by rfl, ?hy⟩) (by assumption) ?_
          case hy =>
            intro X hSw
            obtain ⟨h1, h2, h3, h4⟩ := hSw
            go_simp
            all_goals with_reducible rfl
          (try simp only [Act.put, List.getElem_toArray, List.getElem_cons_succ, List.getElem_cons_zero, List.setIfInBounds_toArray, List.set_cons_zero, List.set_cons_succ])
          refine wpAnyH_take (i := 7) (v := ?_) rfl (by kernel_rfl) (by kernel_rfl) (by kernel_rfl) (fun _ _ _ h => h) (Or.inl ⟨by rfl, ?hy⟩) (by assumption) ?_
          case hy =>
            intro X hSw
            obtain ⟨h1, h2, h3, h4⟩ := hSw
            go_simp
            all_goals with_reducible rfl
          (try simp only [Act.put, List.getElem_toArray, List.getElem_cons_succ, List.getElem_cons_zero, List.setIfInBounds_toArray, List.set_cons_zero, List.set_cons_succ])
          refine wpAnyH_take (i := 8) (v := ?_) rfl (by kernel_rfl) (by kernel_rfl) (by kernel_rfl) (fun _ _ _ h => h) (Or.inl ⟨by rfl, ?hy⟩) (by assumption) ?_
          case hy =>
            intro X hSw
            obtain ⟨h1, h2, h3, h4⟩ := hSw
            go_simp
            all_goals with_reducible rfl
          (try simp only [Act.put, List.getElem_toArray, List.getElem_cons_succ, List.getElem_cons_zero, List.setIfInBounds_toArray, List.set_cons_zero, List.set_cons_succ])
          refine wpAnyH_take (i := 9) (v := ?_) rfl (by kernel_rfl) (by kernel_rfl) (by kernel_rfl) (fun _ _ _ h => h) (Or.inl ⟨by rfl, ?hy⟩) (by assumption) ?_
          case hy =>
            intro X hSw
            obtain ⟨h1, h2, h3, h4⟩ := hSw
            have hc := run_back8 X qy mx cy h4
            go_simp
            all_goals with_reducible rfl
          (try simp only [Act.put, List.getElem_toArray, List.getElem_cons_succ, List.getElem_cons_zero, List.setIfInBounds_toArray, List.set_cons_zero, List.set_cons_succ])
          refine wpAnyH_take (i := 10) (v := .bool false) rfl (by kernel_rfl) (by kernel_rfl) (by kernel_rfl) (fun _ _ _ h => h) (Or.inl ⟨by rfl, ?hy⟩) (by assumption) ?_
          case hy =>
            intro X hSw
            obtain ⟨h1, h2, h3, h4⟩ := hSw
            go_simp
            all_goals (first | with_reducible rfl | simp)
          (try simp only [Act.put, List.getElem_toArray, List.getElem_cons_succ, List.getElem_cons_zero, List.setIfInBounds_toArray, List.set_cons_zero, List.set_cons_succ])
          refine wpAnyH_done (by kernel_rfl) ?_ _
          go_wp2_with fail
          go_roundw
          case rel => exact ⟨k + 1, by omega, by go_num, HTN, HBD⟩
          case measure => simp [intOf]; try omega
        · have HNE := Lib.hid (show ¬ (l1.map (·.m) = l2.map (·.m)) by
            intro h
            rw [h] at HTA
            have h2 := HTA.out.symm.trans HTB.out
            exact hmm (by simpa using List.append_cancel_left h2))
          have hne2 : (mx != my) = true := by simpa [bne_iff_ne] using hmm
          have hne3 : (mx == my) = false := by simpa using hmm
          have hne4 : ¬ mx.toArray = my.toArray := by simpa using hmm
          refine wp_region_held_drew (S := fun X => X.cell? ⟨g1, o1 + k, none⟩ = some (.slice qx mx.length cx) ∧ X.cell? ⟨g2, o2 + k, none⟩ = some (.slice qy my.length cy) ∧ Rd0 X qx mx ∧ Rd0 X qy my) (by kernel_rfl) (HD.out) (fun hHeld => ?_)
          refine wpAnyH_take (i := 0) (v := ?_) rfl (by kernel_rfl) (by kernel_rfl) (by kernel_rfl) (fun _ _ _ h => h) (Or.inl ⟨by rfl, ?hy⟩) (by assumption) ?_
          case hy =>
            intro X hSw
            obtain ⟨h1, h2, h3, h4⟩ := hSw
            go_simp
            all_goals with_reducible rfl
          (try simp only [Act.put, List.getElem_toArray, List.getElem_cons_succ, List.getElem_cons_zero, List.setIfInBounds_toArray, List.set_cons_zero, List.set_cons_succ])
          refine wpAnyH_take (i := 1) (v := ?_) rfl (by kernel_rfl) (by kernel_rfl) (by kernel_rfl) (fun _ _ _ h => h) (Or.inl ⟨by rfl, ?hy⟩) (by assumption) ?_
          case hy =>
            intro X hSw
            obtain ⟨h1, h2, h3, h4⟩ := hSw
            go_simp
            all_goals with_reducible rfl
          (try simp only [Act.put, List.getElem_toArray, List.getElem_cons_succ, List.getElem_cons_zero, List.setIfInBounds_toArray, List.set_cons_zero, List.set_cons_succ])
          refine wpAnyH_take (i := 2) (v := ?_) rfl (by kernel_rfl) (by kernel_rfl) (by kernel_rfl) (fun _ _ _ h => h) (Or.inl ⟨by rfl, ?hy⟩) (by assumption) ?_
          case hy =>
            intro X hSw
            obtain ⟨h1, h2, h3, h4⟩ := hSw
            go_simp
            all_goals with_reducible rfl
          (try simp only [Act.put, List.getElem_toArray, List.getElem_cons_succ, List.getElem_cons_zero, List.setIfInBounds_toArray, List.set_cons_zero, List.set_cons_succ])
          refine wpAnyH_take (i := 3) (v := ?_) rfl (by kernel_rfl) (by kernel_rfl) (by kernel_rfl) (fun _ _ _ h => h) (Or.inl ⟨by rfl, ?hy⟩) (by assumption) ?_
          case hy =>
            intro X hSw
            obtain ⟨h1, h2, h3, h4⟩ := hSw
            go_simp
            all_goals with_reducible rfl
          (try simp only [Act.put, List.getElem_toArray, List.getElem_cons_succ, List.getElem_cons_zero, List.setIfInBounds_toArray, List.set_cons_zero, List.set_cons_succ])
          refine wpAnyH_take (i := 4) (v := ?_) rfl (by kernel_rfl) (by kernel_rfl) (by kernel_rfl) (fun _ _ _ h => h) (Or.inl ⟨by rfl, ?hy⟩) (by assumption) ?_
          case hy =>
            intro X hSw
            obtain ⟨h1, h2, h3, h4⟩ := hSw
            have hc := run_back8 X qx mx cx h3
            go_simp
            all_goals with_reducible rfl
          (try simp only [Act.put, List.getElem_toArray, List.getElem_cons_succ, List.getElem_cons_zero, List.setIfInBounds_toArray, List.set_cons_zero, List.set_cons_succ])
          refine wpAnyH_take (i := 5) (v := ?_) rfl (by kernel_rfl) (by kernel_rfl) (by kernel_rfl) (fun _ _ _ h => h) (Or.inl ⟨by rfl, ?hy⟩) (by assumption) ?_
          case hy =>
            intro X hSw
            obtain ⟨h1, h2, h3, h4⟩ := hSw
            go_simp
            all_goals with_reducible rfl
          (try simp only [Act.put, List.getElem_toArray, List.getElem_cons_succ, List.getElem_cons_zero, List.setIfInBounds_toArray, List.set_cons_zero, List.set_cons_succ])
          refine wpAnyH_take (i := 6) (v := ?_) rfl (by kernel_rfl) (by kernel_rfl) (by kernel_rfl) (fun _ _ _ h => h) (Or.inl ⟨by rfl, ?hy⟩) (by assumption) ?_
          case hy =>
            intro X hSw
            obtain ⟨h1, h2, h3, h4⟩ := hSw
            go_simp
            all_goals with_reducible rfl
          (try simp only [Act.put, List.getElem_toArray, List.getElem_cons_succ, List.getElem_cons_zero, List.setIfInBounds_toArray, List.set_cons_zero, List.set_cons_succ])
          refine wpAnyH_take (i := 7) (v := ?_) rfl (by kernel_rfl) (by kernel_rfl) (by kernel_rfl) (fun _ _ _ h => h) (Or.inl ⟨by rfl, ?hy⟩) (by assumption) ?_
          case hy =>
            intro X hSw
            obtain ⟨h1, h2, h3, h4⟩ := hSw
            go_simp
            all_goals with_reducible rfl
          (try simp only [Act.put, List.getElem_toArray, List.getElem_cons_succ, List.getElem_cons_zero, List.setIfInBounds_toArray, List.set_cons_zero, List.set_cons_succ])
          refine wpAnyH_take (i := 8) (v := ?_) rfl (by kernel_rfl) (by kernel_rfl) (by kernel_rfl) (fun _ _ _ h => h) (Or.inl ⟨by rfl, ?hy⟩) (by assumption) ?_
          case hy =>
            intro X hSw
            obtain ⟨h1, h2, h3, h4⟩ := hSw
            go_simp
            all_goals with_reducible rfl
          (try simp only [Act.put, List.getElem_toArray, List.getElem_cons_succ, List.getElem_cons_zero, List.setIfInBounds_toArray, List.set_cons_zero, List.set_cons_succ])
          refine wpAnyH_take (i := 9) (v := ?_) rfl (by kernel_rfl) (by kernel_rfl) (by kernel_rfl) (fun _ _ _ h => h) (Or.inl ⟨by rfl, ?hy⟩) (by assumption) ?_
          case hy =>
            intro X hSw
            obtain ⟨h1, h2, h3, h4⟩ := hSw
            have hc := run_back8 X qy my cy h4
            go_simp
            all_goals with_reducible rfl
          (try simp only [Act.put, List.getElem_toArray, List.getElem_cons_succ, List.getElem_cons_zero, List.setIfInBounds_toArray, List.set_cons_zero, List.set_cons_succ])
          refine wpAnyH_take (i := 10) (v := .bool true) rfl (by kernel_rfl) (by kernel_rfl) (by kernel_rfl) (fun _ _ _ h => h) (Or.inl ⟨by rfl, ?hy⟩) (by assumption) ?_
          case hy =>
            intro X hSw
            obtain ⟨h1, h2, h3, h4⟩ := hSw
            go_simp
            all_goals (first | with_reducible rfl | simp [hmm])
          (try simp only [Act.put, List.getElem_toArray, List.getElem_cons_succ, List.getElem_cons_zero, List.setIfInBounds_toArray, List.set_cons_zero, List.set_cons_succ])
          refine wpAnyH_done (by kernel_rfl) ?_ _
          go_wp2_with fail
          go_ret
          exact ⟨⟨false, rfl, ⟨fun h => (by cases h), fun h => absurd h HNE.out⟩⟩, HBD.out⟩
      · obtain rfl : k = K := by omega
        obtain ⟨wq, rfl⟩ : ∃ wq : World, wq = wr := ⟨_, rfl⟩
        have HF := Lib.hid (show l1.map (·.m) = l2.map (·.m) by
          have h := HT.out
          rwa [List.take_of_length_le (by rw [List.length_map, HK1.out]; exact Nat.le_refl _), List.take_of_length_le (by rw [List.length_map, HK2.out]; exact Nat.le_refl _)] at h)
        go_wp2_with fail
        go_ret
        exact ⟨⟨true, rfl, ⟨fun _ => HF.out, fun _ => rfl⟩⟩, HB.out⟩
  · have HNE := Lib.hid (show ¬ (l1.map (·.m) = l2.map (·.m)) by
      intro h
      have := congrArg List.length h
      rw [List.length_map, List.length_map] at this
      exact he this)
    have z0 : ((n1 : Int) != (n2 : Int)) = true := by
      rw [bne_iff_ne]
      intro h
      exact he (by omega)
    clear h1 h2 he hn1 hn2 hl hl2
    go_enter Tryd.func14, Tryd.ntmps14
    go_wp2_with fail
    go_ret
    exact ⟨⟨false, rfl, ⟨fun h => (by cases h), fun h => absurd h HNE.out⟩⟩, Below.refl _ _⟩
end
section
set_option linter.unusedVariables false
set_option linter.unusedSimpArgs false
open Go.Maps Go.RowKit

structure Lw (X w : World) (lb : Nat) (s : LS) : Prop where
  ex : ∃ O v l, Wk X w.heap.size (w.heap.size + 1) lb s.d O v l s.dn ∧ l.map (·.m) = s.ps
  bel : Below w.heap.size w X
theorem Lw.on {X X' w : World} {lb : Nat} {s : LS} (h : Lw X w lb s) (hb : Below X.heap.size X X') : Lw X' w lb s := by
  obtain ⟨O, v, l, h1, h2⟩ := h.ex
  exact ⟨⟨O, v, l, h1.on hb, h2⟩, h.bel.trans (hb.mono h.bel.size)⟩
theorem Lw.sd {X w : World} {lb : Nat} {s : LS} (h : Lw X w lb s) : Sd X w s.d := by
  obtain ⟨O, v, l, h1, h2⟩ := h.ex
  exact ⟨⟨O, h1.dk⟩, h.bel⟩
theorem Lw.after {X X' w : World} {lb : Nat} {s : LS} {O : Nat → Prop} {v : Value} {l : List SlA} {s0 : DS} {dn0 : Bool} (h : Wk X w.heap.size (w.heap.size + 1) lb s0 O v l dn0) (hb : Below w.heap.size w X) (ha : AfterW X' X w.heap.size (w.heap.size + 1) lb O v s) : Lw X' w lb s := by
  obtain ⟨O', v', l', h1, h2, h3⟩ := ha
  exact ⟨⟨O', v', l', h1, h2⟩, hb.trans (h3.below (fun b hb => (h.low b hb).2) hb.size)⟩
theorem lw_append {X1 X w : World} {lb : Nat} {s : LS} (h : Lw X1 w lb s) (hb : Below X1.heap.size X1 X) (q : Option Addr) (n c : Nat) (m : List UInt8) (hn : n = m.length) (hc : m.length ≤ c) (hR : Rd0 X q m) (hq : m = [] ∨ ∀ a, q = some a → X1.heap.size ≤ a.block) (hE : Env w) (hl : s.ps.length ≤ 1000000) :
    Calls Tryd.prog 17 #[.pointer (some ⟨lb, 0, none⟩), .slice q n c] X fun r w' => r = .returned (.int .i64 (wAppS s m).2) ∧ Lw w' w lb (wAppS s m).1 := by
  obtain ⟨O, v, l, h1, h2⟩ := h.ex
  obtain ⟨d, ps, dn⟩ := s
  simp only at h1 h2 hl
  subst h2
  rw [List.length_map] at hl
  have hW := h1.on hb
  have hB : Below w.heap.size w X := h.bel.trans (hb.mono h.bel.size)
  cases dn with
  | true =>
    refine (wappend_no w.heap.size (w.heap.size + 1) lb d O v l true q n c X hW hl (.inl rfl)).mono ?_
    rintro r w' ⟨rfl, ha⟩
    have e : wAppS ⟨d, l.map (·.m), true⟩ m = (⟨d, l.map (·.m), true⟩, 20) := by unfold wAppS; rw [if_pos rfl]
    rw [e]
    exact ⟨rfl, Lw.after hW hB ha⟩
  | false =>
    by_cases hz : 8192 < n
    · refine (wappend_no w.heap.size (w.heap.size + 1) lb d O v l false q n c X hW hl (.inr ⟨rfl, hz⟩)).mono ?_
      rintro r w' ⟨rfl, ha⟩
      have e : wAppS ⟨d, l.map (·.m), false⟩ m = (⟨d, l.map (·.m), false⟩, 2) := by unfold wAppS; rw [if_neg (by simp), if_pos (by omega)]
      rw [e]
      exact ⟨rfl, Lw.after hW hB ha⟩
    · refine (wappend_main w.heap.size (w.heap.size + 1) lb d O v l q n c m hn hc (by omega) X hW (hE.on hB hE.size) hl ⟨hR, hq.imp id (fun h a ha e => ?_)⟩).mono ?_
      · have h3 := h a ha
        have h4 := (h1.low _ e).1
        omega
      · rintro r w' ⟨rfl, ha⟩
        exact ⟨rfl, Lw.after hW hB ha⟩
theorem lw_chk {X w : World} {lb : Nat} {s : LS} (h : Lw X w lb s) (hE : Env w) (hl : s.ps.length ≤ 1000000) (hz : (recsS 0 s.ps).length ≤ 10000000) :
    Calls Tryd.prog 18 #[.pointer (some ⟨lb, 0, none⟩)] X fun r w' => r = .returned (.int .i64 (wChkS s).2) ∧ Lw w' w lb (wChkS s).1 := by
  obtain ⟨O, v, l, h1, h2⟩ := h.ex
  obtain ⟨d, ps, dn⟩ := s
  simp only at h1 h2 hl hz
  subst h2
  rw [List.length_map] at hl
  refine (wchk_any w.heap.size (w.heap.size + 1) lb d O v l dn X h1 (hE.on h.bel hE.size) (Nat.le_trans hE.size h.bel.size) hl hz).mono ?_
  rintro r w' ⟨rfl, ha⟩
  exact ⟨rfl, Lw.after h1 h.bel ha⟩
theorem lw_all {X w : World} {lb : Nat} {s : LS} (h : Lw X w lb s) (hl : s.ps.length ≤ 1000000) (hz : ∀ m ∈ s.ps, m.length ≤ 1000000000) :
    Calls Tryd.prog 21 #[.pointer (some ⟨lb, 0, none⟩)] X fun r w' => ∃ q l' c, r = .returned (.slice q l'.length c) ∧ Lsa w' q l' ∧ l'.map (·.m) = s.ps ∧ l'.length = s.ps.length ∧ Below X.heap.size X w' := by
  obtain ⟨O, v, l, h1, h2⟩ := h.ex
  refine (wall_any w.heap.size (w.heap.size + 1) lb s.d O v l s.dn X h1 (by have := congrArg List.length h2; rw [List.length_map] at this; omega) (fun x hx => hz x.m (by rw [← h2]; exact List.mem_map_of_mem hx))).mono ?_
  rintro r w' ⟨v', l', rfl, h3, h4, h5⟩
  obtain ⟨p, dd, rfl, _⟩ := h3.form
  exact ⟨p, l', dd, rfl, lsa_of_pl h3, h4.trans h2, by have := congrArg List.length (h4.trans h2); rwa [List.length_map] at this, h5⟩
theorem lw_open {X w : World} {s : DS} (h : Sd X w s) (hE : Env w) (hz1 : (fileS (remS s nextN).1 snapN).1.length ≤ 1500000) (hz2 : (fileS (remS s nextN).1 logN).1.length ≤ 1500000) :
    Calls Tryd.prog 16 #[.pointer (some ⟨w.heap.size + 1, 0, none⟩)] X fun r w' => ((wOpenS s).2 = 0 ∧ ∃ lb, r = .returned (.tuple #[.pointer (some ⟨lb, 0, none⟩), .int .i64 0]) ∧ Lw w' w lb (wOpenS s).1) ∨ ((wOpenS s).2 ≠ 0 ∧ r = .returned (.tuple #[.pointer none, .int .i64 (wOpenS s).2]) ∧ Sd w' w (wOpenS s).1.d) := by
  obtain ⟨O, hD⟩ := h.dk
  refine (wopen_any w.heap.size (w.heap.size + 1) s O X hD h.bel.size (hE.on h.bel hE.size) hE.size hz1 hz2).mono ?_
  rintro r w' (⟨h0, lb, O', v', l', rfl, h1, h2, h3⟩ | ⟨h0, rfl, O', h1, h3⟩)
  · exact .inl ⟨h0, lb, rfl, ⟨O', v', l', h1, h2⟩, h.bel.trans (h3.below (fun b hb => (hD.lt b hb).2) h.bel.size)⟩
  · exact .inr ⟨h0, rfl, ⟨O', h1⟩, h.bel.trans (h3.below (fun b hb => (hD.lt b hb).2) h.bel.size)⟩
end
end Go.Proofs.YtooiaadnhglifaaDoor
