/-
  Joined of: RckB, RprB0.
-/
import Derived.Test.YtnjdganikeganaaGreatDoorJa37
import Derived.Test.YtnjdganikeganaaGreatDoorJa14
import Derived.Test.YtnjdganikeganaaGreatDoorJa11
set_option linter.unusedVariables false
set_option linter.unusedSimpArgs false
/-
  Contracts: the reference's Said, CheckLit, Literal.
-/
namespace Go.Proofs.YtnjdganikeganaaGreatDoor
open Go.RowKit

/-- a literal that came in, boxed -/
structure LS (l : Lp) (w wn : World) : Prop where
  b : Below w.heap.size w wn
  x : Bk wn w.heap.size 28 #[.int .u8 l.kind, .string l.who.v, .string l.who.s, .int .i64 l.who.n, .string l.pred, .slice l.ptr l.args.length l.cap]
  a : Tms wn wn.heap.size l.ptr l.args
theorem LS.on {l : Lp} {w wn w' : World} (h : LS l w wn) (hb : Below wn.heap.size wn w') : LS l w w' := ⟨h.b.trans (hb.mono h.b.size), h.x.on hb, h.a.grow hb⟩
theorem LS.start (l : Lp) (w : World) (h : Tms w w.heap.size l.ptr l.args) : LS l w (w.alloc (.cells #[.int .u8 l.kind, .string l.who.v, .string l.who.s, .int .i64 l.who.n, .string l.pred, .slice l.ptr l.args.length l.cap] 28)) :=
  ⟨below1 w _, Bk.new w _ _, h.grow (below1 w _)⟩

theorem ba_empty {v : ByteArray} (h : v.toList.isEmpty = true) : v = ⟨#[]⟩ := by
  rw [ByteArray.toList_eq] at h
  obtain ⟨⟨l⟩⟩ := v
  cases l with
  | nil => rfl
  | cons a r => simp at h
theorem ba_full {v : ByteArray} (h : v.toList.isEmpty = false) : (0 : Int) < (v.size : Int) ∧ 0 < v.size ∧ ¬ v = ByteArray.empty := by
  have h1 := size_posI.2 h
  exact ⟨h1, by omega, fun e => by rw [e] at h1; exact absurd h1 (by decide)⟩

set_option maxHeartbeats 8000000 in
set_option maxRecDepth 100000 in
theorem refsaid_any (l : Lp) (w : World) (hi : l.In w w.heap.size) :
    Calls Tryz.prog 76 #[l.agg] w fun e w' => e = .returned (.bool l.said) ∧ Below w.heap.size w w' := by
  have HS0 := Lib.hid (LS.start l w hi.args)
  have HO := Lib.hid (show ∀ X, _ from fun X => refown_any l.who X)
  have HT := Lib.hid (show ∀ X, _ from fun X => refterm_any l.who X hi.who)
  have HN := Lib.hid (show ∀ X, _ from fun X => refname_any l.pred X (Nat.le_trans hi.pred (by decide)))
  have HA := Lib.hid (show ∀ X, Tms X X.heap.size l.ptr l.args → Calls Tryz.prog 83 #[.slice l.ptr l.args.length l.cap] X fun e w' => e = .returned (.bool (l.args.all Tm.ok)) ∧ Below X.heap.size X w' from fun X hX => refterms_any l.ptr l.args l.cap X hX (Nat.le_trans hi.len (by decide)) hi.sz)
  have HR := Lib.hid (show l.said = ((l.who.none || (l.who.ok && (!l.who.v.toList.isEmpty || !l.who.s.toList.isEmpty))) && (nameB l.pred && (decide (l.args.length ≤ 4) && l.args.all Tm.ok))) from rfl)
  have hlen := hi.len
  unfold Lp.agg
  generalize l.said = R at *
  generalize l.who.none = no at *
  generalize l.who.ok = ok at *
  generalize nameB l.pred = nb at *
  generalize l.args.all Tm.ok = al at *
  clear hi
  obtain ⟨kd, ⟨v, s, n⟩, p, q, c, xs⟩ := l
  simp only at HS0 HO HT HN HA HR hlen ⊢
  have hq : (xs.length : Int) ≤ 4 ∨ ¬ (xs.length : Int) ≤ 4 := by omega
  cases no with
  | true =>
    cases nb with
    | false =>
      go_enter Tryz.func76, Tryz.ntmps76
      (go_wp2_with (first
        | (go_at_call 83; refine (HA.out _ (by first | exact HS2.out.a | exact HS1.out.a)).mono ?_; rintro e w3 ⟨rfl, hb3⟩; first | (have HS3 := Lib.hid (HS2.out.on hb3)) | (have HS3 := Lib.hid (HS1.out.on hb3)))
        | (go_at_call 98; refine (HN.out _).mono ?_; rintro e w' ⟨rfl, rfl⟩)
        | (go_at_call 97; refine (HT.out _).mono ?_; rintro e w2 ⟨rfl, hb2⟩; have HS2 := Lib.hid (HS1.out.on hb2); obtain ⟨y0, y1, y2, y3, y4, y5⟩ := HS2.out.x.six; clear hb2)
        | (go_at_call 54; refine (HO.out _).mono ?_; rintro e w1 ⟨rfl, hb1⟩; have HS1 := Lib.hid (HS0.out.on hb1); obtain ⟨x0, x1, x2, x3, x4, x5⟩ := HS1.out.x.six; clear hb1)))
      go_ret
      exact ⟨by rw [HR.out]; simp, by first | exact HS2.out.b | exact HS1.out.b⟩
    | true =>
      rcases hq with hq | hq
      · have HD := Lib.hid (show decide (xs.length ≤ 4) = true by simp; omega)
        go_enter Tryz.func76, Tryz.ntmps76
        (go_wp2_with (first
          | (go_at_call 83; refine (HA.out _ (by first | exact HS2.out.a | exact HS1.out.a)).mono ?_; rintro e w3 ⟨rfl, hb3⟩; first | (have HS3 := Lib.hid (HS2.out.on hb3)) | (have HS3 := Lib.hid (HS1.out.on hb3)))
          | (go_at_call 98; refine (HN.out _).mono ?_; rintro e w' ⟨rfl, rfl⟩)
          | (go_at_call 97; refine (HT.out _).mono ?_; rintro e w2 ⟨rfl, hb2⟩; have HS2 := Lib.hid (HS1.out.on hb2); obtain ⟨y0, y1, y2, y3, y4, y5⟩ := HS2.out.x.six; clear hb2)
          | (go_at_call 54; refine (HO.out _).mono ?_; rintro e w1 ⟨rfl, hb1⟩; have HS1 := Lib.hid (HS0.out.on hb1); obtain ⟨x0, x1, x2, x3, x4, x5⟩ := HS1.out.x.six; clear hb1)))
        go_ret
        exact ⟨by rw [HR.out, HD.out]; simp, HS3.out.b⟩
      · have HD := Lib.hid (show decide (xs.length ≤ 4) = false by simp; omega)
        go_enter Tryz.func76, Tryz.ntmps76
        (go_wp2_with (first
          | (go_at_call 83; refine (HA.out _ (by first | exact HS2.out.a | exact HS1.out.a)).mono ?_; rintro e w3 ⟨rfl, hb3⟩; first | (have HS3 := Lib.hid (HS2.out.on hb3)) | (have HS3 := Lib.hid (HS1.out.on hb3)))
          | (go_at_call 98; refine (HN.out _).mono ?_; rintro e w' ⟨rfl, rfl⟩)
          | (go_at_call 97; refine (HT.out _).mono ?_; rintro e w2 ⟨rfl, hb2⟩; have HS2 := Lib.hid (HS1.out.on hb2); obtain ⟨y0, y1, y2, y3, y4, y5⟩ := HS2.out.x.six; clear hb2)
          | (go_at_call 54; refine (HO.out _).mono ?_; rintro e w1 ⟨rfl, hb1⟩; have HS1 := Lib.hid (HS0.out.on hb1); obtain ⟨x0, x1, x2, x3, x4, x5⟩ := HS1.out.x.six; clear hb1)))
        go_ret
        exact ⟨by rw [HR.out, HD.out]; simp, by first | exact HS2.out.b | exact HS1.out.b⟩
  | false =>
  cases ok with
  | false =>
    go_enter Tryz.func76, Tryz.ntmps76
    (go_wp2_with (first
      | (go_at_call 83; refine (HA.out _ (by first | exact HS2.out.a | exact HS1.out.a)).mono ?_; rintro e w3 ⟨rfl, hb3⟩; first | (have HS3 := Lib.hid (HS2.out.on hb3)) | (have HS3 := Lib.hid (HS1.out.on hb3)))
      | (go_at_call 98; refine (HN.out _).mono ?_; rintro e w' ⟨rfl, rfl⟩)
      | (go_at_call 97; refine (HT.out _).mono ?_; rintro e w2 ⟨rfl, hb2⟩; have HS2 := Lib.hid (HS1.out.on hb2); obtain ⟨y0, y1, y2, y3, y4, y5⟩ := HS2.out.x.six; clear hb2)
      | (go_at_call 54; refine (HO.out _).mono ?_; rintro e w1 ⟨rfl, hb1⟩; have HS1 := Lib.hid (HS0.out.on hb1); obtain ⟨x0, x1, x2, x3, x4, x5⟩ := HS1.out.x.six; clear hb1)))
    go_ret
    exact ⟨by rw [HR.out]; simp, by first | exact HS2.out.b | exact HS1.out.b⟩
  | true =>
  cases h0 : v.toList.isEmpty with
  | false =>
    obtain ⟨g0, g1, g2⟩ := ba_full h0
    rw [h0] at HR
    clear h0
    cases nb with
    | false =>
      go_enter Tryz.func76, Tryz.ntmps76
      (go_wp2_with (first
        | (go_at_call 83; refine (HA.out _ (by first | exact HS2.out.a | exact HS1.out.a)).mono ?_; rintro e w3 ⟨rfl, hb3⟩; first | (have HS3 := Lib.hid (HS2.out.on hb3)) | (have HS3 := Lib.hid (HS1.out.on hb3)))
        | (go_at_call 98; refine (HN.out _).mono ?_; rintro e w' ⟨rfl, rfl⟩)
        | (go_at_call 97; refine (HT.out _).mono ?_; rintro e w2 ⟨rfl, hb2⟩; have HS2 := Lib.hid (HS1.out.on hb2); obtain ⟨y0, y1, y2, y3, y4, y5⟩ := HS2.out.x.six; clear hb2)
        | (go_at_call 54; refine (HO.out _).mono ?_; rintro e w1 ⟨rfl, hb1⟩; have HS1 := Lib.hid (HS0.out.on hb1); obtain ⟨x0, x1, x2, x3, x4, x5⟩ := HS1.out.x.six; clear hb1)))
      go_ret
      exact ⟨by rw [HR.out]; simp, by first | exact HS2.out.b | exact HS1.out.b⟩
    | true =>
      rcases hq with hq | hq
      · have HD := Lib.hid (show decide (xs.length ≤ 4) = true by simp; omega)
        go_enter Tryz.func76, Tryz.ntmps76
        (go_wp2_with (first
          | (go_at_call 83; refine (HA.out _ (by first | exact HS2.out.a | exact HS1.out.a)).mono ?_; rintro e w3 ⟨rfl, hb3⟩; first | (have HS3 := Lib.hid (HS2.out.on hb3)) | (have HS3 := Lib.hid (HS1.out.on hb3)))
          | (go_at_call 98; refine (HN.out _).mono ?_; rintro e w' ⟨rfl, rfl⟩)
          | (go_at_call 97; refine (HT.out _).mono ?_; rintro e w2 ⟨rfl, hb2⟩; have HS2 := Lib.hid (HS1.out.on hb2); obtain ⟨y0, y1, y2, y3, y4, y5⟩ := HS2.out.x.six; clear hb2)
          | (go_at_call 54; refine (HO.out _).mono ?_; rintro e w1 ⟨rfl, hb1⟩; have HS1 := Lib.hid (HS0.out.on hb1); obtain ⟨x0, x1, x2, x3, x4, x5⟩ := HS1.out.x.six; clear hb1)))
        go_ret
        exact ⟨by rw [HR.out, HD.out]; simp, HS3.out.b⟩
      · have HD := Lib.hid (show decide (xs.length ≤ 4) = false by simp; omega)
        go_enter Tryz.func76, Tryz.ntmps76
        (go_wp2_with (first
          | (go_at_call 83; refine (HA.out _ (by first | exact HS2.out.a | exact HS1.out.a)).mono ?_; rintro e w3 ⟨rfl, hb3⟩; first | (have HS3 := Lib.hid (HS2.out.on hb3)) | (have HS3 := Lib.hid (HS1.out.on hb3)))
          | (go_at_call 98; refine (HN.out _).mono ?_; rintro e w' ⟨rfl, rfl⟩)
          | (go_at_call 97; refine (HT.out _).mono ?_; rintro e w2 ⟨rfl, hb2⟩; have HS2 := Lib.hid (HS1.out.on hb2); obtain ⟨y0, y1, y2, y3, y4, y5⟩ := HS2.out.x.six; clear hb2)
          | (go_at_call 54; refine (HO.out _).mono ?_; rintro e w1 ⟨rfl, hb1⟩; have HS1 := Lib.hid (HS0.out.on hb1); obtain ⟨x0, x1, x2, x3, x4, x5⟩ := HS1.out.x.six; clear hb1)))
        go_ret
        exact ⟨by rw [HR.out, HD.out]; simp, by first | exact HS2.out.b | exact HS1.out.b⟩
  | true =>
  obtain rfl := ba_empty h0
  clear h0
  have hz0 : (⟨#[]⟩ : ByteArray).toList.isEmpty = true := by rw [ByteArray.toList_eq]; rfl
  rw [hz0] at HR
  cases h1 : s.toList.isEmpty with
  | false =>
    obtain ⟨g0, g1, g2⟩ := ba_full h1
    rw [h1] at HR
    clear h1 hz0
    cases nb with
    | false =>
      go_enter Tryz.func76, Tryz.ntmps76
      (go_wp2_with (first
        | (go_at_call 83; refine (HA.out _ (by first | exact HS2.out.a | exact HS1.out.a)).mono ?_; rintro e w3 ⟨rfl, hb3⟩; first | (have HS3 := Lib.hid (HS2.out.on hb3)) | (have HS3 := Lib.hid (HS1.out.on hb3)))
        | (go_at_call 98; refine (HN.out _).mono ?_; rintro e w' ⟨rfl, rfl⟩)
        | (go_at_call 97; refine (HT.out _).mono ?_; rintro e w2 ⟨rfl, hb2⟩; have HS2 := Lib.hid (HS1.out.on hb2); obtain ⟨y0, y1, y2, y3, y4, y5⟩ := HS2.out.x.six; clear hb2)
        | (go_at_call 54; refine (HO.out _).mono ?_; rintro e w1 ⟨rfl, hb1⟩; have HS1 := Lib.hid (HS0.out.on hb1); obtain ⟨x0, x1, x2, x3, x4, x5⟩ := HS1.out.x.six; clear hb1)))
      go_ret
      exact ⟨by rw [HR.out]; simp, by first | exact HS2.out.b | exact HS1.out.b⟩
    | true =>
      rcases hq with hq | hq
      · have HD := Lib.hid (show decide (xs.length ≤ 4) = true by simp; omega)
        go_enter Tryz.func76, Tryz.ntmps76
        (go_wp2_with (first
          | (go_at_call 83; refine (HA.out _ (by first | exact HS2.out.a | exact HS1.out.a)).mono ?_; rintro e w3 ⟨rfl, hb3⟩; first | (have HS3 := Lib.hid (HS2.out.on hb3)) | (have HS3 := Lib.hid (HS1.out.on hb3)))
          | (go_at_call 98; refine (HN.out _).mono ?_; rintro e w' ⟨rfl, rfl⟩)
          | (go_at_call 97; refine (HT.out _).mono ?_; rintro e w2 ⟨rfl, hb2⟩; have HS2 := Lib.hid (HS1.out.on hb2); obtain ⟨y0, y1, y2, y3, y4, y5⟩ := HS2.out.x.six; clear hb2)
          | (go_at_call 54; refine (HO.out _).mono ?_; rintro e w1 ⟨rfl, hb1⟩; have HS1 := Lib.hid (HS0.out.on hb1); obtain ⟨x0, x1, x2, x3, x4, x5⟩ := HS1.out.x.six; clear hb1)))
        go_ret
        exact ⟨by rw [HR.out, HD.out]; simp, HS3.out.b⟩
      · have HD := Lib.hid (show decide (xs.length ≤ 4) = false by simp; omega)
        go_enter Tryz.func76, Tryz.ntmps76
        (go_wp2_with (first
          | (go_at_call 83; refine (HA.out _ (by first | exact HS2.out.a | exact HS1.out.a)).mono ?_; rintro e w3 ⟨rfl, hb3⟩; first | (have HS3 := Lib.hid (HS2.out.on hb3)) | (have HS3 := Lib.hid (HS1.out.on hb3)))
          | (go_at_call 98; refine (HN.out _).mono ?_; rintro e w' ⟨rfl, rfl⟩)
          | (go_at_call 97; refine (HT.out _).mono ?_; rintro e w2 ⟨rfl, hb2⟩; have HS2 := Lib.hid (HS1.out.on hb2); obtain ⟨y0, y1, y2, y3, y4, y5⟩ := HS2.out.x.six; clear hb2)
          | (go_at_call 54; refine (HO.out _).mono ?_; rintro e w1 ⟨rfl, hb1⟩; have HS1 := Lib.hid (HS0.out.on hb1); obtain ⟨x0, x1, x2, x3, x4, x5⟩ := HS1.out.x.six; clear hb1)))
        go_ret
        exact ⟨by rw [HR.out, HD.out]; simp, by first | exact HS2.out.b | exact HS1.out.b⟩
  | true =>
    obtain rfl := ba_empty h1
    rw [hz0] at HR
    clear h1 hz0
    go_enter Tryz.func76, Tryz.ntmps76
    (go_wp2_with (first
      | (go_at_call 83; refine (HA.out _ (by first | exact HS2.out.a | exact HS1.out.a)).mono ?_; rintro e w3 ⟨rfl, hb3⟩; first | (have HS3 := Lib.hid (HS2.out.on hb3)) | (have HS3 := Lib.hid (HS1.out.on hb3)))
      | (go_at_call 98; refine (HN.out _).mono ?_; rintro e w' ⟨rfl, rfl⟩)
      | (go_at_call 97; refine (HT.out _).mono ?_; rintro e w2 ⟨rfl, hb2⟩; have HS2 := Lib.hid (HS1.out.on hb2); obtain ⟨y0, y1, y2, y3, y4, y5⟩ := HS2.out.x.six; clear hb2)
      | (go_at_call 54; refine (HO.out _).mono ?_; rintro e w1 ⟨rfl, hb1⟩; have HS1 := Lib.hid (HS0.out.on hb1); obtain ⟨x0, x1, x2, x3, x4, x5⟩ := HS1.out.x.six; clear hb1)))
    go_ret
    exact ⟨by rw [HR.out]; simp, by first | exact HS2.out.b | exact HS1.out.b⟩
end Go.Proofs.YtnjdganikeganaaGreatDoor

/-
  Plain: a literal's text, term by term.
-/
namespace Go.Proofs.YtnjdganikeganaaGreatDoor
open Go.RowKit

theorem foldX_pre (f p : ByteArray) : ∀ (r : List ByteArray) (o : ByteArray) (j : Nat), p ++ foldX f o j r = foldX f (p ++ o) j r
  | [], o, j => rfl
  | x :: r, o, j => by
    rw [foldX, foldX, foldX_pre f p r]
    unfold addX
    rw [ba_assoc, ba_assoc, ba_assoc p o]
/-- what stands ahead of a literal's terms -/
def Lp.pre (l : Lp) : ByteArray := (if l.kind = 2 then wdNotB else ⟨#[]⟩) ++ (if l.who.none then l.pred else (l.who.txt ++ wdSaid) ++ l.pred)
theorem lit_fold (l : Lp) (h3 : l.kind ≠ 3) (h4 : l.kind ≠ 4) : l.litT = if l.args.length = 0 then foldX ⟨#[40]⟩ l.pre 0 (l.args.map Tm.txt) else foldX ⟨#[40]⟩ l.pre 0 (l.args.map Tm.txt) ++ ⟨#[41]⟩ := by
  unfold Lp.litT Lp.pre Lp.saidT
  rw [argsT_fold, if_neg h3, if_neg h4]
  by_cases h2 : l.kind = 2
  · rw [if_pos h2, if_pos h2]
    split
    · rw [foldX_pre]
    · rw [← ba_assoc, foldX_pre]
  · rw [if_neg h2, if_neg h2, ba_nil]

end Go.Proofs.YtnjdganikeganaaGreatDoor
