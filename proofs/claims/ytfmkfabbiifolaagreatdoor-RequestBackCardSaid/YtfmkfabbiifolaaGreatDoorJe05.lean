/-
  Joined of: RckB, CtkB, TieB.
-/
import Derived.Test.YtfmkfabbiifolaaGreatDoorJc02
import Derived.Test.YtfmkfabbiifolaaGreatDoorJa14
import Derived.Test.YtfmkfabbiifolaaGreatDoorJa11
import Derived.Test.YtfmkfabbiifolaaGreatDoorJe04
import Derived.Test.YtfmkfabbiifolaaGreatDoorJa02
import Derived.Test.YtfmkfabbiifolaaGreatDoorJa10
set_option linter.unusedVariables false
set_option linter.unusedSimpArgs false
/-
  Contracts: the reference's Said, CheckLit, Literal.
-/
namespace Go.Proofs.YtfmkfabbiifolaaGreatDoor
open Go.RowKit

/-- a literal that came in, boxed -/
structure LS (l : Lp) (w wn : World) : Prop where
  b : Below w.heap.size w wn
  x : Bk wn w.heap.size 28 #[.int .u8 l.kind, .string l.who.v, .string l.who.s, .int .i64 l.who.n, .string l.pred, .slice l.ptr l.args.length l.cap]
  a : Tms wn wn.heap.size l.ptr l.args
theorem LS.on {l : Lp} {w wn w' : World} (h : LS l w wn) (hb : Below wn.heap.size wn w') : LS l w w' := ⟨h.b.trans (hb.mono h.b.size), h.x.on hb, h.a.grow hb⟩
theorem LS.start (l : Lp) (w : World) (h : Tms w w.heap.size l.ptr l.args) : LS l w (w.alloc (.cells #[.int .u8 l.kind, .string l.who.v, .string l.who.s, .int .i64 l.who.n, .string l.pred, .slice l.ptr l.args.length l.cap] 28)) :=
  ⟨below1 w _, Bk.new w _ _, h.grow (below1 w _)⟩

theorem ba_empty {v : ByteArray} (h : v.toList.isEmpty = true) : v = ⟨#[]⟩ := by
  rw [ByteArray.toList_eq] at h
  obtain ⟨⟨l⟩⟩ := v
  cases l with
  | nil => rfl
  | cons a r => simp at h
theorem ba_full {v : ByteArray} (h : v.toList.isEmpty = false) : (0 : Int) < (v.size : Int) ∧ 0 < v.size ∧ ¬ v = ByteArray.empty := by
  have h1 := size_posI.2 h
  exact ⟨h1, by omega, fun e => by rw [e] at h1; exact absurd h1 (by decide)⟩

set_option maxHeartbeats 8000000 in
set_option maxRecDepth 100000 in
theorem refsaid_any (l : Lp) (w : World) (hi : l.In w w.heap.size) :
    Calls Tryz.prog 103 #[l.agg] w fun e w' => e = .returned (.bool l.said) ∧ Below w.heap.size w w' := by
  have HS0 := Lib.hid (LS.start l w hi.args)
  have HO := Lib.hid (show ∀ X, _ from fun X => refown_any l.who X)
  have HT := Lib.hid (show ∀ X, _ from fun X => refterm_any l.who X hi.who)
  have HN := Lib.hid (show ∀ X, _ from fun X => refname_any l.pred X (Nat.le_trans hi.pred (by decide)))
  have HA := Lib.hid (show ∀ X, Tms X X.heap.size l.ptr l.args → Calls Tryz.prog 126 #[.slice l.ptr l.args.length l.cap] X fun e w' => e = .returned (.bool (l.args.all Tm.ok)) ∧ Below X.heap.size X w' from fun X hX => refterms_any l.ptr l.args l.cap X hX (Nat.le_trans hi.len (by decide)) hi.sz)
  have HR := Lib.hid (show l.said = ((l.who.none || (l.who.ok && (!l.who.v.toList.isEmpty || !l.who.s.toList.isEmpty))) && (nameB l.pred && (decide (l.args.length ≤ 4) && l.args.all Tm.ok))) from rfl)
  have hlen := hi.len
  unfold Lp.agg
  generalize l.said = R at *
  generalize l.who.none = no at *
  generalize l.who.ok = ok at *
  generalize nameB l.pred = nb at *
  generalize l.args.all Tm.ok = al at *
  clear hi
  obtain ⟨kd, ⟨v, s, n⟩, p, q, c, xs⟩ := l
  simp only at HS0 HO HT HN HA HR hlen ⊢
  have hq : (xs.length : Int) ≤ 4 ∨ ¬ (xs.length : Int) ≤ 4 := by omega
  cases no with
  | true =>
    cases nb with
    | false =>
      go_enter Tryz.func103, Tryz.ntmps103
      (go_wp2_with (first
        | (go_at_call 126; refine (HA.out _ (by first | exact HS2.out.a | exact HS1.out.a)).mono ?_; rintro e w3 ⟨rfl, hb3⟩; first | (have HS3 := Lib.hid (HS2.out.on hb3)) | (have HS3 := Lib.hid (HS1.out.on hb3)))
        | (go_at_call 33; refine (HN.out _).mono ?_; rintro e w' ⟨rfl, rfl⟩)
        | (go_at_call 128; refine (HT.out _).mono ?_; rintro e w2 ⟨rfl, hb2⟩; have HS2 := Lib.hid (HS1.out.on hb2); obtain ⟨y0, y1, y2, y3, y4, y5⟩ := HS2.out.x.six; clear hb2)
        | (go_at_call 100; refine (HO.out _).mono ?_; rintro e w1 ⟨rfl, hb1⟩; have HS1 := Lib.hid (HS0.out.on hb1); obtain ⟨x0, x1, x2, x3, x4, x5⟩ := HS1.out.x.six; clear hb1)))
      go_ret
      exact ⟨by rw [HR.out]; simp, by first | exact HS2.out.b | exact HS1.out.b⟩
    | true =>
      rcases hq with hq | hq
      · have HD := Lib.hid (show decide (xs.length ≤ 4) = true by simp; omega)
        go_enter Tryz.func103, Tryz.ntmps103
        (go_wp2_with (first
          | (go_at_call 126; refine (HA.out _ (by first | exact HS2.out.a | exact HS1.out.a)).mono ?_; rintro e w3 ⟨rfl, hb3⟩; first | (have HS3 := Lib.hid (HS2.out.on hb3)) | (have HS3 := Lib.hid (HS1.out.on hb3)))
          | (go_at_call 33; refine (HN.out _).mono ?_; rintro e w' ⟨rfl, rfl⟩)
          | (go_at_call 128; refine (HT.out _).mono ?_; rintro e w2 ⟨rfl, hb2⟩; have HS2 := Lib.hid (HS1.out.on hb2); obtain ⟨y0, y1, y2, y3, y4, y5⟩ := HS2.out.x.six; clear hb2)
          | (go_at_call 100; refine (HO.out _).mono ?_; rintro e w1 ⟨rfl, hb1⟩; have HS1 := Lib.hid (HS0.out.on hb1); obtain ⟨x0, x1, x2, x3, x4, x5⟩ := HS1.out.x.six; clear hb1)))
        go_ret
        exact ⟨by rw [HR.out, HD.out]; simp, HS3.out.b⟩
      · have HD := Lib.hid (show decide (xs.length ≤ 4) = false by simp; omega)
        go_enter Tryz.func103, Tryz.ntmps103
        (go_wp2_with (first
          | (go_at_call 126; refine (HA.out _ (by first | exact HS2.out.a | exact HS1.out.a)).mono ?_; rintro e w3 ⟨rfl, hb3⟩; first | (have HS3 := Lib.hid (HS2.out.on hb3)) | (have HS3 := Lib.hid (HS1.out.on hb3)))
          | (go_at_call 33; refine (HN.out _).mono ?_; rintro e w' ⟨rfl, rfl⟩)
          | (go_at_call 128; refine (HT.out _).mono ?_; rintro e w2 ⟨rfl, hb2⟩; have HS2 := Lib.hid (HS1.out.on hb2); obtain ⟨y0, y1, y2, y3, y4, y5⟩ := HS2.out.x.six; clear hb2)
          | (go_at_call 100; refine (HO.out _).mono ?_; rintro e w1 ⟨rfl, hb1⟩; have HS1 := Lib.hid (HS0.out.on hb1); obtain ⟨x0, x1, x2, x3, x4, x5⟩ := HS1.out.x.six; clear hb1)))
        go_ret
        exact ⟨by rw [HR.out, HD.out]; simp, by first | exact HS2.out.b | exact HS1.out.b⟩
  | false =>
  cases ok with
  | false =>
    go_enter Tryz.func103, Tryz.ntmps103
    (go_wp2_with (first
      | (go_at_call 126; refine (HA.out _ (by first | exact HS2.out.a | exact HS1.out.a)).mono ?_; rintro e w3 ⟨rfl, hb3⟩; first | (have HS3 := Lib.hid (HS2.out.on hb3)) | (have HS3 := Lib.hid (HS1.out.on hb3)))
      | (go_at_call 33; refine (HN.out _).mono ?_; rintro e w' ⟨rfl, rfl⟩)
      | (go_at_call 128; refine (HT.out _).mono ?_; rintro e w2 ⟨rfl, hb2⟩; have HS2 := Lib.hid (HS1.out.on hb2); obtain ⟨y0, y1, y2, y3, y4, y5⟩ := HS2.out.x.six; clear hb2)
      | (go_at_call 100; refine (HO.out _).mono ?_; rintro e w1 ⟨rfl, hb1⟩; have HS1 := Lib.hid (HS0.out.on hb1); obtain ⟨x0, x1, x2, x3, x4, x5⟩ := HS1.out.x.six; clear hb1)))
    go_ret
    exact ⟨by rw [HR.out]; simp, by first | exact HS2.out.b | exact HS1.out.b⟩
  | true =>
  cases h0 : v.toList.isEmpty with
  | false =>
    obtain ⟨g0, g1, g2⟩ := ba_full h0
    rw [h0] at HR
    clear h0
    cases nb with
    | false =>
      go_enter Tryz.func103, Tryz.ntmps103
      (go_wp2_with (first
        | (go_at_call 126; refine (HA.out _ (by first | exact HS2.out.a | exact HS1.out.a)).mono ?_; rintro e w3 ⟨rfl, hb3⟩; first | (have HS3 := Lib.hid (HS2.out.on hb3)) | (have HS3 := Lib.hid (HS1.out.on hb3)))
        | (go_at_call 33; refine (HN.out _).mono ?_; rintro e w' ⟨rfl, rfl⟩)
        | (go_at_call 128; refine (HT.out _).mono ?_; rintro e w2 ⟨rfl, hb2⟩; have HS2 := Lib.hid (HS1.out.on hb2); obtain ⟨y0, y1, y2, y3, y4, y5⟩ := HS2.out.x.six; clear hb2)
        | (go_at_call 100; refine (HO.out _).mono ?_; rintro e w1 ⟨rfl, hb1⟩; have HS1 := Lib.hid (HS0.out.on hb1); obtain ⟨x0, x1, x2, x3, x4, x5⟩ := HS1.out.x.six; clear hb1)))
      go_ret
      exact ⟨by rw [HR.out]; simp, by first | exact HS2.out.b | exact HS1.out.b⟩
    | true =>
      rcases hq with hq | hq
      · have HD := Lib.hid (show decide (xs.length ≤ 4) = true by simp; omega)
        go_enter Tryz.func103, Tryz.ntmps103
        (go_wp2_with (first
          | (go_at_call 126; refine (HA.out _ (by first | exact HS2.out.a | exact HS1.out.a)).mono ?_; rintro e w3 ⟨rfl, hb3⟩; first | (have HS3 := Lib.hid (HS2.out.on hb3)) | (have HS3 := Lib.hid (HS1.out.on hb3)))
          | (go_at_call 33; refine (HN.out _).mono ?_; rintro e w' ⟨rfl, rfl⟩)
          | (go_at_call 128; refine (HT.out _).mono ?_; rintro e w2 ⟨rfl, hb2⟩; have HS2 := Lib.hid (HS1.out.on hb2); obtain ⟨y0, y1, y2, y3, y4, y5⟩ := HS2.out.x.six; clear hb2)
          | (go_at_call 100; refine (HO.out _).mono ?_; rintro e w1 ⟨rfl, hb1⟩; have HS1 := Lib.hid (HS0.out.on hb1); obtain ⟨x0, x1, x2, x3, x4, x5⟩ := HS1.out.x.six; clear hb1)))
        go_ret
        exact ⟨by rw [HR.out, HD.out]; simp, HS3.out.b⟩
      · have HD := Lib.hid (show decide (xs.length ≤ 4) = false by simp; omega)
        go_enter Tryz.func103, Tryz.ntmps103
        (go_wp2_with (first
          | (go_at_call 126; refine (HA.out _ (by first | exact HS2.out.a | exact HS1.out.a)).mono ?_; rintro e w3 ⟨rfl, hb3⟩; first | (have HS3 := Lib.hid (HS2.out.on hb3)) | (have HS3 := Lib.hid (HS1.out.on hb3)))
          | (go_at_call 33; refine (HN.out _).mono ?_; rintro e w' ⟨rfl, rfl⟩)
          | (go_at_call 128; refine (HT.out _).mono ?_; rintro e w2 ⟨rfl, hb2⟩; have HS2 := Lib.hid (HS1.out.on hb2); obtain ⟨y0, y1, y2, y3, y4, y5⟩ := HS2.out.x.six; clear hb2)
          | (go_at_call 100; refine (HO.out _).mono ?_; rintro e w1 ⟨rfl, hb1⟩; have HS1 := Lib.hid (HS0.out.on hb1); obtain ⟨x0, x1, x2, x3, x4, x5⟩ := HS1.out.x.six; clear hb1)))
        go_ret
        exact ⟨by rw [HR.out, HD.out]; simp, by first | exact HS2.out.b | exact HS1.out.b⟩
  | true =>
  obtain rfl := ba_empty h0
  clear h0
  have hz0 : (⟨#[]⟩ : ByteArray).toList.isEmpty = true := by rw [ByteArray.toList_eq]; rfl
  rw [hz0] at HR
  cases h1 : s.toList.isEmpty with
  | false =>
    obtain ⟨g0, g1, g2⟩ := ba_full h1
    rw [h1] at HR
    clear h1 hz0
    cases nb with
    | false =>
      go_enter Tryz.func103, Tryz.ntmps103
      (go_wp2_with (first
        | (go_at_call 126; refine (HA.out _ (by first | exact HS2.out.a | exact HS1.out.a)).mono ?_; rintro e w3 ⟨rfl, hb3⟩; first | (have HS3 := Lib.hid (HS2.out.on hb3)) | (have HS3 := Lib.hid (HS1.out.on hb3)))
        | (go_at_call 33; refine (HN.out _).mono ?_; rintro e w' ⟨rfl, rfl⟩)
        | (go_at_call 128; refine (HT.out _).mono ?_; rintro e w2 ⟨rfl, hb2⟩; have HS2 := Lib.hid (HS1.out.on hb2); obtain ⟨y0, y1, y2, y3, y4, y5⟩ := HS2.out.x.six; clear hb2)
        | (go_at_call 100; refine (HO.out _).mono ?_; rintro e w1 ⟨rfl, hb1⟩; have HS1 := Lib.hid (HS0.out.on hb1); obtain ⟨x0, x1, x2, x3, x4, x5⟩ := HS1.out.x.six; clear hb1)))
      go_ret
      exact ⟨by rw [HR.out]; simp, by first | exact HS2.out.b | exact HS1.out.b⟩
    | true =>
      rcases hq with hq | hq
      · have HD := Lib.hid (show decide (xs.length ≤ 4) = true by simp; omega)
        go_enter Tryz.func103, Tryz.ntmps103
        (go_wp2_with (first
          | (go_at_call 126; refine (HA.out _ (by first | exact HS2.out.a | exact HS1.out.a)).mono ?_; rintro e w3 ⟨rfl, hb3⟩; first | (have HS3 := Lib.hid (HS2.out.on hb3)) | (have HS3 := Lib.hid (HS1.out.on hb3)))
          | (go_at_call 33; refine (HN.out _).mono ?_; rintro e w' ⟨rfl, rfl⟩)
          | (go_at_call 128; refine (HT.out _).mono ?_; rintro e w2 ⟨rfl, hb2⟩; have HS2 := Lib.hid (HS1.out.on hb2); obtain ⟨y0, y1, y2, y3, y4, y5⟩ := HS2.out.x.six; clear hb2)
          | (go_at_call 100; refine (HO.out _).mono ?_; rintro e w1 ⟨rfl, hb1⟩; have HS1 := Lib.hid (HS0.out.on hb1); obtain ⟨x0, x1, x2, x3, x4, x5⟩ := HS1.out.x.six; clear hb1)))
        go_ret
        exact ⟨by rw [HR.out, HD.out]; simp, HS3.out.b⟩
      · have HD := Lib.hid (show decide (xs.length ≤ 4) = false by simp; omega)
        go_enter Tryz.func103, Tryz.ntmps103
        (go_wp2_with (first
          | (go_at_call 126; refine (HA.out _ (by first | exact HS2.out.a | exact HS1.out.a)).mono ?_; rintro e w3 ⟨rfl, hb3⟩; first | (have HS3 := Lib.hid (HS2.out.on hb3)) | (have HS3 := Lib.hid (HS1.out.on hb3)))
          | (go_at_call 33; refine (HN.out _).mono ?_; rintro e w' ⟨rfl, rfl⟩)
          | (go_at_call 128; refine (HT.out _).mono ?_; rintro e w2 ⟨rfl, hb2⟩; have HS2 := Lib.hid (HS1.out.on hb2); obtain ⟨y0, y1, y2, y3, y4, y5⟩ := HS2.out.x.six; clear hb2)
          | (go_at_call 100; refine (HO.out _).mono ?_; rintro e w1 ⟨rfl, hb1⟩; have HS1 := Lib.hid (HS0.out.on hb1); obtain ⟨x0, x1, x2, x3, x4, x5⟩ := HS1.out.x.six; clear hb1)))
        go_ret
        exact ⟨by rw [HR.out, HD.out]; simp, by first | exact HS2.out.b | exact HS1.out.b⟩
  | true =>
    obtain rfl := ba_empty h1
    rw [hz0] at HR
    clear h1 hz0
    go_enter Tryz.func103, Tryz.ntmps103
    (go_wp2_with (first
      | (go_at_call 126; refine (HA.out _ (by first | exact HS2.out.a | exact HS1.out.a)).mono ?_; rintro e w3 ⟨rfl, hb3⟩; first | (have HS3 := Lib.hid (HS2.out.on hb3)) | (have HS3 := Lib.hid (HS1.out.on hb3)))
      | (go_at_call 33; refine (HN.out _).mono ?_; rintro e w' ⟨rfl, rfl⟩)
      | (go_at_call 128; refine (HT.out _).mono ?_; rintro e w2 ⟨rfl, hb2⟩; have HS2 := Lib.hid (HS1.out.on hb2); obtain ⟨y0, y1, y2, y3, y4, y5⟩ := HS2.out.x.six; clear hb2)
      | (go_at_call 100; refine (HO.out _).mono ?_; rintro e w1 ⟨rfl, hb1⟩; have HS1 := Lib.hid (HS0.out.on hb1); obtain ⟨x0, x1, x2, x3, x4, x5⟩ := HS1.out.x.six; clear hb1)))
    go_ret
    exact ⟨by rw [HR.out]; simp, by first | exact HS2.out.b | exact HS1.out.b⟩
end Go.Proofs.YtfmkfabbiifolaaGreatDoor

/-
  Plain: a variable, a number, a term at a text's head is one token, and is read as it was.
-/
namespace Go.Proofs.YtfmkfabbiifolaaGreatDoor
open Go.RowKit

theorem dec_dig (u : Nat) : ∀ c ∈ Lib.decDigits u, 48 ≤ c.toNat ∧ c.toNat ≤ 57 := by
  induction u using Nat.strongRecOn with
  | _ u ih =>
    intro c hc
    rw [Lib.decDigits] at hc
    split at hc
    · rename_i h
      rw [List.mem_singleton.1 hc, dec_byte u h]
      omega
    · rename_i h
      rcases List.mem_append.1 hc with hc | hc
      · exact ih (u / 10) (by omega) c hc
      · rw [List.mem_singleton.1 hc, dec_byte (u % 10) (by omega)]
        omega
theorem dig_win {c : UInt8} (h : 48 ≤ c.toNat ∧ c.toNat ≤ 57) : winB (c.toNat : Int) = true ∧ digB (c.toNat : Int) = true := by
  have hd : digB (c.toNat : Int) = true := by
    simp only [digB, Bool.and_eq_true, decide_eq_true_eq]
    omega
  refine ⟨?_, hd⟩
  unfold winB lowB
  rw [hd]
  simp
theorem var_lx {v : ByteArray} (h : varB v = true) : v.data.toList ≠ [] ∧ (∀ r, stopX r → oneX (v.data.toList ++ r) = (0, 2, v.data.toList.length)) ∧ v.data.toList ∉ ClauseS.words := by
  rw [var_eq] at h
  have h2 : rvarL v.data.toList = true := h
  generalize v.data.toList = l at *
  unfold rvarL at h2
  simp only [Bool.and_eq_true, decide_eq_true_eq, List.all_eq_true] at h2
  obtain ⟨h3, h4, h5, h6⟩ := h2
  cases l with
  | nil => simp at h3
  | cons c b =>
    have hk : kindL (c :: b) = 2 := kindL_up h5 h4
    have hc := (upB_iff _).1 (show upB (c.toNat : Int) = true from h5)
    refine ⟨by simp, fun r hs => ?_, fun hm => ?_⟩
    · rw [one_piece c b r (h6 c List.mem_cons_self) (fun x hx => h6 x (List.mem_cons_of_mem _ hx)) hs (by rw [hk]; decide), hk]
    · simp only [ClauseS.words, List.mem_cons, List.not_mem_nil, or_false] at hm
      rcases hm with hm | hm | hm | hm | hm | hm | hm | hm | hm
      all_goals (injection hm with e _; rw [e] at hc; exact absurd hc (by decide))
theorem num_kind (n : Int) (h0 : -9223372036854775808 ≤ n) (h1 : n ≤ 9223372036854775807) (hh : ∃ c b, (itoaS n).data.toList = c :: b ∧ c.toNat ≤ 57) : kindL (itoaS n).data.toList = 3 := by
  obtain ⟨c, b, hl, hc⟩ := hh
  have hw : wordL (itoaS n).data.toList = false := by
    rw [hl]
    unfold wordL
    rw [Bool.or_eq_false_iff]
    refine ⟨beq_eq_false_iff_ne.2 fun e => ?_, beq_eq_false_iff_ne.2 fun e => ?_⟩
    · injection e with e _; rw [e] at hc; exact absurd hc (by decide)
    · injection e with e _; rw [e] at hc; exact absurd hc (by decide)
  have hu : upB (((itoaS n).data.toList.headD 0).toNat : Int) = false := by
    rw [hl]
    show upB (c.toNat : Int) = false
    simp only [upB, Bool.and_eq_false_iff, decide_eq_false_iff_not]
    omega
  have hn : nameL (itoaS n).data.toList = false := by rw [← nameB_eq]; exact name_itoa n
  have hr : (readN ⟨(itoaS n).data.toList.toArray⟩).isSome = true := by rw [mk_toList, readN_itoa n h0 h1]; rfl
  unfold kindL
  rw [hw, hu, hn, hr]
  rfl
theorem num_lx (n : Int) (h0 : -9223372036854775808 ≤ n) (h1 : n ≤ 9223372036854775807) : (itoaS n).data.toList ≠ [] ∧ (∀ r, stopX r → oneX ((itoaS n).data.toList ++ r) = (0, 3, (itoaS n).data.toList.length)) ∧ (itoaS n).data.toList ∉ ClauseS.words := by
  have e : (itoaS n).data.toList = Lib.itoa n := rfl
  by_cases hneg : n < 0
  · obtain ⟨d, b, hd, hd1, hd2⟩ := dec_head n.natAbs
    have hl : (itoaS n).data.toList = 45 :: d :: b := by rw [e]; unfold Lib.itoa; rw [if_pos hneg, hd]
    have hk := num_kind n h0 h1 ⟨45, d :: b, hl, by decide⟩
    have hall : ∀ x ∈ d :: b, winB (x.toNat : Int) = true := fun x hx => (dig_win (dec_dig n.natAbs x (hd ▸ hx))).1
    rw [hl] at hk ⊢
    refine ⟨by simp, fun r hs => ?_, fun hm => ?_⟩
    · rw [one_minus d b r (dig_win ⟨hd1, hd2⟩).2 hall hs (by rw [hk]; decide), hk]
    · simp only [ClauseS.words, List.mem_cons, List.not_mem_nil, or_false] at hm
      rcases hm with hm | hm | hm | hm | hm | hm | hm | hm | hm
      all_goals (injection hm with e _; exact absurd e (by decide))
  · obtain ⟨d, b, hd, hd1, hd2⟩ := dec_head n.toNat
    have hl : (itoaS n).data.toList = d :: b := by rw [e]; unfold Lib.itoa; rw [if_neg hneg, hd]
    have hk := num_kind n h0 h1 ⟨d, b, hl, hd2⟩
    have hall : ∀ x ∈ d :: b, winB (x.toNat : Int) = true := fun x hx => (dig_win (dec_dig n.toNat x (hd ▸ hx))).1
    rw [hl] at hk ⊢
    refine ⟨by simp, fun r hs => ?_, fun hm => ?_⟩
    · rw [one_piece d b r (hall d List.mem_cons_self) (fun x hx => hall x (List.mem_cons_of_mem _ hx)) hs (by rw [hk]; decide), hk]
    · simp only [ClauseS.words, List.mem_cons, List.not_mem_nil, or_false] at hm
      rcases hm with hm | hm | hm | hm | hm | hm | hm | hm | hm
      all_goals
        first
          | (injection hm with e2 e3; rw [e2] at hd1; exact absurd hd1 (by decide))
          | (injection hm with e2 e3; rw [e2] at hd2; exact absurd hd2 (by decide))
theorem dl_nil {v : ByteArray} : v.data.toList = [] ↔ v.toList.isEmpty = true := by
  rw [ByteArray.toList_eq]
  cases v.data.toList <;> simp
/-- a term that may be: its text is one token, and is read as the term -/
theorem tm_lx {t : Tm} (h : t.ok = true) (hn : t.Nb) : ClauseS.TmX tvL oneX stopX (tmL t) ∧ ClauseS.GoodT rdL tvL (tmL t) := by
  obtain ⟨v, s, n⟩ := t
  have h0 : -9223372036854775808 ≤ n := hn.1
  have h1 : n ≤ 9223372036854775807 := hn.2
  unfold Tm.ok termB at h
  simp only at h
  have hv : tvL s.data.toList n = (textS s n).data.toList := by unfold tvL; rw [mk_toList]
  cases he : v.toList.isEmpty with
  | false =>
    rw [he] at h
    simp only [Bool.false_eq_true, if_false, Bool.and_eq_true, beq_iff_eq] at h
    obtain ⟨⟨hs, rfl⟩, hvb⟩ := h
    obtain ⟨g1, g2, g3⟩ := var_lx hvb
    have e1 : ClauseS.textTm tvL (tmL ⟨v, s, 0⟩) = v.data.toList := by unfold ClauseS.textTm; exact if_pos g1
    have e2 : ClauseS.tkTm tvL (tmL ⟨v, s, 0⟩) = (2, v.data.toList) := by unfold ClauseS.tkTm; exact if_pos g1
    refine ⟨⟨by rw [e1]; exact g1, fun r hs => by rw [e1, e2]; exact g2 r hs⟩, ⟨fun _ => ⟨dl_nil.2 hs, rfl, g3⟩, fun h => absurd h g1⟩⟩
  | true =>
    rw [he] at h
    simp only [if_true] at h
    have hvn : v.data.toList = [] := dl_nil.2 he
    have e1 : ClauseS.textTm tvL (tmL ⟨v, s, n⟩) = (textS s n).data.toList := by
      unfold ClauseS.textTm
      show (if v.data.toList ≠ [] then v.data.toList else tvL s.data.toList n) = _
      rw [if_neg (show ¬ v.data.toList ≠ [] from fun h => h hvn)]
      exact hv
    cases hs : s.toList.isEmpty with
    | true =>
      obtain rfl := ba_empty hs
      have ht : textS ⟨#[]⟩ n = itoaS n := by unfold textS; rw [h, hs]; rfl
      obtain ⟨g1, g2, g3⟩ := num_lx n h0 h1
      have e2 : ClauseS.tkTm tvL (tmL ⟨v, ⟨#[]⟩, n⟩) = (3, (textS ⟨#[]⟩ n).data.toList) := by
        unfold ClauseS.tkTm
        show (if v.data.toList ≠ [] then _ else if ([] : List UInt8) ≠ [] then _ else ((3 : Int), tvL ([] : List UInt8) n)) = _
        rw [if_neg (show ¬ v.data.toList ≠ [] from fun h => h hvn), if_neg (show ¬ ([] : List UInt8) ≠ [] from fun h => h rfl)]
        exact congrArg _ hv
      rw [ht] at e1 e2 hv
      refine ⟨⟨by rw [e1]; exact g1, fun r hs => by rw [e1, e2]; exact g2 r hs⟩, ⟨fun h => absurd hvn h, fun _ => ⟨?_, ?_⟩⟩⟩
      · show rdL (tvL ([] : List UInt8) n) = ([], n)
        rw [show tvL ([] : List UInt8) n = (itoaS n).data.toList from hv]
        unfold rdL readP
        rw [mk_toList, name_itoa, readN_itoa n h0 h1]
        rfl
      · show tvL ([] : List UInt8) n ∉ _
        rw [show tvL ([] : List UInt8) n = (itoaS n).data.toList from hv]
        exact g3
    | false =>
      have hg := h
      unfold goodB at h
      rw [hs] at h
      simp only [Bool.false_or, Bool.and_eq_true, beq_iff_eq] at h
      obtain ⟨rfl, hnm⟩ := h
      have ht : textS s 0 = s := by unfold textS; rw [hg, hs]; rfl
      obtain ⟨⟨g1, g2⟩, g3⟩ := name_lx hnm
      have hsn : s.data.toList ≠ [] := fun h => by rw [dl_nil.1 h] at hs; cases hs
      have e2 : ClauseS.tkTm tvL (tmL ⟨v, s, 0⟩) = (1, (textS s 0).data.toList) := by
        unfold ClauseS.tkTm
        show (if v.data.toList ≠ [] then _ else if s.data.toList ≠ [] then ((1 : Int), tvL s.data.toList 0) else _) = _
        rw [if_neg (show ¬ v.data.toList ≠ [] from fun h => h hvn), if_pos (show s.data.toList ≠ [] from hsn)]
        exact congrArg _ hv
      rw [ht] at e1 e2 hv
      refine ⟨⟨by rw [e1]; exact g1, fun r hs => by rw [e1, e2]; exact g2 r hs⟩, ⟨fun h => absurd hvn h, fun _ => ⟨?_, ?_⟩⟩⟩
      · show rdL (tvL s.data.toList 0) = (s.data.toList, 0)
        rw [hv]
        unfold rdL readP
        rw [mk_toList, hnm]
        rfl
      · show tvL s.data.toList 0 ∉ _
        rw [hv]
        exact g3
end Go.Proofs.YtfmkfabbiifolaaGreatDoor

/-
  Plain: the parser's words over a token's number are those over what is left of the tokens: literals, clauses.
-/
namespace Go.Proofs.YtfmkfabbiifolaaGreatDoor
open Go.RowKit

def ltL (l : Lq) : ClauseS.Lt := ⟨l.kind, tmL l.who, l.pred.data.toList, l.args.map tmL⟩
def clL (c : Cq) : ClauseS.Cl := ⟨ltL c.head, c.body.map ltL⟩
theorem tmZ_L : tmL tmZ = ClauseS.tm0 := rfl
theorem said_tie (s : ByteArray) (ts : List Tok) (kd : Int) (k : Nat) :
    ClauseS.saidS rdL s.size kd ((txs s ts).drop k) = tieR ltL s ts (saidR s ts kd k) := by
  unfold ClauseS.saidS saidR
  rw [kind_tie, txt_tie, term_tie]
  have hw : ((textAt s ts (k + 1)).data.toList = ClauseS.wSays) ↔ textAt s ts (k + 1) = wdSays := word_tie _ _
  by_cases h : kindAt ts k = 2 ∨ (kindAt ts k = 1 ∧ textAt s ts (k + 1) = wdSays)
  · rw [if_pos h, if_pos (by rw [hw]; exact h)]
    have ht : isT ts k = true := by simp [isT]; rcases h with h | h <;> omega
    rw [if_pos ht]
    simp only
    rw [want_tie]
    by_cases h2 : textAt s ts (k + 1) = wdSays
    · rw [if_pos h2, if_pos (show textAt s ts (k + 1) = ⟨ClauseS.wSays.toArray⟩ from h2)]
      simp only
      rw [atom_tie]
      cases ha : atomR s ts (k + 1 + 1) with
      | error e => rfl
      | ok a => rfl
    · rw [if_neg h2, if_neg (show ¬ textAt s ts (k + 1) = ⟨ClauseS.wSays.toArray⟩ from h2)]; rfl
  · rw [if_neg h, if_neg (by rw [hw]; exact h), atom_tie]
    cases ha : atomR s ts k with
    | error e => rfl
    | ok a => rfl
theorem comp_tie (s : ByteArray) (ts : List Tok) (k : Nat) :
    ClauseS.compS rdL s.size ((txs s ts).drop k) = tieR ltL s ts (compR s ts k) := by
  unfold ClauseS.compS compR
  rw [term_tie]
  cases h1 : isT ts k with
  | false => rfl
  | true =>
    simp only [if_true]
    have e1 := txt_tie s ts (k + 1) 0
    rw [Nat.add_zero] at e1
    rw [e1, tail_tie, at_tie, term_tie]
    have hl : ((textAt s ts (k + 1)).data.toList = ClauseS.wLess) ↔ textAt s ts (k + 1) = wdLess := word_tie _ _
    have hu : ((textAt s ts (k + 1)).data.toList = ClauseS.wUnlike) ↔ textAt s ts (k + 1) = wdUnlike := word_tie _ _
    by_cases h2 : textAt s ts (k + 1) = wdLess
    · rw [if_pos h2, if_pos (hl.2 h2)]
      cases h3 : isT ts (k + 2) <;> simp [h3, tieR, ltL, tmZ_L] <;> rfl
    · rw [if_neg h2, if_neg (fun h => h2 (hl.1 h))]
      by_cases h4 : textAt s ts (k + 1) = wdUnlike
      · rw [if_pos h4, if_pos (hu.2 h4)]
        cases h3 : isT ts (k + 2) <;> simp [h3, tieR, ltL, tmZ_L] <;> rfl
      · rw [if_neg h4, if_neg (fun h => h4 (hu.1 h))]; rfl
theorem lit_tie (s : ByteArray) (ts : List Tok) (k : Nat) :
    ClauseS.literalS rdL s.size ((txs s ts).drop k) = tieR ltL s ts (litR s ts k) := by
  unfold ClauseS.literalS litR
  have e0 := txt_tie s ts k 0
  rw [Nat.add_zero] at e0
  rw [e0, txt_tie, kind_tie, tail_tie, said_tie, said_tie, comp_tie]
  have hn : ((textAt s ts k).data.toList = ClauseS.wNot) ↔ textAt s ts k = wdNot := word_tie _ _
  have hl : ((textAt s ts (k + 1)).data.toList = ClauseS.wLess) ↔ textAt s ts (k + 1) = wdLess := word_tie _ _
  have hu : ((textAt s ts (k + 1)).data.toList = ClauseS.wUnlike) ↔ textAt s ts (k + 1) = wdUnlike := word_tie _ _
  simp only [hn, hl, hu]
  split
  · rfl
  · split <;> rfl
theorem moreL_tie (s : ByteArray) (ts : List Tok) : ∀ (n : Nat) (acc : List Lq) (k : Nat),
    ClauseS.moreS s.size (ClauseS.literalS rdL s.size) n (acc.map ltL) ((txs s ts).drop k) = tieR (List.map ltL) s ts (moreL s ts n acc k)
  | 0, acc, k => by
    unfold ClauseS.moreS moreL
    rw [txt_tie, at_tie, Nat.add_zero]
    by_cases h : textAt s ts k = comma
    · rw [if_pos h, if_pos ((word_tie _ ClauseS.wComma).2 h)]; rfl
    · rw [if_neg h, if_neg (fun hx => h ((word_tie _ ClauseS.wComma).1 hx))]; rfl
  | n + 1, acc, k => by
    unfold ClauseS.moreS moreL
    rw [txt_tie, tail_tie, Nat.add_zero, lit_tie]
    by_cases h : textAt s ts k = comma
    · rw [if_pos h, if_pos ((word_tie _ ClauseS.wComma).2 h)]
      cases hk : litR s ts (k + 1) with
      | error e => rfl
      | ok a =>
        have := moreL_tie s ts n (acc ++ [a.1]) a.2
        rw [List.map_append] at this
        simpa [tieR] using this
    · rw [if_neg h, if_neg (fun hx => h ((word_tie _ ClauseS.wComma).1 hx))]; rfl
theorem listL_tie (s : ByteArray) (ts : List Tok) (k : Nat) :
    ClauseS.listS s.size (ClauseS.literalS rdL s.size) 6 ((txs s ts).drop k) = tieR (List.map ltL) s ts (listL s ts 5 k) := by
  unfold ClauseS.listS listL
  rw [lit_tie]
  cases hk : litR s ts k with
  | error e => rfl
  | ok a => simpa [tieR] using moreL_tie s ts 5 [a.1] a.2
theorem clause_tie (s : ByteArray) (ts : List Tok) (k : Nat) :
    ClauseS.clauseS rdL s.size ((txs s ts).drop k) = tieR clL s ts (clauseR s ts k) := by
  unfold ClauseS.clauseS clauseR
  rw [atom_tie]
  cases ha : atomR s ts k with
  | error e => rfl
  | ok a =>
    obtain ⟨a, k1⟩ := a
    simp only [tieR]
    have e0 := txt_tie s ts k1 0
    rw [Nat.add_zero] at e0
    rw [e0, tail_tie, listL_tie, want_tie]
    have hi : ((textAt s ts k1).data.toList = ClauseS.wIf) ↔ textAt s ts k1 = wdIf := word_tie _ _
    by_cases h1 : textAt s ts k1 = wdIf
    · rw [if_pos h1, if_pos (hi.2 h1)]
      cases hb : listL s ts 5 (k1 + 1) with
      | error e => rfl
      | ok b =>
        obtain ⟨b, k2⟩ := b
        simp only [tieR]
        rw [want_tie]
        by_cases h2 : textAt s ts k2 = wdDot
        · rw [if_pos h2, if_pos (show textAt s ts k2 = ⟨ClauseS.wDot.toArray⟩ from h2)]; rfl
        · rw [if_neg h2, if_neg (show ¬ textAt s ts k2 = ⟨ClauseS.wDot.toArray⟩ from h2)]
    · rw [if_neg h1, if_neg (fun h => h1 (hi.1 h))]
      by_cases h2 : textAt s ts k1 = wdDot
      · rw [if_pos h2, if_pos (show textAt s ts k1 = ⟨ClauseS.wDot.toArray⟩ from h2)]; rfl
      · rw [if_neg h2, if_neg (show ¬ textAt s ts k1 = ⟨ClauseS.wDot.toArray⟩ from h2)]
theorem whole_tie {α β : Type} (f : α → β) (s : ByteArray) (ts : List Tok) (one : List ClauseS.Tx → ClauseS.PR β) (R : Except (Int × Int) (α × Nat)) (h : one (txs s ts) = tieR f s ts R) :
    ClauseS.wholeS s.size one (txs s ts) = (match wholeR s ts R with
      | .ok x => .ok (f x)
      | .error e => .error e) := by
  unfold ClauseS.wholeS wholeR
  rw [h]
  cases R with
  | error e => rfl
  | ok x =>
    obtain ⟨x, k⟩ := x
    simp only [tieR]
    unfold ClauseS.endS
    rw [at_tie]
    by_cases hk : ts.length ≤ k
    · rw [if_pos hk, if_pos (by rw [List.drop_eq_nil_iff]; simpa [txs] using hk)]
    · rw [if_neg hk, if_neg (by rw [List.drop_eq_nil_iff]; simpa [txs] using hk)]
end Go.Proofs.YtfmkfabbiifolaaGreatDoor
