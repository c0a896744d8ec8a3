/-
  Joined of: Rqe, Rqg, Rqk.
-/
import Derived.Test.YtfmkfabbiifolaaGreatDoorJa21
import Derived.Deep.MidRow
import Derived.Laws.ResultCell
set_option linter.unusedVariables false
set_option linter.unusedSimpArgs false
/-
  What the closures of leads come to.
-/
set_option linter.unusedVariables false
set_option linter.unusedSimpArgs false
namespace Go.Proofs.YtfmkfabbiifolaaGreatDoor
open Go.RowKit

theorem first_stuck {er : Int} (h : er ≠ 0) (a e at_ : Int) : firstW er a e at_ = (at_, er) := if_neg h
theorem first_none (a e at_ : Int) : firstW 0 a e at_ = (a, e) := if_pos rfl
section
variable {w : World} {rb : Nat} {s : ByteArray} {q : Option Addr} {c : Nat} {ts : List Tok} {k : Nat} {at_ er : Int}
theorem rlife_stuck (h : Rb w rb s q c ts k at_ er) (he : er ≠ 0) :
    Calls Tryz.prog 45 #[.pointer (some ⟨rb, 0, none⟩)] w fun e w' => ∃ (lf : Int) (k2 : Nat), e = .returned (.int .i64 lf) ∧ True ∧ Rb w' rb s q c ts k2 at_ er ∧ Only rb w w' := by
  by_cases hf : forB s ts k
  · refine (rlife_yes w rb s q c ts k at_ er h hf).mono fun e w' ⟨h1, h2, h3⟩ => ⟨numR (textAt s ts (k + 1)), (if numR (textAt s ts (k + 1)) = 0 then k + 1 else k + 1 + 1), h1, trivial, ?_, h3⟩
    rw [first_stuck he, ite_self, ite_self] at h2
    exact h2
  · refine (rlife_no w rb s q c ts k at_ er h hf).mono fun e w' ⟨h1, h2⟩ => ⟨0, k, h1, trivial, h.on h2, Only.of h2⟩
theorem restC_stuck (h : Rb w rb s q c ts k at_ er) (he : er ≠ 0) :
    Calls Tryz.prog 46 #[.pointer (some ⟨rb, 0, none⟩), .func (.func 47) #[] #[]] w fun e w' => ∃ cl : Kp, e = .returned cl.agg ∧ True ∧ Rb w' rb s q c ts k at_ er ∧ Only rb w w' := by
  refine (restC_any w rb s q c ts k at_ er h).mono fun e w' hp => ?_
  unfold RestPost at hp
  generalize parseR (tailS s (placeAt s ts k)) = R at *
  match R, hp with
  | .ok x, hp =>
    obtain ⟨cl, _, h1, _, _, h2⟩ := hp
    exact ⟨cl, h1, trivial, h.on h2, Only.of h2⟩
  | .error (n, p), hp =>
    obtain ⟨h1, h2, h3⟩ := hp
    rw [first_stuck he] at h2
    exact ⟨kpZ, h1, trivial, h2, h3⟩
end
/-- what a request's cells are the cells of -/
def ReqMem (w : World) (B : Nat) (r : Req) (cs : Array Value) : Prop := match r with
  | .ass lb lf x => ∃ cl : Kp, cl.q = x ∧ cs = rqC 1 lb lf cl 0 lpZ ∧ ClMem w cl ∧ ClFar B cl
  | .rev n => cs = rqC 2 ⟨#[]⟩ 0 kpZ n lpZ
  | .ask kd x => ∃ qx cx, cs = rqC kd ⟨#[]⟩ 0 kpZ 0 (x.at qx cx) ∧ Tms w w.heap.size qx x.args ∧ ∀ b, qx = some b → B ≤ b.block
  | .aud => cs = rqC 5 ⟨#[]⟩ 0 kpZ 0 lpZ
/-- how a closure ends -/
def LeadPost (X : World) (rb qb xr xq : Nat) (s : ByteArray) (q : Option Addr) (c : Nat) (ts : List Tok) (R : Except (Int × Int) Req) (e : Ending) (w' : World) : Prop := e = .returned (.tuple #[]) ∧ match R with
  | .error (n, p) => n ≠ 0 ∧ ∃ k cs, LD X rb qb xr xq s q c ts k p n cs w'
  | .ok r => ∃ k cs, LD X rb qb xr xq s q c ts k 0 0 cs w' ∧ ReqMem w' X.heap.size r cs
section
variable {X : World} {rb qb xr xq : Nat} {s : ByteArray} {q : Option Addr} {c : Nat} {ts : List Tok}
theorem assR_bad (h1 : kindAt ts 1 ≠ 1) : assR s ts = .error (6, placeAt s ts 1) := if_pos h1
theorem assR_num (h1 : kindAt ts 1 = 1) (h2 : forB s ts 2) (h3 : numR (textAt s ts 3) = 0) : assR s ts = .error (6, placeAt s ts 3) := by
  unfold assR
  rw [if_neg (by simp [h1]), if_pos (show textAt s ts 2 = wdFor ∧ kindAt ts 3 = 3 from h2), if_pos h3]
theorem assR_for (h1 : kindAt ts 1 = 1) (h2 : forB s ts 2) (h3 : numR (textAt s ts 3) ≠ 0) : assR s ts = restC s (placeAt s ts 4) (.ass (textAt s ts 1) (numR (textAt s ts 3))) := by
  unfold assR
  rw [if_neg (by simp [h1]), if_pos (show textAt s ts 2 = wdFor ∧ kindAt ts 3 = 3 from h2), if_neg h3]
theorem assR_no (h1 : kindAt ts 1 = 1) (h2 : ¬ forB s ts 2) : assR s ts = restC s (placeAt s ts 2) (.ass (textAt s ts 1) 0) := by
  unfold assR
  rw [if_neg (by simp [h1])]
  exact if_neg h2
theorem lead1_rest (hL : LD X rb qb xr xq s q c ts 1 0 0 (rqC 0 ⟨#[]⟩ 0 kpZ 0 lpZ) X) (hk : kindAt ts 1 = 1) (lf : Int) (k2 : Nat)
    (hF : ∀ W, Rb W rb s q c ts 2 0 0 → Calls Tryz.prog 45 #[.pointer (some ⟨rb, 0, none⟩)] W fun e w' => ∃ lf' k2', e = .returned (.int .i64 lf') ∧ (lf' = lf ∧ k2' = k2) ∧ Rb w' rb s q c ts k2' 0 0 ∧ Only rb W w') :
    Calls Tryz.prog 43 #[.pointer (some ⟨xq, 0, none⟩), .pointer (some ⟨xr, 0, none⟩)] X (LeadPost X rb qb xr xq s q c ts (restC s (placeAt s ts k2) (.ass (textAt s ts 1) lf))) := by
  have hN : ∀ W, Rb W rb s q c ts 1 0 0 → Calls Tryz.prog 44 #[.pointer (some ⟨rb, 0, none⟩)] W fun e w' => e = .returned (.string (textAt s ts 1)) ∧ Rb w' rb s q c ts 2 0 0 ∧ Only rb W w' := fun W hW =>
    (rname_any W rb s q c ts 1 0 0 hW).mono fun e w' ⟨h1, h2, h3⟩ => by
      rw [if_pos hk] at h1
      rw [if_pos hk, if_pos hk, if_pos hk] at h2
      exact ⟨h1, h2, h3⟩
  obtain ⟨l1, l2, l3⟩ := hL.l
  have hxq := hL.bq.lt
  unfold restC LeadPost
  cases hR : parseR (tailS s (placeAt s ts k2)) with
  | error np =>
    obtain ⟨n, p⟩ := np
    have hn := parseR_ne hR
    refine (lead1_walk X rb qb xr xq s q c ts hL (textAt s ts 1) 2 0 0 0 0 (placeAt s ts k2 + p) n (fun lf' k2' => lf' = lf ∧ k2' = k2) (fun _ _ _ => True) hN hF (fun W lf' k2' hlp hW => ?_)).mono fun e w' ⟨h1, lf', k2', cl, W7, W8, hlp, _, _, _, _, hD⟩ => ⟨h1, hn, _, _, hD⟩
    obtain ⟨rfl, rfl⟩ := hlp
    refine (restC_any W rb s q c ts k2' 0 0 hW).mono fun e w' hp => ?_
    rw [hR] at hp
    obtain ⟨h1, h2, h3⟩ := hp
    rw [first_none] at h2
    exact ⟨kpZ, h1, trivial, h2, h3⟩
  | ok x =>
    refine (lead1_walk X rb qb xr xq s q c ts hL (textAt s ts 1) 2 0 0 0 0 0 0 (fun lf' k2' => lf' = lf ∧ k2' = k2) (fun W cl w' => cl.q = x ∧ ClMem w' cl ∧ ClFar W.heap.size cl) hN hF (fun W lf' k2' hlp hW => ?_)).mono fun e w' ⟨h1, lf', k2', cl, W7, W8, ⟨hlp1, hlp2⟩, hs, ⟨hc1, hc2, hc3⟩, ha, hs2, hD⟩ => ⟨h1, k2', _, hD, cl, hc1, by rw [hlp1], ?_, hc3.mono hs⟩
    · obtain ⟨rfl, rfl⟩ := hlp
      refine (restC_any W rb s q c ts k2' 0 0 hW).mono fun e w' hp => ?_
      rw [hR] at hp
      obtain ⟨cl, hq, h1, hm, hf, hb⟩ := hp
      exact ⟨cl, h1, ⟨hq, hm, hf⟩, hW.on hb, Only.of hb⟩
    · exact hc2.above (hc3.mono (by omega)) ha hs2
theorem lead1_any (hL : LD X rb qb xr xq s q c ts 1 0 0 (rqC 0 ⟨#[]⟩ 0 kpZ 0 lpZ) X) :
    Calls Tryz.prog 43 #[.pointer (some ⟨xq, 0, none⟩), .pointer (some ⟨xr, 0, none⟩)] X (LeadPost X rb qb xr xq s q c ts (assR s ts)) := by
  by_cases hk : kindAt ts 1 = 1
  · by_cases hf : forB s ts 2
    · by_cases hn : numR (textAt s ts 3) = 0
      · rw [assR_num hk hf hn]
        refine (lead1_walk X rb qb xr xq s q c ts hL (textAt s ts 1) 2 0 0 (placeAt s ts 3) 6 (placeAt s ts 3) 6 (fun _ _ => True) (fun _ _ _ => True) (fun W hW => ?_) (fun W hW => ?_) (fun W lf' k2' _ hW => restC_stuck hW (by decide))).mono fun e w' ⟨h1, lf', k2', cl, W7, W8, hlp, _, _, _, _, hD⟩ => ⟨h1, by decide, _, _, hD⟩
        · refine (rname_any W rb s q c ts 1 0 0 hW).mono fun e w' ⟨h1, h2, h3⟩ => ?_
          rw [if_pos hk] at h1
          rw [if_pos hk, if_pos hk, if_pos hk] at h2
          exact ⟨h1, h2, h3⟩
        · refine (rlife_yes W rb s q c ts 2 0 0 hW hf).mono fun e w' ⟨h1, h2, h3⟩ => ⟨numR (textAt s ts 3), 3, h1, trivial, ?_, h3⟩
          rw [if_pos hn, if_pos hn, if_pos hn, first_none] at h2
          exact h2
      · rw [assR_for hk hf hn]
        refine lead1_rest hL hk _ 4 fun W hW => (rlife_yes W rb s q c ts 2 0 0 hW hf).mono fun e w' ⟨h1, h2, h3⟩ => ⟨numR (textAt s ts 3), 4, h1, ⟨rfl, rfl⟩, ?_, h3⟩
        rw [if_neg hn, if_neg hn, if_neg hn] at h2
        exact h2
    · rw [assR_no hk hf]
      exact lead1_rest hL hk 0 2 fun W hW => (rlife_no W rb s q c ts 2 0 0 hW hf).mono fun e w' ⟨h1, h2⟩ => ⟨_, _, h1, ⟨rfl, rfl⟩, hW.on h2, Only.of h2⟩
  · rw [assR_bad hk]
    refine (lead1_walk X rb qb xr xq s q c ts hL ⟨#[]⟩ 1 (placeAt s ts 1) 6 (placeAt s ts 1) 6 (placeAt s ts 1) 6 (fun _ _ => True) (fun _ _ _ => True) (fun W hW => ?_) (fun W hW => rlife_stuck hW (by decide)) (fun W lf' k2' _ hW => restC_stuck hW (by decide))).mono fun e w' ⟨h1, lf', k2', cl, W7, W8, hlp, _, _, _, _, hD⟩ => ⟨h1, by decide, _, _, hD⟩
    refine (rname_any W rb s q c ts 1 0 0 hW).mono fun e w' ⟨h1, h2, h3⟩ => ?_
    rw [if_neg hk] at h1
    rw [if_neg hk, if_neg hk, if_neg hk, first_none] at h2
    exact ⟨h1, h2, h3⟩
theorem lead2_any (hL : LD X rb qb xr xq s q c ts 1 0 0 (rqC 0 ⟨#[]⟩ 0 kpZ 0 lpZ) X) :
    Calls Tryz.prog 48 #[.pointer (some ⟨xq, 0, none⟩), .pointer (some ⟨xr, 0, none⟩)] X (LeadPost X rb qb xr xq s q c ts (revR s ts)) := by
  unfold revR
  by_cases hn : numR (textAt s ts 1) = 0
  · rw [if_pos hn]
    refine (lead2_walk X rb qb xr xq s q c ts hL 0 1 (placeAt s ts 1) 6 (placeAt s ts 1) 6 (fun W hW => ?_) (fun W hW => ?_)).mono fun e w' ⟨h1, hD⟩ => ⟨h1, by decide, _, _, hD⟩
    · refine (rnumber_any W rb s q c ts 1 0 0 hW).mono fun e w' ⟨h1, h2, h3⟩ => ?_
      rw [hn] at h1
      rw [if_pos hn, if_pos hn, if_pos hn, first_none] at h2
      exact ⟨h1, h2, h3⟩
    · refine (rend_any W rb s q c ts 1 _ 6 hW).mono fun e w' ⟨h1, h2, h3⟩ => ⟨h1, ?_, h3⟩
      rw [first_stuck (by decide), ite_self, ite_self] at h2
      exact h2
  · rw [if_neg hn]
    have hN : ∀ W, Rb W rb s q c ts 1 0 0 → Calls Tryz.prog 49 #[.pointer (some ⟨rb, 0, none⟩)] W fun e w' => e = .returned (.int .i64 (numR (textAt s ts 1))) ∧ Rb w' rb s q c ts 2 0 0 ∧ Only rb W w' := fun W hW =>
      (rnumber_any W rb s q c ts 1 0 0 hW).mono fun e w' ⟨h1, h2, h3⟩ => by
        rw [if_neg hn, if_neg hn, if_neg hn] at h2
        exact ⟨h1, h2, h3⟩
    by_cases h2l : 2 < ts.length
    · rw [if_pos h2l]
      refine (lead2_walk X rb qb xr xq s q c ts hL _ 2 0 0 (placeAt s ts 2) 6 hN (fun W hW => ?_)).mono fun e w' ⟨h1, hD⟩ => ⟨h1, by decide, _, _, hD⟩
      refine (rend_any W rb s q c ts 2 _ 0 hW).mono fun e w' ⟨h1, h2, h3⟩ => ⟨h1, ?_, h3⟩
      rw [if_pos h2l, if_pos h2l, first_none] at h2
      exact h2
    · rw [if_neg h2l]
      refine (lead2_walk X rb qb xr xq s q c ts hL _ 2 0 0 0 0 hN (fun W hW => ?_)).mono fun e w' ⟨h1, hD⟩ => ⟨h1, _, _, hD, rfl⟩
      refine (rend_any W rb s q c ts 2 _ 0 hW).mono fun e w' ⟨h1, h2, h3⟩ => ⟨h1, ?_, h3⟩
      rw [if_neg h2l, if_neg h2l] at h2
      exact h2
theorem lead5_any (hL : LD X rb qb xr xq s q c ts 1 0 0 (rqC 0 ⟨#[]⟩ 0 kpZ 0 lpZ) X) :
    Calls Tryz.prog 55 #[.pointer (some ⟨xq, 0, none⟩), .pointer (some ⟨xr, 0, none⟩)] X (LeadPost X rb qb xr xq s q c ts (audR s ts)) := by
  unfold audR
  by_cases h1l : 1 < ts.length
  · rw [if_pos h1l]
    refine (lead5_walk X rb qb xr xq s q c ts hL (placeAt s ts 1) 6 (fun W hW => ?_)).mono fun e w' ⟨h1, hD⟩ => ⟨h1, by decide, _, _, hD⟩
    refine (rend_any W rb s q c ts 1 _ 0 hW).mono fun e w' ⟨h1, h2, h3⟩ => ⟨h1, ?_, h3⟩
    rw [if_pos h1l, if_pos h1l, first_none] at h2
    exact h2
  · rw [if_neg h1l]
    refine (lead5_walk X rb qb xr xq s q c ts hL 0 0 (fun W hW => ?_)).mono fun e w' ⟨h1, hD⟩ => ⟨h1, _, _, hD, rfl⟩
    refine (rend_any W rb s q c ts 1 _ 0 hW).mono fun e w' ⟨h1, h2, h3⟩ => ⟨h1, ?_, h3⟩
    rw [if_neg h1l, if_neg h1l] at h2
    exact h2
theorem lead34_post {fid : FuncId} {kd : Int} (hL : LD X rb qb xr xq s q c ts 1 0 0 (rqC 0 ⟨#[]⟩ 0 kpZ 0 lpZ) X)
    (hw : ∀ (a3 e3 : Int) (CP : World → Lp → World → Prop), (∀ W, Rb W rb s q c ts 1 0 0 → Calls Tryz.prog 52 #[.pointer (some ⟨rb, 0, none⟩), .func (.func 53) #[] #[]] W fun e w' => ∃ lp : Lp, e = .returned lp.agg ∧ CP W lp w' ∧ Rb w' rb s q c ts 1 a3 e3 ∧ Only rb W w') →
      Calls Tryz.prog fid #[.pointer (some ⟨xq, 0, none⟩), .pointer (some ⟨xr, 0, none⟩)] X fun e w' => e = .returned (.tuple #[]) ∧ ∃ lp W7 W8, X.heap.size ≤ W7.heap.size ∧ CP W7 lp W8 ∧ Above (qb + 1) W8 w' ∧ W8.heap.size ≤ w'.heap.size ∧ LD X rb qb xr xq s q c ts 1 a3 e3 (rqC kd ⟨#[]⟩ 0 kpZ 0 lp) w') :
    Calls Tryz.prog fid #[.pointer (some ⟨xq, 0, none⟩), .pointer (some ⟨xr, 0, none⟩)] X (LeadPost X rb qb xr xq s q c ts (askR kd s ts)) := by
  obtain ⟨l1, l2, l3⟩ := hL.l
  have hxq := hL.bq.lt
  unfold askR restL LeadPost
  cases hR : parseLitR (tailS s (placeAt s ts 1)) with
  | error np =>
    obtain ⟨n, p⟩ := np
    have hn := parseLitR_ne hR
    refine (hw (placeAt s ts 1 + p) n (fun _ _ _ => True) (fun W hW => ?_)).mono fun e w' ⟨h1, lp, W7, W8, _, _, _, _, hD⟩ => ⟨h1, hn, _, _, hD⟩
    refine (restL_any W rb s q c ts 1 0 0 hW).mono fun e w' hp => ?_
    rw [hR] at hp
    obtain ⟨h1, h2, h3⟩ := hp
    rw [first_none] at h2
    exact ⟨lpZ, h1, trivial, h2, h3⟩
  | ok x =>
    refine (hw 0 0 (fun W lp w' => ∃ qx cx, lp = x.at qx cx ∧ Tms w' w'.heap.size qx x.args ∧ ∀ b, qx = some b → W.heap.size ≤ b.block) (fun W hW => ?_)).mono fun e w' ⟨h1, lp, W7, W8, hs, ⟨qx, cx, hlp, hm, hf⟩, ha, hs2, hD⟩ => ⟨h1, 1, _, hD, qx, cx, by rw [hlp], ?_, fun b hb => Nat.le_trans hs (hf b hb)⟩
    · refine (restL_any W rb s q c ts 1 0 0 hW).mono fun e w' hp => ?_
      rw [hR] at hp
      obtain ⟨qx, cx, h1, hm, hf, hb⟩ := hp
      exact ⟨x.at qx cx, h1, ⟨qx, cx, rfl, hm, hf⟩, hW.on hb, Only.of hb⟩
    · exact ha.rd hm (fun b hb => by have := hf b hb; omega) hs2
theorem lead3_any (hL : LD X rb qb xr xq s q c ts 1 0 0 (rqC 0 ⟨#[]⟩ 0 kpZ 0 lpZ) X) :
    Calls Tryz.prog 51 #[.pointer (some ⟨xq, 0, none⟩), .pointer (some ⟨xr, 0, none⟩)] X (LeadPost X rb qb xr xq s q c ts (askR 3 s ts)) := lead34_post hL (fun a3 e3 CP h => lead3_walk X rb qb xr xq s q c ts hL a3 e3 CP h)
theorem lead4_any (hL : LD X rb qb xr xq s q c ts 1 0 0 (rqC 0 ⟨#[]⟩ 0 kpZ 0 lpZ) X) :
    Calls Tryz.prog 54 #[.pointer (some ⟨xq, 0, none⟩), .pointer (some ⟨xr, 0, none⟩)] X (LeadPost X rb qb xr xq s q c ts (askR 4 s ts)) := lead34_post hL (fun a3 e3 CP h => lead4_walk X rb qb xr xq s q c ts hL a3 e3 CP h)
end
end Go.Proofs.YtfmkfabbiifolaaGreatDoor

/-
  The map of leads; a request's cells, written and read. (Made by a script.)
-/
set_option linter.unusedVariables false
set_option linter.unusedSimpArgs false
namespace Go.Proofs.YtfmkfabbiifolaaGreatDoor
open Go.RowKit

theorem set17 {w : World} {b : Nat} {T : TypeId} {a0 a1 a2 a3 a4 a5 a6 a7 a8 a9 a10 a11 a12 a13 a14 a15 a16 : Value} (h : Bk w b T #[a0, a1, a2, a3, a4, a5, a6, a7, a8, a9, a10, a11, a12, a13, a14, a15, a16]) (u0 u1 u2 u3 u4 u5 u6 u7 u8 u9 u10 u11 u12 u13 u14 u15 u16 : Value) : Bk (((((((((((((((((w.setCell ⟨b, 0, none⟩ u0).setCell ⟨b, 1, none⟩ u1).setCell ⟨b, 2, none⟩ u2).setCell ⟨b, 3, none⟩ u3).setCell ⟨b, 4, none⟩ u4).setCell ⟨b, 5, none⟩ u5).setCell ⟨b, 6, none⟩ u6).setCell ⟨b, 7, none⟩ u7).setCell ⟨b, 8, none⟩ u8).setCell ⟨b, 9, none⟩ u9).setCell ⟨b, 10, none⟩ u10).setCell ⟨b, 11, none⟩ u11).setCell ⟨b, 12, none⟩ u12).setCell ⟨b, 13, none⟩ u13).setCell ⟨b, 14, none⟩ u14).setCell ⟨b, 15, none⟩ u15).setCell ⟨b, 16, none⟩ u16) b T #[u0, u1, u2, u3, u4, u5, u6, u7, u8, u9, u10, u11, u12, u13, u14, u15, u16] := by
  have := (((((((((((((((((h.set 0 u0).set 1 u1).set 2 u2).set 3 u3).set 4 u4).set 5 u5).set 6 u6).set 7 u7).set 8 u8).set 9 u9).set 10 u10).set 11 u11).set 12 u12).set 13 u13).set 14 u14).set 15 u15).set 16 u16)
  simpa using this
theorem below17 {w : World} {B b : Nat} (h : B ≤ b) (u0 u1 u2 u3 u4 u5 u6 u7 u8 u9 u10 u11 u12 u13 u14 u15 u16 : Value) : Below B w (((((((((((((((((w.setCell ⟨b, 0, none⟩ u0).setCell ⟨b, 1, none⟩ u1).setCell ⟨b, 2, none⟩ u2).setCell ⟨b, 3, none⟩ u3).setCell ⟨b, 4, none⟩ u4).setCell ⟨b, 5, none⟩ u5).setCell ⟨b, 6, none⟩ u6).setCell ⟨b, 7, none⟩ u7).setCell ⟨b, 8, none⟩ u8).setCell ⟨b, 9, none⟩ u9).setCell ⟨b, 10, none⟩ u10).setCell ⟨b, 11, none⟩ u11).setCell ⟨b, 12, none⟩ u12).setCell ⟨b, 13, none⟩ u13).setCell ⟨b, 14, none⟩ u14).setCell ⟨b, 15, none⟩ u15).setCell ⟨b, 16, none⟩ u16) := ((((((((((((((((((Below.refl B w).setCell (p := ⟨b, 0, none⟩) h u0).setCell (p := ⟨b, 1, none⟩) h u1).setCell (p := ⟨b, 2, none⟩) h u2).setCell (p := ⟨b, 3, none⟩) h u3).setCell (p := ⟨b, 4, none⟩) h u4).setCell (p := ⟨b, 5, none⟩) h u5).setCell (p := ⟨b, 6, none⟩) h u6).setCell (p := ⟨b, 7, none⟩) h u7).setCell (p := ⟨b, 8, none⟩) h u8).setCell (p := ⟨b, 9, none⟩) h u9).setCell (p := ⟨b, 10, none⟩) h u10).setCell (p := ⟨b, 11, none⟩) h u11).setCell (p := ⟨b, 12, none⟩) h u12).setCell (p := ⟨b, 13, none⟩) h u13).setCell (p := ⟨b, 14, none⟩) h u14).setCell (p := ⟨b, 15, none⟩) h u15).setCell (p := ⟨b, 16, none⟩) h u16)
theorem above17 {w w' : World} {G b : Nat} (h : Above G w w') (hb : b < G) (u0 u1 u2 u3 u4 u5 u6 u7 u8 u9 u10 u11 u12 u13 u14 u15 u16 : Value) : Above G w (((((((((((((((((w'.setCell ⟨b, 0, none⟩ u0).setCell ⟨b, 1, none⟩ u1).setCell ⟨b, 2, none⟩ u2).setCell ⟨b, 3, none⟩ u3).setCell ⟨b, 4, none⟩ u4).setCell ⟨b, 5, none⟩ u5).setCell ⟨b, 6, none⟩ u6).setCell ⟨b, 7, none⟩ u7).setCell ⟨b, 8, none⟩ u8).setCell ⟨b, 9, none⟩ u9).setCell ⟨b, 10, none⟩ u10).setCell ⟨b, 11, none⟩ u11).setCell ⟨b, 12, none⟩ u12).setCell ⟨b, 13, none⟩ u13).setCell ⟨b, 14, none⟩ u14).setCell ⟨b, 15, none⟩ u15).setCell ⟨b, 16, none⟩ u16) := (((((((((((((((((h.set (b := b) hb 0 u0).set (b := b) hb 1 u1).set (b := b) hb 2 u2).set (b := b) hb 3 u3).set (b := b) hb 4 u4).set (b := b) hb 5 u5).set (b := b) hb 6 u6).set (b := b) hb 7 u7).set (b := b) hb 8 u8).set (b := b) hb 9 u9).set (b := b) hb 10 u10).set (b := b) hb 11 u11).set (b := b) hb 12 u12).set (b := b) hb 13 u13).set (b := b) hb 14 u14).set (b := b) hb 15 u15).set (b := b) hb 16 u16)
theorem Bk.cells17 {w : World} {b : Nat} {T : TypeId} {a0 a1 a2 a3 a4 a5 a6 a7 a8 a9 a10 a11 a12 a13 a14 a15 a16 : Value} (h : Bk w b T #[a0, a1, a2, a3, a4, a5, a6, a7, a8, a9, a10, a11, a12, a13, a14, a15, a16]) : w.cell? ⟨b, 0, none⟩ = some a0 ∧ w.cell? ⟨b, 1, none⟩ = some a1 ∧ w.cell? ⟨b, 2, none⟩ = some a2 ∧ w.cell? ⟨b, 3, none⟩ = some a3 ∧ w.cell? ⟨b, 4, none⟩ = some a4 ∧ w.cell? ⟨b, 5, none⟩ = some a5 ∧ w.cell? ⟨b, 6, none⟩ = some a6 ∧ w.cell? ⟨b, 7, none⟩ = some a7 ∧ w.cell? ⟨b, 8, none⟩ = some a8 ∧ w.cell? ⟨b, 9, none⟩ = some a9 ∧ w.cell? ⟨b, 10, none⟩ = some a10 ∧ w.cell? ⟨b, 11, none⟩ = some a11 ∧ w.cell? ⟨b, 12, none⟩ = some a12 ∧ w.cell? ⟨b, 13, none⟩ = some a13 ∧ w.cell? ⟨b, 14, none⟩ = some a14 ∧ w.cell? ⟨b, 15, none⟩ = some a15 ∧ w.cell? ⟨b, 16, none⟩ = some a16 :=
  ⟨h.cell 0 _ rfl, h.cell 1 _ rfl, h.cell 2 _ rfl, h.cell 3 _ rfl, h.cell 4 _ rfl, h.cell 5 _ rfl, h.cell 6 _ rfl, h.cell 7 _ rfl, h.cell 8 _ rfl, h.cell 9 _ rfl, h.cell 10 _ rfl, h.cell 11 _ rfl, h.cell 12 _ rfl, h.cell 13 _ rfl, h.cell 14 _ rfl, h.cell 15 _ rfl, h.cell 16 _ rfl⟩
theorem Bk.softs17 {w : World} {b : Nat} {T : TypeId} {cs : Array Value} (h : Bk w b T cs) : w.frozen? ⟨b, 0, none⟩ = false ∧ w.frozen? ⟨b, 1, none⟩ = false ∧ w.frozen? ⟨b, 2, none⟩ = false ∧ w.frozen? ⟨b, 3, none⟩ = false ∧ w.frozen? ⟨b, 4, none⟩ = false ∧ w.frozen? ⟨b, 5, none⟩ = false ∧ w.frozen? ⟨b, 6, none⟩ = false ∧ w.frozen? ⟨b, 7, none⟩ = false ∧ w.frozen? ⟨b, 8, none⟩ = false ∧ w.frozen? ⟨b, 9, none⟩ = false ∧ w.frozen? ⟨b, 10, none⟩ = false ∧ w.frozen? ⟨b, 11, none⟩ = false ∧ w.frozen? ⟨b, 12, none⟩ = false ∧ w.frozen? ⟨b, 13, none⟩ = false ∧ w.frozen? ⟨b, 14, none⟩ = false ∧ w.frozen? ⟨b, 15, none⟩ = false ∧ w.frozen? ⟨b, 16, none⟩ = false :=
  ⟨h.soft 0, h.soft 1, h.soft 2, h.soft 3, h.soft 4, h.soft 5, h.soft 6, h.soft 7, h.soft 8, h.soft 9, h.soft 10, h.soft 11, h.soft 12, h.soft 13, h.soft 14, h.soft 15, h.soft 16⟩
theorem underL : Tryz.prog.underlying 57 = some (.map 9 1) := Tryz.underlying57
/-- a closure, with what it has of the request and the reader -/
def leadFn (fid xq xr : Nat) : Value := .func (.func fid) #[] #[.pointer (some ⟨xq, 0, none⟩), .pointer (some ⟨xr, 0, none⟩)]
def leadE0 (xq xr : Nat) : Array MapEntry := #[]
def leadE1 (xq xr : Nat) : Array MapEntry := #[{ key := .string wdAssert, val := leadFn 43 xq xr, born := 0 }]
def leadE2 (xq xr : Nat) : Array MapEntry := #[{ key := .string wdAssert, val := leadFn 43 xq xr, born := 0 }, { key := .string wdRevoke, val := leadFn 48 xq xr, born := 1 }]
def leadE3 (xq xr : Nat) : Array MapEntry := #[{ key := .string wdAssert, val := leadFn 43 xq xr, born := 0 }, { key := .string wdRevoke, val := leadFn 48 xq xr, born := 1 }, { key := .string wdQuery, val := leadFn 51 xq xr, born := 2 }]
def leadE4 (xq xr : Nat) : Array MapEntry := #[{ key := .string wdAssert, val := leadFn 43 xq xr, born := 0 }, { key := .string wdRevoke, val := leadFn 48 xq xr, born := 1 }, { key := .string wdQuery, val := leadFn 51 xq xr, born := 2 }, { key := .string wdProve, val := leadFn 54 xq xr, born := 3 }]
def leadE5 (xq xr : Nat) : Array MapEntry := #[{ key := .string wdAssert, val := leadFn 43 xq xr, born := 0 }, { key := .string wdRevoke, val := leadFn 48 xq xr, born := 1 }, { key := .string wdQuery, val := leadFn 51 xq xr, born := 2 }, { key := .string wdProve, val := leadFn 54 xq xr, born := 3 }, { key := .string wdAudit, val := leadFn 55 xq xr, born := 4 }]
theorem checkS (w : World) (e : Bool) (x : ByteArray) : (Instr.checkKey e 10000 9 (.string x)).run Tryz.prog w = .ok () w := by
  show (Instr.checkKey e (9999 + 1) 9 (.string x)).run Tryz.prog w = .ok () w
  unfold Instr.checkKey
  simp [run_underlying Tryz.underlying9]
theorem set_alloc (w : World) (o o' : Obj) : ({ w.alloc o with heap := (w.alloc o).heap.setIfInBounds w.heap.size o' } : World) = w.alloc o' := by
  have h : (w.heap.push o).setIfInBounds w.heap.size o' = w.heap.push o' := by
    apply Array.ext_getElem?
    intro i
    rw [Array.getElem?_setIfInBounds]
    by_cases h : w.heap.size = i
    · subst h; simp
    · simp [h, Array.getElem?_push, Ne.symm h]
  unfold World.alloc
  simp only [h]
theorem insL (w : World) (es : Array MapEntry) (n : Nat) (x : ByteArray) (v : Value) (hf : Instr.findNow .string (.string x) es.toList 0 = some none) :
    (Instr.mapUpdate 57 (.map (some w.heap.size)) (.string x) v).run Tryz.prog (w.alloc (.map es n)) = .ok () (w.alloc (.map (es.push { key := .string x, val := v, born := n }) (n + 1))) := by
  have hb : (w.alloc (.map es n)).heap[w.heap.size]? = some (.map es n) := heap_alloc_new w _
  have hs := MapKept.run_setObj_map (P := Tryz.prog) (.map (es.push { key := .string x, val := v, born := n }) (n + 1)) hb
  rw [set_alloc] at hs
  simp [Instr.mapUpdate, run_underlying underL, MapKept.run_getObj_map hb, checkS, Instr.findKey, run_underlying Tryz.underlying9, hf, hs, Result.andThen]
theorem zeroF (w : World) : (zeroValue 1).run Tryz.prog w = .ok .nilFunc w := by kernel_rfl
def leadOf (xq xr : Nat) (x : ByteArray) : Value :=
  if x = wdAssert then .tuple #[leadFn 43 xq xr, .bool true] else
  if x = wdRevoke then .tuple #[leadFn 48 xq xr, .bool true] else
  if x = wdQuery then .tuple #[leadFn 51 xq xr, .bool true] else
  if x = wdProve then .tuple #[leadFn 54 xq xr, .bool true] else
  if x = wdAudit then .tuple #[leadFn 55 xq xr, .bool true] else
  .tuple #[.nilFunc, .bool false]
theorem ba_beq (a b : ByteArray) : (a == b) = decide (a = b) := by
  obtain ⟨a⟩ := a
  obtain ⟨b⟩ := b
  have e : ((⟨a⟩ : ByteArray) == ⟨b⟩) = (a == b) := rfl
  rw [e]
  by_cases h : a = b
  · subst h; simp
  · have h2 : ¬ (⟨a⟩ : ByteArray) = ⟨b⟩ := fun e => h (by injection e)
    rw [decide_eq_false h2]; simpa using h
theorem ne10 : ¬ wdRevoke = wdAssert := by decide +kernel
theorem ne20 : ¬ wdQuery = wdAssert := by decide +kernel
theorem ne21 : ¬ wdQuery = wdRevoke := by decide +kernel
theorem ne30 : ¬ wdProve = wdAssert := by decide +kernel
theorem ne31 : ¬ wdProve = wdRevoke := by decide +kernel
theorem ne32 : ¬ wdProve = wdQuery := by decide +kernel
theorem ne40 : ¬ wdAudit = wdAssert := by decide +kernel
theorem ne41 : ¬ wdAudit = wdRevoke := by decide +kernel
theorem ne42 : ¬ wdAudit = wdQuery := by decide +kernel
theorem ne43 : ¬ wdAudit = wdProve := by decide +kernel
theorem find0 (xq xr : Nat) : Instr.findNow .string (.string wdAssert) (leadE0 xq xr).toList 0 = some none := by
  simp [leadE0, Instr.findNow, Instr.sameNow, ba_beq]
theorem find1 (xq xr : Nat) : Instr.findNow .string (.string wdRevoke) (leadE1 xq xr).toList 0 = some none := by
  simp [leadE1, Instr.findNow, Instr.sameNow, ba_beq, ne10]
theorem find2 (xq xr : Nat) : Instr.findNow .string (.string wdQuery) (leadE2 xq xr).toList 0 = some none := by
  simp [leadE2, Instr.findNow, Instr.sameNow, ba_beq, ne20, ne21]
theorem find3 (xq xr : Nat) : Instr.findNow .string (.string wdProve) (leadE3 xq xr).toList 0 = some none := by
  simp [leadE3, Instr.findNow, Instr.sameNow, ba_beq, ne30, ne31, ne32]
theorem find4 (xq xr : Nat) : Instr.findNow .string (.string wdAudit) (leadE4 xq xr).toList 0 = some none := by
  simp [leadE4, Instr.findNow, Instr.sameNow, ba_beq, ne40, ne41, ne42, ne43]
theorem lookL (w : World) (b xq xr : Nat) (x : ByteArray) (hb : w.heap[b]? = some (.map (leadE5 xq xr) 5)) : (Instr.lookup 57 (.map (some b)) (.string x) true).run Tryz.prog w = .ok (leadOf xq xr x) w := by
  unfold leadE5 at hb
  unfold leadOf
  by_cases h0 : x = wdAssert
  · simp [Instr.lookup, run_underlying underL, MapKept.run_getObj_map hb, checkS, Instr.findKey, run_underlying Tryz.underlying9, Instr.findNow, Instr.sameNow, ba_beq, h0, zeroF, Result.andThen]
  · by_cases h1 : x = wdRevoke
    · have : ¬ wdRevoke = wdAssert := by decide +kernel
      simp [Instr.lookup, run_underlying underL, MapKept.run_getObj_map hb, checkS, Instr.findKey, run_underlying Tryz.underlying9, Instr.findNow, Instr.sameNow, ba_beq, h1, this, zeroF, Result.andThen]
    · by_cases h2 : x = wdQuery
      · have n1 : ¬ wdQuery = wdAssert := by decide +kernel
        have n2 : ¬ wdQuery = wdRevoke := by decide +kernel
        simp [Instr.lookup, run_underlying underL, MapKept.run_getObj_map hb, checkS, Instr.findKey, run_underlying Tryz.underlying9, Instr.findNow, Instr.sameNow, ba_beq, h2, n1, n2, zeroF, Result.andThen]
      · by_cases h3 : x = wdProve
        · have n1 : ¬ wdProve = wdAssert := by decide +kernel
          have n2 : ¬ wdProve = wdRevoke := by decide +kernel
          have n3 : ¬ wdProve = wdQuery := by decide +kernel
          simp [Instr.lookup, run_underlying underL, MapKept.run_getObj_map hb, checkS, Instr.findKey, run_underlying Tryz.underlying9, Instr.findNow, Instr.sameNow, ba_beq, h3, n1, n2, n3, zeroF, Result.andThen]
        · by_cases h4 : x = wdAudit
          · have n1 : ¬ wdAudit = wdAssert := by decide +kernel
            have n2 : ¬ wdAudit = wdRevoke := by decide +kernel
            have n3 : ¬ wdAudit = wdQuery := by decide +kernel
            have n4 : ¬ wdAudit = wdProve := by decide +kernel
            simp [Instr.lookup, run_underlying underL, MapKept.run_getObj_map hb, checkS, Instr.findKey, run_underlying Tryz.underlying9, Instr.findNow, Instr.sameNow, ba_beq, h4, n1, n2, n3, n4, zeroF, Result.andThen]
          · simp [Instr.lookup, run_underlying underL, MapKept.run_getObj_map hb, checkS, Instr.findKey, run_underlying Tryz.underlying9, Instr.findNow, Instr.sameNow, ba_beq, h0, h1, h2, h3, h4, zeroF, Result.andThen]
set_option maxHeartbeats 4000000 in
theorem leads_any (rb qb : Nat) (w : World) :
    Calls Tryz.prog 16 #[.pointer (some ⟨rb, 0, none⟩), .pointer (some ⟨qb, 0, none⟩)] w fun e w' => e = .returned (.map (some (w.heap.size + 2))) ∧ w' = ((w.alloc (.cells #[.pointer (some ⟨rb, 0, none⟩)] 53)).alloc (.cells #[.pointer (some ⟨qb, 0, none⟩)] 59)).alloc (.map (leadE5 (w.heap.size + 1) w.heap.size) 5) := by
  have hmm := @run_makeMap Tryz.prog
  have hsz : ((w.alloc (.cells #[.pointer (some ⟨rb, 0, none⟩)] 53)).alloc (.cells #[.pointer (some ⟨qb, 0, none⟩)] 59)).heap.size = w.heap.size + 2 := by simp
  have i0 := insL ((w.alloc (.cells #[.pointer (some ⟨rb, 0, none⟩)] 53)).alloc (.cells #[.pointer (some ⟨qb, 0, none⟩)] 59)) (leadE0 (w.heap.size + 1) w.heap.size) 0 wdAssert (leadFn 43 (w.heap.size + 1) w.heap.size) (find0 _ _)
  have i1 := insL ((w.alloc (.cells #[.pointer (some ⟨rb, 0, none⟩)] 53)).alloc (.cells #[.pointer (some ⟨qb, 0, none⟩)] 59)) (leadE1 (w.heap.size + 1) w.heap.size) 1 wdRevoke (leadFn 48 (w.heap.size + 1) w.heap.size) (find1 _ _)
  have i2 := insL ((w.alloc (.cells #[.pointer (some ⟨rb, 0, none⟩)] 53)).alloc (.cells #[.pointer (some ⟨qb, 0, none⟩)] 59)) (leadE2 (w.heap.size + 1) w.heap.size) 2 wdQuery (leadFn 51 (w.heap.size + 1) w.heap.size) (find2 _ _)
  have i3 := insL ((w.alloc (.cells #[.pointer (some ⟨rb, 0, none⟩)] 53)).alloc (.cells #[.pointer (some ⟨qb, 0, none⟩)] 59)) (leadE3 (w.heap.size + 1) w.heap.size) 3 wdProve (leadFn 54 (w.heap.size + 1) w.heap.size) (find3 _ _)
  have i4 := insL ((w.alloc (.cells #[.pointer (some ⟨rb, 0, none⟩)] 53)).alloc (.cells #[.pointer (some ⟨qb, 0, none⟩)] 59)) (leadE4 (w.heap.size + 1) w.heap.size) 4 wdAudit (leadFn 55 (w.heap.size + 1) w.heap.size) (find4 _ _)
  rw [hsz] at i0 i1 i2 i3 i4
  simp only [leadE0, leadE1, leadE2, leadE3, leadE4, List.push_toArray, List.nil_append, List.cons_append, wdAssert, wdRevoke, wdQuery, wdProve, wdAudit, leadFn, Nat.reduceAdd] at i0 i1 i2 i3 i4
  go_enter Tryz.func16, Tryz.ntmps16
  go_wp2_with fail
  go_ret
  exact ⟨rfl, rfl⟩
end Go.Proofs.YtfmkfabbiifolaaGreatDoor

/-
  A request's cells as one: read, stored, handed back.
-/
set_option linter.unusedVariables false
set_option linter.unusedSimpArgs false
namespace Go.Proofs.YtfmkfabbiifolaaGreatDoor
open Go.RowKit

theorem rowReq : ∃ d, Tryz.prog.underlying 33 = some d ∧ d.isRow = true := ⟨_, Tryz.underlying33, rfl⟩
theorem sizeReq : (Tryz.prog.info? 33).map (·.size) = some 17 := by kernel_rfl
theorem Bk.there {w : World} {b : Nat} {T : TypeId} {cs : Array Value} (h : Bk w b T cs) : w.there b 0 cs.size := fun j hj => by
  rw [Nat.zero_add]
  exact ⟨by rw [h.cell j cs[j] (by simp [hj])]; rfl, h.soft j⟩
theorem Bk.range {w : World} {b : Nat} {T : TypeId} {cs : Array Value} (h : Bk w b T cs) : w.rangeAt b 0 cs.toList := fun j v hv => by
  rw [Nat.zero_add]; exact h.cell j v hv
theorem setCells_heap : ∀ (vs : List Value) (b o k : Nat) (w : World), k ≠ b → (w.setCells b o vs).heap[k]? = w.heap[k]?
  | [], _, _, _, _, _ => rfl
  | v :: r, b, o, k, w, h => by
    rw [World.setCells, setCells_heap r b (o + 1) k _ h]
    exact Below.heap_setCell w ⟨b, o, none⟩ v k h
theorem below_setCells {B : Nat} : ∀ (vs : List Value) (b o : Nat) (w : World), B ≤ b → Below B w (w.setCells b o vs)
  | [], _, _, w, _ => Below.refl _ _
  | v :: r, b, o, w, h => by
    rw [World.setCells]
    exact ((Below.refl B w).setCell (p := ⟨b, o, none⟩) h v).trans (below_setCells r b (o + 1) _ h)
theorem above_setCells {G : Nat} {w w' : World} (h : Above G w w') {b : Nat} (hb : b < G) (vs : List Value) : Above G w (w'.setCells b 0 vs) := fun g hg => (setCells_heap vs b 0 g w' (by omega)).trans (h g hg)
theorem Bk.setAll {w : World} {b : Nat} {T : TypeId} {cs : Array Value} (h : Bk w b T cs) (kd : Int) (lb : ByteArray) (lf : Int) (cl : Kp) (no : Int) (lp : Lp) (hc : ∃ kd lb lf cl no lp, cs = rqC kd lb lf cl no lp) : Bk (w.setCells b 0 (rqC kd lb lf cl no lp).toList) b T (rqC kd lb lf cl no lp) := by
  obtain ⟨kd0, lb0, lf0, cl0, no0, lp0, rfl⟩ := hc
  unfold rqC at h ⊢
  exact set17 h _ _ _ _ _ _ _ _ _ _ _ _ _ _ _ _ _
theorem Bk.apart {w : World} {b b' : Nat} {T : TypeId} {cs : Array Value} (h : Bk w b' T cs) (hn : b' ≠ b) (vs : List Value) : Bk (w.setCells b 0 vs) b' T cs := (setCells_heap vs b 0 b' w hn).trans h
theorem rqC_one (kd : Int) (lb : ByteArray) (lf : Int) (cl : Kp) (no : Int) (lp : Lp) : (rqC kd lb lf cl no lp).all (·.oneCell') = true := by simp [rqC, Value.oneCell']
theorem results_req {fn : Func} {p u v : Tmp} (h : fn.results = #[.cell p 33, .tmp u, .tmp v]) (tmps : Array Value) (w : World) (b : Nat) (kd : Int) (lb : ByteArray) (lf : Int) (cl : Kp) (no : Int) (lp : Lp) {T : TypeId} (hp : tmps.getD p undef = .pointer (some ⟨b, 0, none⟩)) (hb : Bk w b T (rqC kd lb lf cl no lp)) :
    (results fn tmps).run Tryz.prog w = .ok (.tuple #[.agg (rqC kd lb lf cl no lp), tmps.getD u undef, tmps.getD v undef]) w := by
  obtain ⟨d, hu, hd⟩ := rowReq
  have hl := run_loadVar_mid (P := Tryz.prog) w b 0 33 (rqC kd lb lf cl no lp).toList d hb.range hu hd (by rw [sizeReq]; rfl)
  simp only [Array.toArray_toList] at hl
  rw [Array.getD_eq_getD_getElem?] at hp
  simp [results, h, hp, asAddr, hl, Result.andThen]
end Go.Proofs.YtfmkfabbiifolaaGreatDoor
