/-
  Contracts of the plain answers: mandateref04.Right, Label, At.
-/
import Derived.Test.YtkgcloggnnjioaaDoorMasks
import Derived.Test.YtkgcloggnnjioaaDoorOrdA
import Derived.Test.YtkgcloggnnjioaaDoorAsks
namespace Go.Proofs.YtkgcloggnnjioaaDoor
open Go.RowKit

theorem Bit_ref (m a : Nat) (hm : m < 18446744073709551616) (h : a < 64) (w : World) : Calls Tryd.prog 29 #[.int .u64 m, .int .i64 a] w fun e w' => e = .returned (.bool (m.testBit a)) ∧ w = w' :=
  (Bit_any m a hm h w).mono fun _e _w' h => ⟨h.1, h.2.symm⟩
theorem Us.cell {w : World} {B : Nat} {p : Option Addr} {ms : List Nat} (h : Us w B p ms) (h1 : 1 ≤ ms.length) : ∃ b off, p = some ⟨b, off, none⟩ ∧ b < B ∧ ∀ i, i < ms.length → w.cell? ⟨b, off + i, none⟩ = some (.int .u64 (ms.getD i 0 : Nat)) := by
  rcases h with h | ⟨b, off, rfl, hl, hc⟩
  · subst h; simp at h1
  · exact ⟨b, off, rfl, hl, fun i hi => by rw [hc i hi, getD_at hi]; rfl⟩
/-- what the plain answer asks of a label -/
def BOk (ms : List Nat) (a b : Nat) : Prop := has ms a b → b < ms.length ∧ (b ≠ a → ¬ has ms b a) ∧ ∀ c, c < ms.length → has ms b c → has ms a c
theorem aok_of {ms : List Nat} (hs : Small ms) (h : ∀ a, a < ms.length → has ms a a ∧ ∀ b, b < 64 → BOk ms a b) : ∀ a, a < ms.length → AOk ms a := by
  intro a ha
  have hB : ∀ x b, x < ms.length → has ms x b → b < ms.length := fun x b hx hb => ((h x hx).2 b (bit_lt (small_getD hs x) hb) hb).1
  refine ⟨(h a ha).1, fun b hb => hB a b ha hb, fun b hb hne => ((h a ha).2 b (bit_lt (small_getD hs a) hb) hb).2.1 hne, fun b c hb hc => ?_⟩
  exact ((h a ha).2 b (bit_lt (small_getD hs a) hb) hb).2.2 c (hB b c (hB a b ha hb) hc) hc
theorem aok_to {ms : List Nat} {a : Nat} (h : AOk ms a) : has ms a a ∧ ∀ b, BOk ms a b :=
  ⟨h.1, fun b hb => ⟨h.2.1 b hb, fun hne => h.2.2.1 b hb hne, fun c _ hc => h.2.2.2 b c hb hc⟩⟩

set_option maxRecDepth 100000 in
set_option maxHeartbeats 8000000 in
theorem rright_in (ms : List Nat) (p : Option Addr) (c : Nat) (w : World) (h1 : 1 ≤ ms.length) (hn : ms.length ≤ 64) (hs : Small ms) (hp : Us w w.heap.size p ms) :
    Calls Tryd.prog 16 #[.slice p ms.length c] w fun e w' => e = .returned (.bool (ordB ms)) ∧ w = w' := by
  obtain ⟨b, off, rfl, hbl, hcs⟩ := hp.cell h1
  have HC := Lib.hid hcs
  have HS := Lib.hid hs
  have HYES := Lib.hid (show (∀ a, a < ms.length → has ms a a ∧ ∀ b, b < 64 → BOk ms a b) → ordB ms = true from fun h => ordB_true ⟨h1, hn, aok_of hs h⟩)
  have HNO := Lib.hid (show ∀ a, a < ms.length → ¬ (has ms a a ∧ ∀ b, BOk ms a b) → ordB ms = false from fun a ha h => ordB_false fun ho => h (aok_to (ho.2.2 a ha)))
  clear hcs hs hp
  have g1 : ¬ (ms.length : Int) < 1 := by omega
  have g2 : ¬ (64 : Int) < (ms.length : Int) := by omega
  go_enter Tryd.func16, Tryd.ntmps16
  go_wp2_with fail
  go_loop [4] (fun i => ∃ k : Nat, k ≤ ms.length ∧ i = .int .i64 k ∧ Hid (∀ a, a < k → has ms a a ∧ ∀ b, b < 64 → BOk ms a b)) (fun i => ms.length - (intOf i).toNat)
  case atStart => exact ⟨0, Nat.zero_le _, rfl, Lib.hid (fun a h => absurd h (Nat.not_lt_zero a))⟩
  case round =>
    obtain ⟨a, hk, rfl, HJ⟩ := hrel
    by_cases hlt : a < ms.length
    · have xa := HC.out a hlt
      have hA := small_getD HS.out a
      have ha64 : a < 64 := by omega
      have hdef : ∀ x, has ms a x ↔ (ms.getD a 0).testBit x = true := fun x => Iff.rfl
      cases haa : (ms.getD a 0).testBit a with
      | false =>
        have HF := Lib.hid (HNO.out a hlt (fun h => by have := (hdef a).1 h.1; rw [haa] at this; cases this))
        clear hdef
        generalize ms.getD a 0 = A at *
        go_wp2_with (go_at_call 29; refine (Bit_ref _ _ (by assumption) (by omega) _).mono ?_; rintro e w' ⟨rfl, rfl⟩)
        go_ret
        exact ⟨by rw [HF.out]; rfl, rfl⟩
      | true =>
        have HAA := Lib.hid ((hdef a).2 haa)
        have HNA := Lib.hid (HNO.out a hlt)
        have HDEF := Lib.hid hdef
        clear hdef
        generalize hAe : ms.getD a 0 = A at *
        have HAE := Lib.hid hAe
        clear hAe
        go_wp2_with (go_at_call 29; refine (Bit_ref _ _ (by assumption) (by omega) _).mono ?_; rintro e w' ⟨rfl, rfl⟩)
        go_loop [5] (fun i => ∃ x : Nat, x ≤ 64 ∧ i = .int .i64 x ∧ Hid (∀ y, y < x → BOk ms a y)) (fun i => 64 - (intOf i).toNat)
        case atStart => exact ⟨0, Nat.zero_le _, rfl, Lib.hid (fun y h => absurd h (Nat.not_lt_zero y))⟩
        case round =>
          obtain ⟨x, hx, rfl, HX⟩ := hrel
          by_cases hltx : x < 64
          · have HNX := Lib.hid (show BOk ms a x → ∀ y, y < x + 1 → BOk ms a y from fun h y hy => by
              by_cases e : y = x
              · subst e; exact h
              · exact HX.out y (by omega))
            cases hax : A.testBit x with
            | false =>
              have HX2 := Lib.hid (HNX.out (fun h => by have := (HDEF.out x).1 h; rw [hax] at this; cases this))
              go_wp2_with (go_at_call 29; refine (Bit_ref _ _ (by assumption) (by omega) _).mono ?_; rintro e w' ⟨rfl, rfl⟩)
              go_round
              case rel => exact ⟨x + 1, by omega, by go_num, HX2⟩
              case measure => simp [intOf]; omega
            | true =>
              have HAX := Lib.hid ((HDEF.out x).2 hax)
              by_cases hxn : x < ms.length
              · have xx := HC.out x hxn
                have hXs := small_getD HS.out x
                have hdx : ∀ y, has ms x y ↔ (ms.getD x 0).testBit y = true := fun y => Iff.rfl
                have HDX := Lib.hid hdx
                clear hdx
                generalize ms.getD x 0 = X at *
                have i3 : ¬ (ms.length : Int) ≤ (x : Int) := by omega
                have i4 : decide ((ms.length : Int) ≤ (x : Int)) = false := by simp; omega
                have i5 : decide (ms.length ≤ x) = false := by simp; omega
                have hway : (x ≠ a ∧ ((x : Int) != (a : Int)) = true ∧ X.testBit a = true) ∨ ((((x : Int) != (a : Int)) = false ∨ (((x : Int) != (a : Int)) = true ∧ X.testBit a = false)) ∧ (x ≠ a → ¬ has ms x a)) := by
                  by_cases e : x = a
                  · exact .inr ⟨.inl (by rw [e]; simp), fun h => absurd e h⟩
                  · have e2 : ((x : Int) != (a : Int)) = true := by simp; omega
                    cases ht : X.testBit a with
                    | true => exact .inl ⟨e, e2, rfl⟩
                    | false => exact .inr ⟨.inr ⟨e2, rfl⟩, fun _ h => by have := (HDX.out a).1 h; rw [ht] at this; cases this⟩
                rcases hway with ⟨h2, h3, h4⟩ | ⟨h2, h3⟩
                · have HF := Lib.hid (HNA.out (fun h => (h.2 x HAX.out).2.1 h2 ((HDX.out a).2 h4)))
                  clear h2
                  go_wp2_with (go_at_call 29; refine (Bit_ref _ _ (by assumption) (by omega) _).mono ?_; rintro e w' ⟨rfl, rfl⟩)
                  go_ret
                  exact ⟨by rw [HF.out]; rfl, rfl⟩
                · have H3 := Lib.hid h3
                  clear h3
                  rcases h2 with h2 | ⟨h2, h4⟩
                  all_goals
                    go_wp2_with (go_at_call 29; refine (Bit_ref _ _ (by assumption) (by omega) _).mono ?_; rintro e w' ⟨rfl, rfl⟩)
                    go_loop [6] (fun i => ∃ y : Nat, y ≤ ms.length ∧ i = .int .i64 y ∧ Hid (∀ z, z < y → has ms x z → has ms a z)) (fun i => ms.length - (intOf i).toNat)
                    case atStart => exact ⟨0, Nat.zero_le _, rfl, Lib.hid (fun y h => absurd h (Nat.not_lt_zero y))⟩
                    case round =>
                      obtain ⟨y, hy, rfl, HY⟩ := hrel
                      by_cases hlty : y < ms.length
                      · have HNY := Lib.hid (show (has ms x y → has ms a y) → ∀ z, z < y + 1 → has ms x z → has ms a z from fun h z hz => by
                          by_cases e : z = y
                          · subst e; exact h
                          · exact HY.out z (by omega))
                        cases hxy : X.testBit y with
                        | false =>
                          have HY2 := Lib.hid (HNY.out (fun h => by have := (HDX.out y).1 h; rw [hxy] at this; cases this))
                          go_wp2_with (go_at_call 29; refine (Bit_ref _ _ (by assumption) (by omega) _).mono ?_; rintro e w' ⟨rfl, rfl⟩)
                          go_round
                          case rel => exact ⟨y + 1, by omega, by go_num, HY2⟩
                          case measure => simp [intOf]; omega
                        | true =>
                          cases hay : A.testBit y with
                          | true =>
                            have HY2 := Lib.hid (HNY.out (fun _ => (HDEF.out y).2 hay))
                            go_wp2_with (go_at_call 29; refine (Bit_ref _ _ (by assumption) (by omega) _).mono ?_; rintro e w' ⟨rfl, rfl⟩)
                            go_round
                            case rel => exact ⟨y + 1, by omega, by go_num, HY2⟩
                            case measure => simp [intOf]; omega
                          | false =>
                            have HF := Lib.hid (HNA.out (fun h => by have := (HDEF.out y).1 ((h.2 x HAX.out).2.2 y hlty ((HDX.out y).2 hxy)); rw [hay] at this; cases this))
                            go_wp2_with (go_at_call 29; refine (Bit_ref _ _ (by assumption) (by omega) _).mono ?_; rintro e w' ⟨rfl, rfl⟩)
                            go_ret
                            exact ⟨by rw [HF.out]; rfl, rfl⟩
                      · have HX2 := Lib.hid (HNX.out (fun _ => ⟨hxn, H3.out, fun z hz => HY.out z (by omega)⟩))
                        go_wp2_with fail
                        go_round
                        case rel => exact ⟨x + 1, by omega, by go_num, HX2⟩
                        case measure => simp [intOf]; omega
              · have HF := Lib.hid (HNA.out (fun h => hxn (h.2 x HAX.out).1))
                have i3 : (ms.length : Int) ≤ (x : Int) := by omega
                go_wp2_with (go_at_call 29; refine (Bit_ref _ _ (by assumption) (by omega) _).mono ?_; rintro e w' ⟨rfl, rfl⟩)
                go_ret
                exact ⟨by rw [HF.out]; rfl, rfl⟩
          · have HJ2 := Lib.hid (show ∀ y, y < a + 1 → has ms y y ∧ ∀ b, b < 64 → BOk ms y b from fun y hy => by
              by_cases e : y = a
              · subst e; exact ⟨HAA.out, fun b hb => HX.out b (by omega)⟩
              · exact HJ.out y (by omega))
            go_wp2_with fail
            go_round
            case rel => exact ⟨a + 1, by omega, by go_num, HJ2⟩
            case measure => simp [intOf]; omega
    · have HF := Lib.hid (HYES.out (fun a ha => HJ.out a (by omega)))
      go_wp2_with fail
      go_ret
      exact ⟨by rw [HF.out]; rfl, rfl⟩
end Go.Proofs.YtkgcloggnnjioaaDoor
