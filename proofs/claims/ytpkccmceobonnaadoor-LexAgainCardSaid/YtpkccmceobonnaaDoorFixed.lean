/-
  Contract: mandatelaw05.fixed answers true.
-/
import Derived.Test.YtpkccmceobonnaaDoorSame
import Derived.Test.YtpkccmceobonnaaDoorFixA
import Derived.Test.YtpkccmceobonnaaDoorAll
namespace Go.Proofs.YtpkccmceobonnaaDoor
open Go.RowKit

def FixedOk : Prop := ∀ w, Env w → Calls Tryd.prog 11 #[] w fun e w' => e = .returned (.bool true) ∧ Below w.heap.size w w'

/-- All at a text of an example -/
theorem all_at (l : List UInt8) (x : Toks) (h : allL l = x) (hs : l.length ≤ 4096) (w : World) (he : Env w) :
    Calls Tryd.prog 9 #[.string ⟨l.toArray⟩] w fun e w' => ∃ v, e = .returned (.tuple #[v, .int .i64 x.pl, .int .i64 x.err]) ∧ TokRow w' v x.toks ∧ Below w.heap.size w w' := by
  have hz : (⟨l.toArray⟩ : ByteArray).size ≤ 140737488351232 := by show l.length ≤ _; omega
  refine (all_any ⟨l.toArray⟩ w hz he).mono fun e w' hp => ?_
  obtain ⟨v, h1, h2, h3⟩ := hp
  rw [show (⟨l.toArray⟩ : ByteArray).data.toList = l from rfl, h] at h1 h2
  exact ⟨v, h1, h2, h3⟩

set_option maxHeartbeats 4000000 in
set_option maxRecDepth 100000 in
theorem fixed_any : FixedOk := by
  intro w he
  have HE := Lib.hid he
  clear he
  have HA := Lib.hid (fun wx he => all_at _ _ fix_a (by decide) wx he)
  have HB := Lib.hid (fun wx he => all_at _ _ fix_b (by decide) wx he)
  have HC := Lib.hid (fun wx he => all_at _ _ fix_c (by decide) wx he)
  have hd : ∀ wx, Env wx → Calls Tryd.prog 13 #[.string ⟨#[97, 32, 110, 111, 116]⟩, .int .i64 2] wx fun e w' => e = .returned (.tuple #[.agg #[.int .u8 5, .int .i64 2, .int .i64 5], .int .i64 0]) ∧ Below wx.heap.size wx w' := fun wx hx => by
    refine (one_any ⟨#[97, 32, 110, 111, 116]⟩ 2 wx (by decide) hx).mono fun e w' hp => ⟨?_, hp.2⟩
    rw [hp.1]
    unfold oneV
    rw [show (⟨#[97, 32, 110, 111, 116]⟩ : ByteArray).data.toList = [97, 32, 110, 111, 116] from rfl, fix_d]
    rfl
  have HD := Lib.hid hd
  clear hd
  have e1 := fun wx => eql32_self 4 4 6 wx
  have e2 := fun wx => eql32_self 3 11 13 wx
  have e3 := fun wx => eql32_self 5 2 5 wx
  go_enter Tryd.func11, Tryd.ntmps11
  go_wp2_with fail
  refine (HA.out _ HE.out).mono ?_
  rintro e w1 ⟨v1, rfl, hr1, hb1⟩
  obtain ⟨b1, c1, rfl, hl1, x0, x1, x2⟩ := hr1.at 4 (by decide)
  obtain ⟨b1', c1', hv, _, y0, y1, y2⟩ := hr1.at 9 (by decide)
  cases hv
  have HB1 := Lib.hid hb1
  clear hr1 hb1
  go_wp2_with fail
  refine (HB.out _ (HE.out.on HB1.out)).mono ?_
  rintro e w2 ⟨v2, rfl, hr2, hb2⟩
  obtain ⟨hc2, _⟩ := bcell hb2
  rw [← hc2 b1 _ hl1] at x0 x1 x2 y0 y1 y2
  have hl2 := Nat.lt_of_lt_of_le hl1 hb2.size
  have HB2 := Lib.hid (HB1.out.trans (hb2.mono HB1.out.size))
  clear hb2 hc2 hr2
  go_wp2_with fail
  refine (HC.out _ (HE.out.on HB2.out)).mono ?_
  rintro e w3 ⟨v3, rfl, ⟨q3, c3, rfl, hr3⟩, hb3⟩
  obtain ⟨hc3, _⟩ := bcell hb3
  rw [← hc3 b1 _ hl2] at x0 x1 x2 y0 y1 y2
  have hl3 := Nat.lt_of_lt_of_le hl2 hb3.size
  have HB3 := Lib.hid (HB2.out.trans (hb3.mono HB2.out.size))
  clear hb3 hc3 hr3
  go_wp2_with fail
  refine (HD.out _ (HE.out.on HB3.out)).mono ?_
  rintro e w4 ⟨rfl, hb4⟩
  obtain ⟨hc4, _⟩ := bcell hb4
  rw [← hc4 b1 _ hl3] at x0 x1 x2 y0 y1 y2
  have hl4 := Nat.lt_of_lt_of_le hl3 hb4.size
  have HB4 := Lib.hid (HB3.out.trans (hb4.mono HB3.out.size))
  clear hb4 hc4
  go_wp2_with fail
  go_ret
  exact ⟨rfl, HB4.out.alloc HB4.out.size _⟩
end Go.Proofs.YtpkccmceobonnaaDoor
