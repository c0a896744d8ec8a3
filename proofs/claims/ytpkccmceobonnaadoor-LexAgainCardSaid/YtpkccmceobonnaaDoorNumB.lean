/-
  Contract: the reference's Number below zero.
-/
import Derived.Test.YtpkccmceobonnaaDoorNum
namespace Go.Proofs.YtpkccmceobonnaaDoor
open Go.RowKit

set_option maxHeartbeats 200000 in
set_option maxRecDepth 100000 in
theorem number_neg (n : Int) (d : ByteArray) (w : World) (h0 : -9223372036854775808 < n) (h1 : n < 0) (hz : d.size ≤ 30) (hd : d = ⟨(Lib.decDigits (-n).toNat).toArray⟩) :
    Calls Tryd.prog 27 #[.int .i64 n] w fun e w' => e = .returned (.string ((⟨#[45]⟩ : ByteArray) ++ d)) ∧ Below w.heap.size w w' := by
  have g0 : (n == -9223372036854775808) = false := by rw [beq_eq_false_iff_ne]; omega
  have hc : ∀ wx, Calls Tryd.prog 27 #[.int .i64 (-n)] wx fun e w' => e = .returned (.string d) ∧ Below wx.heap.size wx w' := by
    intro wx; rw [hd]; exact number_pos (-n) wx (by omega) (by omega)
  have HC := Lib.hid hc
  clear hc hd
  go_enter Tryd.func27, Tryd.ntmps27
  go_wp2_with fail
  refine (HC.out _).mono ?_
  rintro e w1 ⟨rfl, hb⟩
  go_wp2_with fail
  go_ret
  exact ⟨rfl, hb⟩
end Go.Proofs.YtpkccmceobonnaaDoor
