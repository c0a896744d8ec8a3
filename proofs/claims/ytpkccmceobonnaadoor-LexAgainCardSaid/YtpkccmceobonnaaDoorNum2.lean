/-
  Contracts: the reference's Number at any number, and its Text.
-/
import Derived.Test.YtpkccmceobonnaaDoorNumA
import Derived.Test.YtpkccmceobonnaaDoorNumB
import Derived.Test.YtpkccmceobonnaaDoorNumC
namespace Go.Proofs.YtpkccmceobonnaaDoor
open Go.RowKit

theorem number_any (n : Int) (w : World) (h0 : -9223372036854775808 ≤ n) (h1 : n ≤ 9223372036854775807) :
    Calls Tryd.prog 27 #[.int .i64 n] w fun e w' => e = .returned (.string (itoaS n)) ∧ Below w.heap.size w w' := by
  by_cases hp : 0 ≤ n
  · rw [itoa_pos n hp]; exact number_pos n w hp h1
  · by_cases hl : n = -9223372036854775808
    · rw [show itoaS n = _ from hl ▸ itoa_least]
      exact number_least n w (by rw [hl]; rfl)
    · have e : (10 : Nat) ^ (19 + 1) = 100000000000000000000 := by decide
      have hz : (⟨(Lib.decDigits (-n).toNat).toArray⟩ : ByteArray).size ≤ 30 := by
        show (Lib.decDigits (-n).toNat).length ≤ 30
        have := dec_len 19 (-n).toNat (by omega)
        omega
      rw [itoa_neg n (by omega)]
      exact number_neg n _ w (by omega) (by omega) hz rfl

end Go.Proofs.YtpkccmceobonnaaDoor
