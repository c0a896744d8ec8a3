/-
  The least number's numeral.
-/
import Derived.Test.YtpkccmceobonnaaDoorNum
namespace Go.Proofs.YtpkccmceobonnaaDoor
open Go.RowKit

theorem dd_step (n q r : Nat) (h : n = 10 * q + r) (hr : r < 10) (hq : 0 < q) : Lib.decDigits n = Lib.decDigits q ++ [UInt8.ofNat (48 + r)] := by
  rw [Lib.decDigits, dif_neg (by omega), show n / 10 = q by omega, show n % 10 = r by omega]
theorem itoa_least : itoaS (-9223372036854775808) = ⟨#[45, 57, 50, 50, 51, 51, 55, 50, 48, 51, 54, 56, 53, 52, 55, 55, 53, 56, 48, 56]⟩ := by
  have e0 : Lib.decDigits 9 = [57] := by rw [Lib.decDigits, dif_pos (by decide)]; rfl
  have e1 : Lib.decDigits 922337203 = [57, 50, 50, 51, 51, 55, 50, 48, 51] := by
    rw [dd_step _ 92233720 3 rfl (by decide) (by decide), dd_step _ 9223372 0 rfl (by decide) (by decide), dd_step _ 922337 2 rfl (by decide) (by decide), dd_step _ 92233 7 rfl (by decide) (by decide), dd_step _ 9223 3 rfl (by decide) (by decide), dd_step _ 922 3 rfl (by decide) (by decide), dd_step _ 92 2 rfl (by decide) (by decide), dd_step _ 9 2 rfl (by decide) (by decide), e0]; rfl
  have e : Lib.decDigits 9223372036854775808 = [57, 50, 50, 51, 51, 55, 50, 48, 51, 54, 56, 53, 52, 55, 55, 53, 56, 48, 56] := by
    rw [dd_step _ 922337203685477580 8 rfl (by decide) (by decide), dd_step _ 92233720368547758 0 rfl (by decide) (by decide), dd_step _ 9223372036854775 8 rfl (by decide) (by decide), dd_step _ 922337203685477 5 rfl (by decide) (by decide), dd_step _ 92233720368547 7 rfl (by decide) (by decide), dd_step _ 9223372036854 7 rfl (by decide) (by decide), dd_step _ 922337203685 4 rfl (by decide) (by decide), dd_step _ 92233720368 5 rfl (by decide) (by decide), dd_step _ 9223372036 8 rfl (by decide) (by decide), dd_step _ 922337203 6 rfl (by decide) (by decide), e1]; rfl
  unfold itoaS Lib.itoa
  rw [if_pos (by decide), show ((-9223372036854775808 : Int)).natAbs = 9223372036854775808 from rfl, e]
theorem itoa_neg (n : Int) (h : n < 0) : itoaS n = (⟨#[45]⟩ : ByteArray) ++ ⟨(Lib.decDigits (-n).toNat).toArray⟩ := by
  unfold itoaS Lib.itoa
  rw [if_pos h, show n.natAbs = (-n).toNat by omega]
  apply ByteArray.ext
  rw [ByteArray.data_append]
  simp
theorem itoa_pos (n : Int) (h : 0 ≤ n) : itoaS n = ⟨(Lib.decDigits n.toNat).toArray⟩ := by
  unfold itoaS Lib.itoa
  rw [if_neg (by omega)]
end Go.Proofs.YtpkccmceobonnaaDoor
