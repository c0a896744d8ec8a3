/-
  The walk of WalScans.
-/
import Derived.Test.YtnhnmlkfpnbfjaaDoorWsa
import Derived.Test.YtnhnmlkfpnbfjaaDoorWrl
set_option linter.unusedVariables false
set_option linter.unusedSimpArgs false
namespace Go.Proofs.YtnhnmlkfpnbfjaaDoor
open Go.RowKit

set_option maxRecDepth 100000 in
set_option maxHeartbeats 4000000 in
theorem scans_walk (p : Option Addr) (k : Nat) (m : List UInt8) (hk : k = m.length) (d : Nat) (hd : m.length ≤ d) (w : World) (hE : Env w) (hm : Rd0 w p m) :
    Calls Tryd.prog 4 #[.slice p k d] w fun r w' => r = .returned (.bool true) ∧ Below w.heap.size w w' := by
  have HA := Lib.hid (show Ap w w p m from ⟨hE, hm, Below.refl _ _⟩)
  have HK := Lib.hid hk
  have HD := Lib.hid hd
  clear hE hm hk hd
  go_enter Tryd.func4, Tryd.ntmps4
  go_upto_region 3 with (go_at_call 9; refine (wfixed_any _ HA.out.env).mono ?_; rintro r w1 ⟨rfl, hb⟩; have HA1 := Lib.hid (HA.out.on hb); clear hb)
  by_cases hbig : 5000 < k
  · have h1 : (5000 : Int) < (k : Int) := by omega
    go_wp2_with fail
    go_ret
    exact ⟨by rfl, HA1.out.bel⟩
  have h1 : (k : Int) ≤ 5000 := by omega
  have HN := Lib.hid (show k ≤ 5000 by omega)
  clear hbig
  have C1 := Lib.hid (fun q c X (h1 : Env X) (h2 : Rd0 X q m) (h3 : m.length ≤ c) => scan_any q k c m HK.out X h2 h3 h1 (by have := HK.out; have := HN.out; omega))
  have C2 := Lib.hid (fun X (h2 : Rd0 X p m) => refscan_any p k d m HK.out X h2 HD.out (by have := HK.out; have := HN.out; omega))
  generalize (scanG m 0 [] 0).1 = F at *
  generalize (scanG m 0 [] 0).2.2 = E at *
  generalize (scanG m 0 [] 0).2.1 = O at *
  go_upto_region 6 with (first
    | (go_at_call 12; refine (C1.out p5 c5 _ HA5.out.1.env HA5.out.2 hl5).mono ?_; rintro r w6 ⟨⟨v6, l6, rfl, hP, hM⟩, hb⟩; have HA6 := Lib.hid (HA5.out.1.on hb); have HP6 := Lib.hid hP; have HM6 := Lib.hid hM; clear hb hP hM)
    | (refine wpList_app8 rfl _ _ rfl rfl w1.heap.size _ [] rfl (acc_made (Nat.le_refl _)) p m k d rfl HK.out (HA1.out.on (below1 _ _)).rd (by have := HN.out; have := HK.out; simp; omega) (by simp) ?_; intro v5 w5 hA5 hb5; obtain ⟨p5, c5, he5, hl5, hr5⟩ := hA5.rd; rw [List.nil_append] at he5 hl5 hr5; rw [← HK.out] at he5; subst he5; have HA5 := Lib.hid (show Ap w5 w p m ∧ Rd0 w5 p5 m from ⟨HA1.out.on ((below1 w1 (.cells #[] 5)).trans (hb5.mono (by simp))), hr5⟩); clear hA5 hb5 hr5))
  go_upto_region 7 with (go_at_call 13; refine (C2.out _ HA6.out.rd).mono ?_; rintro r w7 ⟨⟨v7, l7, rfl, hP, hM⟩, hb⟩; have HA7 := Lib.hid (HA6.out.on hb); have HP7 := Lib.hid hP; have HM7 := Lib.hid hM; have HPA := Lib.hid (HP6.out.on hb); clear hb hP hM)
  obtain ⟨p6, d6, rfl, _⟩ := HPA.out.form
  obtain ⟨p7, d7, rfl, _⟩ := HP7.out.form
  have HL6 := Lib.hid (show l6.length = O.length by rw [← HM6.out, List.length_map])
  have HL7 := Lib.hid (show l7.length = O.length by rw [← HM7.out, List.length_map])
  have hPA := HPA.out
  have hP7 := HP7.out
  rw [HL6.out] at hPA ⊢
  rw [HL7.out] at hP7 ⊢
  have CS := Lib.hid (same_any _ _ p6 p7 d6 d7 O.length l6 l7 w7 hPA hP7 HL6.out HL7.out (by rw [HM6.out, HM7.out]))
  generalize O.length = K at *
  clear C1 C2 HPA HP7 hPA hP7 HP6 HL6 HL7
  go_wp2_with (go_at_call 14; refine CS.out.mono ?_; rintro r w8 ⟨rfl, hb⟩; have HA8 := Lib.hid (HA7.out.on hb); clear hb)
  go_ret
  exact ⟨by rfl, HA8.out.bel⟩
end Go.Proofs.YtnhnmlkfpnbfjaaDoor
