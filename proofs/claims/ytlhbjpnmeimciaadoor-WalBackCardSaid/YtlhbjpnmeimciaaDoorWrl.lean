/-
  The walk of WalRecords.
-/
import Derived.Test.YtlhbjpnmeimciaaDoorWrb
set_option linter.unusedVariables false
set_option linter.unusedSimpArgs false
namespace Go.Proofs.YtlhbjpnmeimciaaDoor
open Go.RowKit

/-- what is kept of the argument -/
structure Ap (X w : World) (p : Option Addr) (m : List UInt8) : Prop where
  env : Env X
  rd : Rd0 X p m
  bel : Below w.heap.size w X
theorem Ap.on {X X' w : World} {p : Option Addr} {m : List UInt8} (h : Ap X w p m) (hb : Below X.heap.size X X') : Ap X' w p m := ⟨h.env.on hb h.env.size, h.rd.on hb, h.bel.trans (hb.mono h.bel.size)⟩

set_option maxRecDepth 100000 in
set_option maxHeartbeats 4000000 in
theorem records_walk (n : Int) (hi : n ≤ 9223372036854775807) (p : Option Addr) (k : Nat) (m : List UInt8) (hk : k = m.length) (d : Nat) (hd : m.length ≤ d) (w : World) (hE : Env w) (hm : Rd0 w p m) :
    Calls Tryd.prog 3 #[.int .i64 n, .slice p k d] w fun r w' => r = .returned (.bool true) ∧ Below w.heap.size w w' := by
  have HA := Lib.hid (show Ap w w p m from ⟨hE, hm, Below.refl _ _⟩)
  have HK := Lib.hid hk
  have HD := Lib.hid hd
  have C1 := Lib.hid (fun q c X (h1 : Ap X w p m) (h2 : Rd0 X q m) (h3 : m.length ≤ c) => record_both n hi q k c m hk X h2 h3 h1.env)
  have C2 := Lib.hid (fun X (h1 : Ap X w p m) => refrecord_both n hi p k d m hk X h1.rd hd)
  clear hE hm hk hd hi
  go_enter Tryd.func3, Tryd.ntmps3
  go_upto_region 3 with (go_at_call 9; refine (wfixed_any _ HA.out.env).mono ?_; rintro r w1 ⟨rfl, hb⟩; have HA1 := Lib.hid (HA.out.on hb); clear hb)
  by_cases hbig : 9000 < k
  · have h1 : (9000 : Int) < (k : Int) := by omega
    go_wp2_with fail
    go_ret
    exact ⟨by rfl, HA1.out.bel⟩
  have h1 : (k : Int) ≤ 9000 := by omega
  have HN := Lib.hid (show k ≤ 9000 by omega)
  clear hbig
  generalize recR n m = L at *
  generalize recE n m = f at *
  go_upto_region 6 with (first
    | (go_at_call 10; refine (C1.out p5 c5 _ HA5.out.1 HA5.out.2 hl5).mono ?_; rintro r w6 ⟨q6, c6, rfl, hR, hb⟩; have HA6 := Lib.hid (HA5.out.1.on hb); have HR6 := Lib.hid hR; clear hb hR)
    | (refine wpList_app8 rfl _ _ rfl rfl w1.heap.size _ [] rfl (acc_made (Nat.le_refl _)) p m k d rfl HK.out (HA1.out.on (below1 _ _)).rd (by have := HN.out; have := HK.out; simp; omega) (by simp) ?_; intro v5 w5 hA5 hb5; obtain ⟨p5, c5, he5, hl5, hr5⟩ := hA5.rd; rw [List.nil_append] at he5 hl5 hr5; rw [← HK.out] at he5; subst he5; have HA5 := Lib.hid (show Ap w5 w p m ∧ Rd0 w5 p5 m from ⟨HA1.out.on ((below1 w1 (.cells #[] 5)).trans (hb5.mono (by simp))), hr5⟩); clear hA5 hb5 hr5))
  go_upto_region 7 with (go_at_call 11; refine (C2.out _ HA6.out).mono ?_; rintro r w7 ⟨q7, c7, rfl, hR, hb⟩; have HA7 := Lib.hid (HA6.out.on hb); have HR7 := Lib.hid (show Rd0 w7 q6 L ∧ Rd0 w7 q7 L from ⟨HR6.out.on hb, hR⟩); clear hb hR)
  have hcv1 := run_back8 w7 q6 L c6 HR7.out.1
  have hcv2 := run_back8 w7 q7 L c7 HR7.out.2
  clear C1 C2
  go_wp2_with fail
  go_ret
  exact ⟨by rfl, HA7.out.bel⟩
end Go.Proofs.YtlhbjpnmeimciaaDoor
