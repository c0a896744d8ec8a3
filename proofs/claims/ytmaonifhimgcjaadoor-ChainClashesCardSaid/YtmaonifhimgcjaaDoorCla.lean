/-
  The walk of ChainClashes.
-/
import Derived.Test.YtmaonifhimgcjaaDoorRcm
import Derived.Test.YtmaonifhimgcjaaDoorHhw
set_option linter.unusedVariables false
set_option linter.unusedSimpArgs false
namespace Go.Proofs.YtmaonifhimgcjaaDoor
open Go.RowKit Nm

set_option maxRecDepth 100000 in
set_option maxHeartbeats 4000000 in
theorem clashes_walk (cut : Int) (q1 : Option Addr) (a : List En) (c1 : Nat) (q2 : Option Addr) (b : List En) (c2 : Nat) (w : World) (hE : Env3 w) (hA : Ens w q1 a) (hB : Ens w q2 b) (hca : a.length ≤ c1) (hcb : b.length ≤ c2) :
    Calls Tryd.prog 5 #[.int .i64 cut, .slice q1 a.length c1, .slice q2 b.length c2] w fun r w' => r = .returned (.bool true) ∧ Below w.heap.size w w' := by
  have HE := Lib.hid hE
  have HA := Lib.hid (show Rc w w q1 a q2 b from ⟨hA, hB, Below.refl _ _⟩)
  obtain ⟨i, hi, hz0, hz1, hz2⟩ := info_parts infoEn
  have HI := Lib.hid (show Tryd.prog.info? 24 = some i ∧ i.zero = some (.agg enZ.cells.toArray) ∧ i.size = 35 ∧ i.bytes = 72 from ⟨hi, hz0, hz1, hz2⟩)
  have HZ := Lib.hid (show (Value.agg enZ.cells.toArray).cells.size = 35 from En.asize enZ)
  clear hE hA hB hi hz0 hz1 hz2
  go_enter Tryd.func5, Tryd.ntmps5
  go_upto_region 3 with (go_at_call 13; refine (fixed_any _ HE.out).mono ?_; rintro r w1 ⟨rfl, hb⟩; have HA1 := Lib.hid (HA.out.on hb); clear hb)
  by_cases hbig : 20 < a.length
  · have h1 : (20 : Int) < (a.length : Int) := by omega
    go_wp2_with fail
    go_ret
    exact ⟨by rfl, HA1.out.bel⟩
  have h1 : (a.length : Int) ≤ 20 := by omega
  by_cases hbig2 : 20 < b.length
  · have h2 : (20 : Int) < (b.length : Int) := by omega
    go_wp2_with fail
    go_ret
    exact ⟨by rfl, HA1.out.bel⟩
  have h2 : (b.length : Int) ≤ 20 := by omega
  have h3 : decide ((20 : Int) < (b.length : Int)) = false := by simpa using h2
  have h4 : decide ((20 : Int) < (a.length : Int)) = false := by simpa using h1
  have HN := Lib.hid (show a.length ≤ 20 ∧ b.length ≤ 20 by omega)
  clear hbig hbig2
  have C1 := Lib.hid (fun q1 c1 q2 c2 X (h0 : Env X) (h1 : Ens X q1 a) (h2 : Ens X q2 b) => cclash_both cut q1 a c1 q2 b c2 X h0 h1 h2 (by have := HN.out; omega) (by have := HN.out; omega))
  have C2 := Lib.hid (fun X (h1 : Ens X q1 a) (h2 : Ens X q2 b) => rclash_both cut q1 a c1 q2 b c2 X h1 h2 hca hcb (by have := HN.out; omega) (by have := HN.out; omega))
  generalize clashR cut a b = R at *
  obtain ⟨X, Y, k⟩ := R
  have HNn := Lib.hid (show a.length ≤ maxLen ∧ b.length ≤ maxLen ∧ a.length * 72 ≤ 140737488355328 ∧ b.length * 72 ≤ 140737488355328 by have := HN.out; unfold maxLen; omega)
  go_upto_region 6 with (first
    | (go_at_call 20; refine (C1.out p5 c5 p6 c6 _ (HE.out.on HA6.out.1.bel).env HA6.out.2.1 HA6.out.2.2).mono ?_; rintro r w7 ⟨⟨x1, d1, y1, e1, rfl, hX, hY⟩, hb⟩; have HA7 := Lib.hid (HA6.out.1.on hb); have HR7 := Lib.hid (And.intro hX hY); clear hb hX hY)
    | (refine wpList_copyE EE rfl _ _ 34 rfl w5.heap.size 24 i _ 72 Tryd.underlying34 HI.out.1 HI.out.2.1 HI.out.2.2.1 HI.out.2.2.2 HZ.out (some ⟨w5.heap.size, 0, none⟩) 0 rfl (grw_made (Nat.le_refl _)) q2 b c2 rfl (rd_of_ens (HA5.out.1.on (below1 _ _)).eb) (by have := HN.out; unfold maxLen; omega) (by have := HN.out; omega) (by simp) ?_; intro p6 c6 w6 h6a h6b h6c h6d; have HA6 := Lib.hid (show Rc w6 w q1 a q2 b ∧ Ens w6 p5 a ∧ Ens w6 p6 b from ⟨HA5.out.1.on ((below1 w5 (.cells #[] 24)).trans h6d), HA5.out.2.on ((below1 w5 (.cells #[] 24)).trans h6d), ens_of_rd h6b HA5.out.1.eb.ok⟩); clear h6a h6b h6c h6d)
    | (refine wpList_copyE EE rfl _ _ 34 rfl w1.heap.size 24 i _ 72 Tryd.underlying34 HI.out.1 HI.out.2.1 HI.out.2.2.1 HI.out.2.2.2 HZ.out (some ⟨w1.heap.size, 0, none⟩) 0 rfl (grw_made (Nat.le_refl _)) q1 a c1 rfl (rd_of_ens (HA1.out.on (below1 _ _)).ea) (by have := HN.out; unfold maxLen; omega) (by have := HN.out; omega) (by simp) ?_; intro p5 c5 w5 h5a h5b h5c h5d; have HA5 := Lib.hid (show Rc w5 w q1 a q2 b ∧ Ens w5 p5 a from ⟨HA1.out.on ((below1 w1 (.cells #[] 24)).trans h5d), ens_of_rd h5b HA1.out.ea.ok⟩); clear h5a h5b h5c h5d))
  go_upto_region 7 with (go_at_call 21; refine (C2.out _ HA7.out.ea HA7.out.eb).mono ?_; rintro r w8 ⟨⟨x2, d2, y2, e2, rfl, hX, hY⟩, hb⟩; have HA8 := Lib.hid (HA7.out.on hb); have HR8 := Lib.hid (show Rd0 w8 x1 X ∧ Rd0 w8 y1 Y ∧ Rd0 w8 x2 X ∧ Rd0 w8 y2 Y from ⟨HR7.out.1.on hb, HR7.out.2.on hb, hX, hY⟩); clear hb hX hY)
  have v1 := run_back8 w8 x1 X d1 HR8.out.1
  have v2 := run_back8 w8 y1 Y e1 HR8.out.2.1
  have v3 := run_back8 w8 x2 X d2 HR8.out.2.2.1
  have v4 := run_back8 w8 y2 Y e2 HR8.out.2.2.2
  go_wp2_with fail
  go_ret
  exact ⟨by simp, HA8.out.bel⟩
end Go.Proofs.YtmaonifhimgcjaaDoor
