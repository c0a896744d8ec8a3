/-
  The walk of ChainHeads.
-/
import Derived.Test.YtammglimobninaaDoorHrv
set_option linter.unusedVariables false
set_option linter.unusedSimpArgs false
namespace Go.Proofs.YtammglimobninaaDoor
open Go.RowKit Nm

def encEn (e : En) : List Value := e.cells
theorem EE : Enc encEn 35 := ⟨fun _ => En.length, by decide, fun e u hu => by
  simp only [encEn, En.cells, List.mem_cons] at hu
  rcases hu with rfl | rfl | rfl | hu
  · rfl
  · rfl
  · rfl
  · obtain ⟨x, _, rfl⟩ := List.mem_map.1 hu; rfl⟩
theorem ens_of_rd {w : World} {q : Option Addr} {l : List En} (h : Rd encEn 35 w w.heap.size q l) (hk : ∀ e ∈ l, e.Ok) : Ens w q l := by
  refine ⟨?_, hk⟩
  rcases h with h | ⟨b, off, h1, h2, h3⟩
  · exact .inl h
  · exact .inr ⟨b, off, h1, h2, fun i hi j v hv => h3 i hi j v hv⟩
theorem rd_of_ens {w : World} {q : Option Addr} {l : List En} (h : Ens w q l) : Rd encEn 35 w w.heap.size q l := by
  rcases h.at_ with h | ⟨b, off, h1, h2, h3⟩
  · exact .inl h
  · exact .inr ⟨b, off, h1, h2, fun i hi j v hv => h3 i hi j v hv⟩
theorem infoEn : (Tryd.prog.info? 24).map (fun i => (i.zero, i.size, i.bytes)) = some (some (.agg enZ.cells.toArray), 35, 72) := by kernel_rfl
theorem verS_self (cut : Int) (l : List En) : verS cut l (headS cut l) = headE cut l := by
  unfold verS headE
  simp
/-- what is kept of the arguments -/
structure Ag (X w : World) (q : Option Addr) (l : List En) (p : Option Addr) (m : List UInt8) : Prop where
  ens : Ens X q l
  rd : Rd0 X p m
  bel : Below w.heap.size w X
theorem Ag.on {X X' w : World} {q p : Option Addr} {l : List En} {m : List UInt8} (h : Ag X w q l p m) (hb : Below X.heap.size X X') : Ag X' w q l p m := ⟨h.ens.on hb, h.rd.on hb, h.bel.trans (hb.mono h.bel.size)⟩

set_option maxRecDepth 100000 in
set_option maxHeartbeats 4000000 in
theorem heads_walk (cut : Int) (q : Option Addr) (l : List En) (c : Nat) (p : Option Addr) (m : List UInt8) (d : Nat) (w : World) (hE : Env3 w) (hL : Ens w q l) (hm : Rd0 w p m) :
    Calls Tryd.prog 4 #[.int .i64 cut, .slice q l.length c, .slice p m.length d] w fun r w' => r = .returned (.bool true) ∧ Below w.heap.size w w' := by
  have HE := Lib.hid hE
  have HA := Lib.hid (show Ag w w q l p m from ⟨hL, hm, Below.refl _ _⟩)
  obtain ⟨i, hi, hz0, hz1, hz2⟩ := info_parts infoEn
  have HI := Lib.hid (show Tryd.prog.info? 24 = some i ∧ i.zero = some (.agg enZ.cells.toArray) ∧ i.size = 35 ∧ i.bytes = 72 from ⟨hi, hz0, hz1, hz2⟩)
  have HZ := Lib.hid (show (Value.agg enZ.cells.toArray).cells.size = 35 from En.asize enZ)
  clear hE hL hm hi hz0 hz1 hz2
  go_enter Tryd.func4, Tryd.ntmps4
  go_upto_region 3 with (go_at_call 13; refine (fixed_any _ HE.out).mono ?_; rintro r w1 ⟨rfl, hb⟩; have HA1 := Lib.hid (HA.out.on hb); clear hb)
  by_cases hbig : 30 < l.length
  · have h1 : (30 : Int) < (l.length : Int) := by omega
    go_wp2_with fail
    go_ret
    exact ⟨by rfl, HA1.out.bel⟩
  have h1 : (l.length : Int) ≤ 30 := by omega
  have HN := Lib.hid (show l.length ≤ 30 by omega)
  clear hbig
  have HV := Lib.hid (verS_self cut l)
  have C1 := Lib.hid (fun q c X (h1 : Env X) (h2 : Ens X q l) => chead_both cut q l c X h1 h2 (by have := HN.out; omega))
  have C2 := Lib.hid (fun q c X (h2 : Ens X q l) => rhead_both cut q l c X h2 (by have := HN.out; omega))
  have C3 := Lib.hid (fun q c p m d X (h1 : Env X) (h2 : Ens X q l) (h3 : Rd0 X p m) => cverify_any cut q l c p m d X h1 h2 (by have := HN.out; omega) h3)
  have C4 := Lib.hid (fun q c p m d X (h2 : Ens X q l) (h3 : Rd0 X p m) => rverify_any cut q l c p m d X h2 (by have := HN.out; omega) h3)
  generalize headS cut l = L at *
  generalize headE cut l = n at *
  go_upto_region 6 with (first
    | (go_at_call 16; refine (C1.out p5 c5 _ (HE.out.on HA5.out.1.bel).env HA5.out.2).mono ?_; rintro r w6 ⟨q6, c6, rfl, hR, hb⟩; have HA6 := Lib.hid (HA5.out.1.on hb); have HR6 := Lib.hid hR; clear hb hR)
    | (refine wpList_copyE EE rfl _ _ 34 rfl w1.heap.size 24 i _ 72 Tryd.underlying34 HI.out.1 HI.out.2.1 HI.out.2.2.1 HI.out.2.2.2 HZ.out (some ⟨w1.heap.size, 0, none⟩) 0 rfl (grw_made (Nat.le_refl _)) q l c rfl (rd_of_ens (HA1.out.on (below1 _ _)).ens) (by have := HN.out; unfold maxLen; omega) (by have := HN.out; omega) (by simp) ?_; intro p5 c5 w5 h5a h5b h5c h5d; have HA5 := Lib.hid (show Ag w5 w q l p m ∧ Ens w5 p5 l from ⟨HA1.out.on ((below1 w1 (.cells #[] 24)).trans h5d), ens_of_rd h5b HA1.out.ens.ok⟩); clear h5a h5b h5c h5d))
  go_upto_region 7 with (go_at_call 17; refine (C2.out q c _ HA6.out.ens).mono ?_; rintro r w7 ⟨q7, c7, rfl, hR, hb⟩; have HA7 := Lib.hid (HA6.out.on hb); have HR7 := Lib.hid (show Rd0 w7 q6 L ∧ Rd0 w7 q7 L from ⟨HR6.out.on hb, hR⟩); clear hb hR)
  have hcv1 := run_back8 w7 q6 L c6 HR7.out.1
  have hcv2 := run_back8 w7 q7 L c7 HR7.out.2
  go_upto_region 9 with (fail)
  clear hcv1 hcv2
  go_wp2_with (first
    | (go_at_call 18; refine (C3.out q c q7 L c7 _ (HE.out.on HA9.out.1.bel).env HA9.out.1.ens HA9.out.2).mono ?_; rw [HV.out]; rintro r w10 ⟨rfl, hb⟩; have HA10 := Lib.hid (HA9.out.1.on hb); clear hb)
    | (go_at_call 19; refine (C4.out q c p m d _ HA8.out.1.ens HA8.out.1.rd).mono ?_; rintro r w9 ⟨rfl, hb⟩; have HA9 := Lib.hid (show Ag w9 w q l p m ∧ Rd0 w9 q7 L from ⟨HA8.out.1.on hb, HA8.out.2.on hb⟩); clear hb)
    | (go_at_call 18; refine (C3.out q c p m d _ (HE.out.on HA7.out.bel).env HA7.out.ens HA7.out.rd).mono ?_; rintro r w8 ⟨rfl, hb⟩; have HA8 := Lib.hid (show Ag w8 w q l p m ∧ Rd0 w8 q7 L from ⟨HA7.out.on hb, HR7.out.2.on hb⟩); clear hb))
  go_ret
  exact ⟨by rfl, HA10.out.bel⟩
end Go.Proofs.YtammglimobninaaDoor
