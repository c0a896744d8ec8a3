/-
  The walk of mandatelaw05.LexJoins: it answers true.
-/
import Derived.Test.YtpkccmceobonnaaDoorJoinA
import Derived.Test.YtpkccmceobonnaaDoorOnesW
namespace Go.Proofs.YtpkccmceobonnaaDoor
open Go.RowKit

set_option maxHeartbeats 1000000 in
theorem all_long (s : ByteArray) (w : World) (hm : s.size ≤ 281474976710656) (h : 4096 < s.size) :
    Calls Tryd.prog 9 #[.string s] w fun e w' => e = .returned (.tuple #[.slice none 0 0, .int .i64 0, .int .i64 2]) ∧ w' = w := by
  go_enter Tryd.func9, Tryd.ntmps9
  go_wp2_with fail
  go_ret3
  exact ⟨rfl, rfl⟩
/-- the joined text -/
def joinS (a b : ByteArray) : ByteArray := a ++ ⟨#[32]⟩ ++ b
theorem joinS_list (a b : ByteArray) : (joinS a b).data.toList = a.data.toList ++ 32 :: b.data.toList := by
  unfold joinS; rw [ByteArray.data_append, ByteArray.data_append]; simp
theorem joinS_size (a b : ByteArray) : (joinS a b).size = a.size + 1 + b.size := by
  show (joinS a b).data.size = _
  rw [← Array.length_toList, joinS_list]; simp; omega

/-- what All answers, its parts by name -/
theorem all_parts (s : ByteArray) (l : List Tok) (p x : Int) (hl : (allL s.data.toList).toks = l) (hp : (allL s.data.toList).pl = p) (hx : (allL s.data.toList).err = x) (w : World) (hm : s.size ≤ 140737488351232) (he : Env w) :
    Calls Tryd.prog 9 #[.string s] w fun e w' => ∃ v, e = .returned (.tuple #[v, .int .i64 p, .int .i64 x]) ∧ TokRow w' v l ∧ Below w.heap.size w w' := by
  subst hl hp hx; exact all_any s w hm he

set_option maxHeartbeats 4000000 in
set_option maxRecDepth 100000 in
theorem join_long (hfix : FixedOk) (a b : ByteArray) (w : World) (he : Env w) (ha : a.size ≤ 140737488351232) (hb : b.size ≤ 140737488351232) (h : 4096 < a.size + 1 + b.size) :
    Calls Tryd.prog 7 #[.string a, .string b] w fun e w' => e = .returned (.bool true) ∧ Below w.heap.size w w' := by
  have HE := Lib.hid he
  have HFX := Lib.hid hfix
  have HAL := Lib.hid (fun wx => all_long (joinS a b) wx (by rw [joinS_size]; omega) (by rw [joinS_size]; omega))
  have hc : 4096 < a.size ∨ (¬ 4096 < a.size ∧ 4096 < b.size) ∨ (¬ 4096 < a.size ∧ ¬ 4096 < b.size ∧ (4096 : Int) < (a.size : Int) + 1 + (b.size : Int)) := by omega
  have HC := Lib.hid hc
  clear he hfix h hc
  have HA := Lib.hid (fun wx he => all_any a wx ha he)
  have HB := Lib.hid (fun wx he => all_any b wx hb he)
  go_enter Tryd.func7, Tryd.ntmps7
  go_wp2_with fail
  refine (HFX.out _ HE.out).mono ?_
  rintro e w0 ⟨rfl, hb0⟩
  have HB0 := Lib.hid hb0
  clear hb0
  go_wp2_with fail
  refine (HA.out _ (HE.out.on HB0.out)).mono ?_
  rintro e w1 ⟨v1, rfl, hr1, hb1⟩
  have HB1 := Lib.hid (HB0.out.trans (hb1.mono HB0.out.size))
  clear hb1 hr1
  generalize (allL a.data.toList).pl = P1 at *
  generalize (allL a.data.toList).err = X1 at *
  go_wp2_with fail
  refine (HB.out _ (HE.out.on HB1.out)).mono ?_
  rintro e w2 ⟨v2, rfl, hr2, hb2⟩
  have HB2 := Lib.hid (HB1.out.trans (hb2.mono HB1.out.size))
  clear hb2 hr2
  generalize (allL b.data.toList).pl = P2 at *
  generalize (allL b.data.toList).err = X2 at *
  go_wp2_with fail
  refine (HAL.out _).mono ?_
  rintro e w3 ⟨rfl, hw3⟩
  subst hw3
  rcases HC.out with h | ⟨h, h2⟩ | ⟨h, h2, h3⟩
  all_goals
    go_wp2_with fail
    go_ret
    exact ⟨rfl, HB2.out⟩

set_option maxHeartbeats 4000000 in
set_option maxRecDepth 100000 in
theorem join_err (hfix : FixedOk) (a b : ByteArray) (w : World) (he : Env w) (h : ¬ 4096 < a.size ∧ ¬ 4096 < b.size ∧ ¬ (4096 : Int) < (a.size : Int) + 1 + (b.size : Int)) (X1 X2 X3 : Int)
    (hx1 : (allL a.data.toList).err = X1) (hx2 : (allL b.data.toList).err = X2) (hx3 : (allL (joinS a b).data.toList).err = X3) (hc : (X1 != 0) = true ∧ (X3 == X1) = true ∨ (X1 != 0) = false ∧ (X2 != 0) = true ∧ (X3 == X2) = true) :
    Calls Tryd.prog 7 #[.string a, .string b] w fun e w' => e = .returned (.bool true) ∧ Below w.heap.size w w' := by
  have HE := Lib.hid he
  have HFX := Lib.hid hfix
  have HA := Lib.hid (fun wx he => all_parts a _ _ X1 rfl rfl hx1 wx (by omega) he)
  have HB := Lib.hid (fun wx he => all_parts b _ _ X2 rfl rfl hx2 wx (by omega) he)
  have HJ := Lib.hid (fun wx he => all_parts (joinS a b) _ _ X3 rfl rfl hx3 wx (by rw [joinS_size]; omega) he)
  have HC := Lib.hid hc
  obtain ⟨h1, h2, h3⟩ := h
  clear he hfix hx1 hx2 hx3 hc
  generalize (allL a.data.toList).pl = P1 at *
  generalize (allL b.data.toList).pl = P2 at *
  generalize (allL (joinS a b).data.toList).pl = P3 at *
  go_enter Tryd.func7, Tryd.ntmps7
  go_wp2_with fail
  refine (HFX.out _ HE.out).mono ?_
  rintro e w0 ⟨rfl, hb0⟩
  have HB0 := Lib.hid hb0
  clear hb0
  go_wp2_with fail
  refine (HA.out _ (HE.out.on HB0.out)).mono ?_
  rintro e w1 ⟨v1, rfl, hr1, hb1⟩
  have HB1 := Lib.hid (HB0.out.trans (hb1.mono HB0.out.size))
  clear hb1 hr1
  go_wp2_with fail
  refine (HB.out _ (HE.out.on HB1.out)).mono ?_
  rintro e w2 ⟨v2, rfl, hr2, hb2⟩
  have HB2 := Lib.hid (HB1.out.trans (hb2.mono HB1.out.size))
  clear hb2 hr2
  go_wp2_with fail
  refine (HJ.out _ (HE.out.on HB2.out)).mono ?_
  rintro e w3 ⟨v3, rfl, hr3, hb3⟩
  have HB3 := Lib.hid (HB2.out.trans (hb3.mono HB2.out.size))
  clear hb3 hr3
  rcases HC.out with ⟨g1, g2⟩ | ⟨g1, g2, g3⟩
  all_goals
    go_wp2_with fail
    go_ret
    exact ⟨rfl, HB3.out⟩

set_option maxHeartbeats 8000000 in
set_option maxRecDepth 100000 in
theorem join_ok (hfix : FixedOk) (a b : ByteArray) (w : World) (he : Env w) (h : ¬ 4096 < a.size ∧ ¬ 4096 < b.size ∧ ¬ (4096 : Int) < (a.size : Int) + 1 + (b.size : Int)) (l1 l2 l3 : List Tok)
    (hx1 : (allL a.data.toList).err = 0) (hx2 : (allL b.data.toList).err = 0) (hx3 : (allL (joinS a b).data.toList).err = 0)
    (hl1 : (allL a.data.toList).toks = l1) (hl2 : (allL b.data.toList).toks = l2) (hl3 : (allL (joinS a b).data.toList).toks = l3) (hl : l3 = l1 ++ l2.map (shT (a.size + 1))) (hz1 : l1.length ≤ 5000) (hz2 : l2.length ≤ 5000)
    (hbd : ∀ t ∈ l2, ∃ p q : Nat, t.fr = p ∧ t.to = q ∧ p < q ∧ q ≤ 4096) :
    Calls Tryd.prog 7 #[.string a, .string b] w fun e w' => e = .returned (.bool true) ∧ Below w.heap.size w w' := by
  have HE := Lib.hid he
  have HFX := Lib.hid hfix
  have HA := Lib.hid (fun wx he => all_parts a l1 _ 0 hl1 rfl hx1 wx (by omega) he)
  have HB := Lib.hid (fun wx he => all_parts b l2 _ 0 hl2 rfl hx2 wx (by omega) he)
  have HJ := Lib.hid (fun wx he => all_parts (joinS a b) l3 _ 0 hl3 rfl hx3 wx (by rw [joinS_size]; omega) he)
  have HL := Lib.hid hl
  have HBD := Lib.hid hbd
  have hlen : l3.length = l1.length + l2.length := by rw [hl]; simp
  have HLEN := Lib.hid hlen
  have hlen1 : ((l3.length : Int) != (l1.length : Int) + (l2.length : Int)) = false := by rw [hlen]; simp
  have hlen2 : (l3.length != l1.length + l2.length) = false := by rw [hlen]; simp
  obtain ⟨h1, h2, h3⟩ := h
  clear he hfix hx1 hx2 hx3 hl1 hl2 hl3 hl hbd hlen
  generalize (allL a.data.toList).pl = P1 at *
  generalize (allL b.data.toList).pl = P2 at *
  generalize (allL (joinS a b).data.toList).pl = P3 at *
  go_enter Tryd.func7, Tryd.ntmps7
  go_wp2_with fail
  refine (HFX.out _ HE.out).mono ?_
  rintro e w0 ⟨rfl, hb0⟩
  have HB0 := Lib.hid hb0
  clear hb0
  go_wp2_with fail
  refine (HA.out _ (HE.out.on HB0.out)).mono ?_
  rintro e w1 ⟨v1, rfl, hr1, hb1⟩
  have HB1 := Lib.hid (HB0.out.trans (hb1.mono HB0.out.size))
  have HR1 := Lib.hid hr1
  obtain ⟨q1, c1, rfl, _⟩ := hr1
  clear hb1
  go_wp2_with fail
  refine (HB.out _ (HE.out.on HB1.out)).mono ?_
  rintro e w2 ⟨v2, rfl, hr2, hb2⟩
  have HB2 := Lib.hid (HB1.out.trans (hb2.mono HB1.out.size))
  have HR1b := Lib.hid (HR1.out.below hb2)
  have HR2 := Lib.hid hr2
  obtain ⟨q2, c2, rfl, _⟩ := hr2
  clear hb2
  go_wp2_with fail
  refine (HJ.out _ (HE.out.on HB2.out)).mono ?_
  rintro e w3 ⟨v3, rfl, hr3, hb3⟩
  have HB3 := Lib.hid (HB2.out.trans (hb3.mono HB2.out.size))
  have HR1c := Lib.hid (HR1b.out.below hb3)
  have HR2c := Lib.hid (HR2.out.below hb3)
  have HR3 := Lib.hid hr3
  obtain ⟨q3, c3, rfl, _⟩ := hr3
  clear hb3 HR1 HR1b HR2
  go_wp2_with fail
  go_loopw [14] (fun i wr => ∃ k : Nat, k ≤ l3.length ∧ i = .int .i64 k ∧ Below w3.heap.size w3 wr) (fun i _ => l3.length - (intOf i).toNat)
  case atStart => exact ⟨0, Nat.zero_le _, rfl, Below.refl _ _⟩
  case round =>
    obtain ⟨k, hk, rfl, hb⟩ := hrel
    have HBW := Lib.hid (HB3.out.trans (hb.mono HB3.out.size))
    by_cases hlt : k < l3.length
    · obtain ⟨b3, d3, e3, hl3, x0, x1, x2⟩ := (HR3.out.below hb).at k hlt
      cases e3
      by_cases hlx : k < l1.length
      · obtain ⟨b1, d1, e1, hl1, y0, y1, y2⟩ := (HR1c.out.below hb).at k hlx
        cases e1
        have ht : l3[k] = l1[k] := by
          have : l3[k]? = l1[k]? := by rw [HL.out, List.getElem?_append_left hlx]
          rw [List.getElem?_eq_getElem hlt, List.getElem?_eq_getElem hlx] at this
          exact Option.some.inj this
        rw [ht] at x0 x1 x2
        clear ht
        have HBO := Lib.hid hb
        clear hb
        have hn := fun (wx : World) => neq32_self l1[k].kind l1[k].fr l1[k].to wx
        have g1 : ¬ l1.length ≤ k := by omega
        go_wp2_with fail
        go_quiet (fail)
        go_wp2_with fail
        exact ⟨⟨k + 1, by omega, by go_num, below_drewN' HBO.out _⟩, by simp [intOf]; omega⟩
      · have hlen := HLEN.out
        have hly : k - l1.length < l2.length := by omega
        obtain ⟨b2, d2, e2, hl2, y0, y1, y2⟩ := (HR2c.out.below hb).at (k - l1.length) hly
        cases e2
        have ht : l3[k] = shT (a.size + 1) l2[k - l1.length] := by
          have : l3[k]? = (l2.map (shT (a.size + 1)))[k - l1.length]? := by rw [HL.out, List.getElem?_append_right (by omega)]
          rw [List.getElem?_eq_getElem hlt, List.getElem?_map, List.getElem?_eq_getElem hly] at this
          exact Option.some.inj this
        obtain ⟨p, q, hp, hq, hpq, hq4⟩ := HBD.out l2[k - l1.length] (List.getElem_mem hly)
        rw [ht] at x0 x1 x2
        unfold shT at x0 x1 x2
        simp only [hp, hq] at x0 x1 x2 y1 y2
        clear ht hp hq hlen
        have HBO := Lib.hid hb
        clear hb
        generalize l2[k - l1.length].kind = K at *
        have hj : (k : Int) - (l1.length : Int) = ((k - l1.length : Nat) : Int) := by omega
        generalize k - l1.length = m at *
        have e1 : (p : Int) + ((a.size + 1 : Nat) : Int) = (p : Int) + ((a.size : Int) + 1) := by omega
        have e2 : (q : Int) + ((a.size + 1 : Nat) : Int) = (q : Int) + ((a.size : Int) + 1) := by omega
        rw [e1] at x1
        rw [e2] at x2
        have hn := fun (wx : World) => neq32_self K ((p : Int) + ((a.size : Int) + 1)) ((q : Int) + ((a.size : Int) + 1)) wx
        have g1 : l1.length ≤ k := by omega
        have g2 : decide ((k : Int) < (l1.length : Int)) = false := by rw [decide_eq_false_iff_not]; omega
        have g3 : decide (k < l1.length) = false := by rw [decide_eq_false_iff_not]; omega
        have g4 : ¬ k < l1.length := by omega
        clear e1 e2
        go_wp2_with fail
        go_quiet (fail)
        generalize hwd : wr.drewN _ = wd
        have hsz : wr.heap.size = wd.heap.size := by rw [← hwd]; simp
        have hcw : ∀ ad, wd.cell? ad = wr.cell? ad := fun ad => by rw [← hwd]; simp [go_sem]
        rw [← hcw] at x0 x1 x2 y0 y1 y2
        rw [hsz] at hl2 hl3
        have HBD2 := Lib.hid (show Below w3.heap.size w3 wd from hwd ▸ below_drewN' HBO.out _)
        clear hcw hwd hsz
        go_wp2_with fail
        have hA := ((Below.refl wd.heap.size wd).alloc (Nat.le_refl _) (.cells #[.int .u8 K, .int .i64 ((p : Int) + ((a.size : Int) + 1)), .int .i64 ((q : Int) + ((a.size : Int) + 1))] 32))
        obtain ⟨hcA, _⟩ := bcell hA
        have t0 : (wd.alloc (.cells #[.int .u8 K, .int .i64 ((p : Int) + ((a.size : Int) + 1)), .int .i64 ((q : Int) + ((a.size : Int) + 1))] 32)).cell? ⟨wd.heap.size, 0, none⟩ = some (.int .u8 K) := by simp [go_sem]
        have t1 : (wd.alloc (.cells #[.int .u8 K, .int .i64 ((p : Int) + ((a.size : Int) + 1)), .int .i64 ((q : Int) + ((a.size : Int) + 1))] 32)).cell? ⟨wd.heap.size, 1, none⟩ = some (.int .i64 ((p : Int) + ((a.size : Int) + 1))) := by simp [go_sem]
        have t2 : (wd.alloc (.cells #[.int .u8 K, .int .i64 ((p : Int) + ((a.size : Int) + 1)), .int .i64 ((q : Int) + ((a.size : Int) + 1))] 32)).cell? ⟨wd.heap.size, 2, none⟩ = some (.int .i64 ((q : Int) + ((a.size : Int) + 1))) := by simp [go_sem]
        rw [← hcA b3 _ hl3] at x0 x1 x2
        have HB4 := Lib.hid (HBD2.out.trans (hA.mono HBD2.out.size))
        clear hA hcA y0 y1 y2
        generalize wd.alloc (.cells #[.int .u8 K, .int .i64 ((p : Int) + ((a.size : Int) + 1)), .int .i64 ((q : Int) + ((a.size : Int) + 1))] 32) = w5 at *
        generalize wd.heap.size = m5 at *
        go_quiet (fail)
        go_wp2_with fail
        exact ⟨⟨k + 1, by omega, by go_num, below_drewN' HB4.out _⟩, by simp [intOf]; omega⟩
    · go_wp2_with fail
      go_ret
      exact ⟨rfl, HBW.out⟩

theorem joins_walk (hfix : FixedOk) (a b : ByteArray) (w : World) (he : Env w) (ha : a.size ≤ 140737488351232) (hb : b.size ≤ 140737488351232) :
    Calls Tryd.prog 7 #[.string a, .string b] w fun e w' => e = .returned (.bool true) ∧ Below w.heap.size w w' := by
  by_cases h : 4096 < a.size + 1 + b.size
  · exact join_long hfix a b w he ha hb h
  · have hh : ¬ 4096 < a.size ∧ ¬ 4096 < b.size ∧ ¬ (4096 : Int) < (a.size : Int) + 1 + (b.size : Int) := by omega
    obtain ⟨j1, j2, j3⟩ := join_all a.data.toList b.data.toList (by simp; omega)
    rw [← joinS_list] at j1 j2 j3
    by_cases h1 : (allL a.data.toList).err = 0
    · by_cases h2 : (allL b.data.toList).err = 0
      · obtain ⟨h3, h4⟩ := j3 h1 h2
        refine join_ok hfix a b w he hh _ _ _ h1 h2 h3 rfl rfl rfl (by rw [h4]; congr 2) (toks_len _) (toks_len _) ?_
        intro t ht
        obtain ⟨p, q, e1, e2, e3, e4⟩ := chain_bd _ _ _ (chain_all _ h2) t ht
        exact ⟨p, q, e1, e2, e3, by simp at e4; omega⟩
      · exact join_err hfix a b w he hh _ _ _ rfl rfl (j2 h1 h2) (.inr ⟨by simpa using h1, by simpa using h2, by simp⟩)
    · exact join_err hfix a b w he hh _ _ _ rfl rfl (j1 h1) (.inl ⟨by simpa using h1, by simp⟩)
end Go.Proofs.YtpkccmceobonnaaDoor
