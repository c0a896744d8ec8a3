/-
  Contracts: Values where a number is nobody's; unknown, Row of a pool that isn't there.
-/
import Derived.Test.YtdoadclblloddaaPoolE
namespace Go.Proofs.Ytdoadclblloddaa
open Go.RowKit Go.Maps Go.WideMaps

set_option maxHeartbeats 4000000 in
set_option maxRecDepth 100000 in
theorem values_no (w : World) (p : Option Addr) (l : List Vl) (hin : ∀ wx, Below w.heap.size w wx → ∀ k (hk : k < l.length), Calls Try.prog 12 #[.pointer p, .int .i64 k] wx fun e w' => e = .returned (.tuple #[.agg #[.string l[k].1, .int .i64 l[k].2], .bool true]) ∧ Below wx.heap.size wx w')
    (hout : ∀ wx, Below w.heap.size w wx → ∀ k : Int, k < 0 ∨ (l.length : Int) ≤ k → Calls Try.prog 12 #[.pointer p, .int .i64 k] wx fun e w' => e = .returned (.tuple #[.agg #[.string ⟨#[]⟩, .int .i64 0], .bool false]) ∧ Below wx.heap.size wx w')
    (q : Option Addr) (ns : List Int) (c : Nat) (hv : Ints w w.heap.size q ns) (hbad : ∃ n ∈ ns, n < 0 ∨ (l.length : Int) ≤ n) (hm : ns.length ≤ maxLen) (hb24 : ns.length * 24 ≤ 281474976710656) :
    Calls Try.prog 15 #[.pointer p, .slice q ns.length c] w fun e w' => e = .returned (.tuple #[.slice none 0 0, .bool false]) ∧ Below w.heap.size w w' := by
  obtain ⟨i0, hi, hz0, hz1, hz2⟩ := info_parts info31
  have HM := Lib.hid hm
  unfold maxLen at hm
  have HI := Lib.hid hin
  have HO := Lib.hid hout
  have HV := Lib.hid hv
  have HBD := Lib.hid hbad
  clear hin hout hv hbad
  go_enter Try.func15, Try.ntmps15
  go_wp2_with (at_make; refine wpList_make_full _ rfl _ _ 26 rfl 0 31 i0 (.agg #[.string ⟨#[]⟩, .int .i64 0]) 2 Try.underlying26 hi hz0 hz1 .i64 .i64 _ _ ns.length rfl rfl rfl rfl (by rw [hz2]; omega) HM.out (Nat.zero_le _) ?_; intro w2 hown0 hgrow0; have HOW := Lib.hid hown0; have HGR := Lib.hid hgrow0; clear hown0 hgrow0)
  have hb2 : Below w.heap.size w w2 := (Below.refl _ _).grown HGR.out (Nat.le_refl _) (fun k hk => by cases hk)
  have hR0 : ∃ xs : List Value, xs.length = ns.length * 2 ∧ RowOf w2 w.heap.size 31 xs := ⟨_, HOW.out.1, rowOf_made2 HOW.out⟩
  have HS := Lib.hid (show (∃ xs : List Value, xs.length = ns.length * 2 ∧ RowOf w2 w.heap.size 31 xs) ∧ Below w.heap.size w w2 from ⟨hR0, hb2⟩)
  generalize hRR : w.heap.size = R at *
  clear hb2 hR0 HOW HGR
  go_loopw [16] (fun i wx => ∃ (k : Nat), k ≤ ns.length ∧ i = .int .i64 k ∧ Hid (∀ j (h : j < ns.length), j < k → ¬ (ns[j] < 0 ∨ (l.length : Int) ≤ ns[j])) ∧ Hid ((∃ xs : List Value, xs.length = ns.length * 2 ∧ RowOf wx R 31 xs) ∧ Below R w wx)) (fun i _ => ns.length - (intOf i).toNat)
  case atStart => exact ⟨0, Nat.zero_le _, rfl, Lib.hid (fun j _ h => by omega), HS⟩
  case round =>
    obtain ⟨k, hk, rfl, hgk, hs⟩ := hrel
    clear HS
    have HK := Lib.hid hs.out
    clear hs
    by_cases hlt : k < ns.length
    · obtain ⟨b, off, rfl, hbl, x0⟩ := (HV.out.below HK.out.2 (Nat.le_refl _)).at k hlt
      obtain ⟨xs, hxl, hxr⟩ := HK.out.1
      have HR := Lib.hid hxr
      have hRl := hxr.lt
      have hbx : b < _ := Nat.lt_trans hbl hRl
      clear hxr
      generalize hnk : ns[k] = nk at *
      by_cases hb : nk < 0 ∨ (l.length : Int) ≤ nk
      · have HGK := Lib.hid (HO.out _ HK.out.2 nk hb)
        clear hb hgk hnk
        go_wp2_with fail
        refine HGK.out.mono ?_
        rintro e w3 ⟨rfl, hb3⟩
        have HB3 := Lib.hid (HK.out.2.trans (hb3.mono (Nat.le_of_lt hRl)))
        have hsz3 := hb3.size
        clear hb3
        go_wp2_with fail
        go_ret2
        exact ⟨rfl, by rw [hRR]; exact HB3.out.alloc (by omega) _⟩
      · obtain ⟨m, rfl⟩ := Int.eq_ofNat_of_zero_le (show 0 ≤ nk by omega)
        have hml : m < l.length := by omega
        have HGK := Lib.hid (HI.out _ HK.out.2 m hml)
        have HGN := Lib.hid (show ∀ j (h : j < ns.length), j < k + 1 → ¬ (ns[j] < 0 ∨ (l.length : Int) ≤ ns[j]) from fun j h h2 => by
          rcases Nat.lt_or_ge j k with h3 | h3
          · exact hgk.out j h h3
          · obtain rfl : j = k := by omega
            rw [hnk]; exact hb)
        generalize hs1 : (l[m]).1 = s1 at *
        generalize hn1 : (l[m]).2 = n1 at *
        clear hb hgk hnk hs1 hn1
        go_wp2_with fail
        refine HGK.out.mono ?_
        rintro e w3 ⟨rfl, hb3⟩
        have hR3 := HR.out.below hb3 hRl
        have y0 := hR3.cell (k * 2)
        have y1 := hR3.cell (k * 2 + 1)
        have f0 := hR3.frozen (k * 2)
        have f1 := hR3.frozen (k * 2 + 1)
        rw [List.getElem?_eq_getElem (by omega)] at y0
        rw [List.getElem?_eq_getElem (by omega)] at y1
        have hR5 := (hR3.set (k * 2) (.string s1)).set (k * 2 + 1) (.int .i64 n1)
        have hR3l := hR3.lt
        have HB3 := Lib.hid (((HK.out.2.trans (hb3.mono (Nat.le_of_lt hRl))).setCell (p := ⟨R, k * 2, none⟩) (Nat.le_refl _) (.string s1)).setCell (p := ⟨R, k * 2 + 1, none⟩) (Nat.le_refl _) (.int .i64 n1))
        have HR5 := Lib.hid (show ∃ xs : List Value, xs.length = ns.length * 2 ∧ RowOf ((w3.setCell ⟨R, k * 2, none⟩ (.string s1)).setCell ⟨R, k * 2 + 1, none⟩ (.int .i64 n1)) R 31 xs from ⟨_, by simpa using hxl, hR5⟩)
        clear hb3 hR3 hR5
        go_wp2_with fail
        go_roundw
        case rel =>
          obtain ⟨ys, hy1, hy2⟩ := HR5.out
          exact ⟨k + 1, by omega, by go_num, HGN, ⟨ys, hy1, hy2.below (alloc_below _ _) hy2.lt⟩, HB3.out.alloc (by simp [World.setCell]; omega) _⟩
        case measure => simp [intOf]; omega
    · exfalso
      obtain ⟨n, hn, hb⟩ := HBD.out
      obtain ⟨j, hj, rfl⟩ := List.mem_iff_getElem.1 hn
      exact hgk.out j hj (by omega) hb

set_option maxHeartbeats 2000000 in
set_option maxRecDepth 100000 in
theorem unknown_nil (w : World) (q : Option Addr) (vs : List Vl) (c : Nat) (hv : Vals w w.heap.size q vs) (ho : OkAll vs) (hm : vs.length ≤ maxLen) :
    Calls Try.prog 23 #[.pointer none, .slice q vs.length c] w fun e w' => e = .returned (.int .i64 (news [] vs).length) ∧ Below w.heap.size w w' := by
  have hmm := @run_makeMap Try.prog
  unfold maxLen at hm
  have HV := Lib.hid hv
  have HO := Lib.hid ho
  clear hv ho
  go_enter Try.func23, Try.ntmps23
  go_wp2_with fail
  go_loopw [13] (fun i wr => ∃ k : Nat, k ≤ vs.length ∧ i = .int .i64 k ∧ MapOf wr w.heap.size (news [] (vs.take k)) setU ∧ Below w.heap.size w wr) (fun i _ => vs.length - (intOf i).toNat)
  case atStart => exact ⟨0, Nat.zero_le _, rfl, ⟨0, (MapKept.heap_alloc w _).1⟩, alloc_below w _⟩
  case round =>
    obtain ⟨k, hk, rfl, hms, hb⟩ := hrel
    have HMS := Lib.hid hms
    have HB := Lib.hid hb
    have hszr := hb.size
    have hsw : w.heap.size < wr.heap.size := hms.lt
    clear hms hb
    by_cases hlt : k < vs.length
    · obtain ⟨b, off, rfl, hbl, x0, x1⟩ := (HV.out.below HB.out (Nat.le_refl _)).at k hlt
      have HOK := Lib.hid (HO.out.at k hlt)
      have hbr : b < wr.heap.size := by omega
      have HS := Lib.hid (show news [] (vs.take (k + 1)) = addV (news [] (vs.take k)) vs[k] by rw [take_snocV vs k hlt, news_snoc_out _ _ _ (by simp)])
      go_wp2_with fail
      refine (find_nil _ _ _).mono ?_
      rintro e w1 ⟨rfl, hb1⟩
      obtain ⟨hB1, y0, y1, hz1⟩ := box_kept vs[k].1 vs[k].2 hb1
      have hm1 := (HMS.out.below hB1)
      obtain ⟨w2, hrun, hm2, hg2⟩ := put_set hm1 (fun v hv => HO.out v (List.mem_of_mem_take (mem_news _ _ _ hv))) (news_nodup _ _) vs[k] HOK.out
      change (Instr.mapUpdate 60 (.map (some w.heap.size)) (.agg #[.string vs[k].1, .int .i64 vs[k].2]) unit).run Try.prog w1 = _ at hrun
      have HM2 := Lib.hid hm2
      have HB2 := Lib.hid ((HB.out.trans (hB1.mono HB.out.size)).grown hg2 (by omega) (fun k hk => by cases hk; exact Nat.le_refl _))
      clear hb1 hB1 hm1 hm2 hg2
      unfold unit at hrun
      go_wp2_with fail
      go_roundw
      case rel => exact ⟨k + 1, by omega, by go_num, by rw [HS.out]; exact HM2.out, HB2.out⟩
      case measure => simp [intOf]; omega
    · obtain rfl : k = vs.length := by omega
      have hms := HMS.out
      rw [List.take_length] at hms
      have hrun := len_run (ty := 3) Try.underlying60 hms
      clear hms
      go_wp2_with fail
      go_ret
      exact ⟨rfl, HB.out⟩

set_option maxHeartbeats 1000000 in
set_option maxRecDepth 100000 in
theorem row_nil_full (w : World) (q : Option Addr) (vs : List Vl) (c : Nat) (hv : Vals w w.heap.size q vs) (ho : OkAll vs) (hm : vs.length ≤ maxLen) (hg : goodAll vs = true) (hne : 0 < vs.length) :
    Calls Try.prog 13 #[.pointer none, .slice q vs.length c] w fun e w' => e = .returned (.tuple #[.slice none 0 0, .int .i64 3]) ∧ Below w.heap.size w w' := by
  have hm0 := hm
  unfold maxLen at hm
  have hF : (0 : Int) < (news [] vs).length := by
    have : vs[0] ∈ news [] vs := by
      unfold news; rw [mem_addAll]; right
      exact List.mem_filter.2 ⟨List.getElem_mem hne, by simp⟩
    have := List.length_pos_of_mem this
    omega
  have HV := Lib.hid hv
  have HO := Lib.hid ho
  have HM := Lib.hid hm0
  have HG := Lib.hid hg
  clear hv ho hg hm0 hne
  go_enter Try.func13, Try.ntmps13
  go_wp2_with fail
  go_loopw [13] (fun i wr => ∃ k : Nat, k ≤ vs.length ∧ i = .int .i64 k ∧ Below w.heap.size w wr) (fun i _ => vs.length - (intOf i).toNat)
  case atStart => exact ⟨0, Nat.zero_le _, rfl, Below.refl _ _⟩
  case round =>
    obtain ⟨k, hk, rfl, hb⟩ := hrel
    have HB := Lib.hid hb
    have hszr := hb.size
    clear hb
    by_cases hlt : k < vs.length
    · obtain ⟨b, off, rfl, hbl, x0, x1⟩ := (HV.out.below HB.out (Nat.le_refl _)).at k hlt
      have HOK := Lib.hid (HO.out.at k hlt)
      have hbr : b < wr.heap.size := by omega
      have HB1 := Lib.hid (HB.out.trans ((alloc_below wr (.cells #[.string vs[k].1, .int .i64 vs[k].2] 31)).mono HB.out.size))
      have hgd := goodAll_at HG.out k hlt
      go_wp2_with (go_at_call 20; refine (good_any _ _ _ HOK.out.1).mono ?_; rintro e w1 ⟨rfl, hb1⟩)
      go_roundw
      case rel => exact ⟨k + 1, by omega, by go_num, HB1.out.trans (hb1.mono (by simp; omega))⟩
      case measure => simp [intOf]; omega
    · go_wp2_with (first
        | (go_at_call 23; refine (unknown_nil _ _ _ _ ((HV.out.below HB.out (Nat.le_refl _)).up HB.out.size) HO.out HM.out).mono ?_; rintro e w1 ⟨rfl, hb1⟩; have HB2 := Lib.hid (HB.out.trans (hb1.mono HB.out.size)); clear hb1)
        | (go_at_call 21; refine (room_nil _).mono ?_; rintro e w' ⟨rfl, rfl⟩))
      go_ret2
      exact ⟨rfl, HB2.out⟩

set_option maxHeartbeats 1000000 in
set_option maxRecDepth 100000 in
theorem row_nil_empty (w : World) (q : Option Addr) (c : Nat) :
    Calls Try.prog 13 #[.pointer none, .slice q 0 c] w fun e w' => ∃ R, e = .returned (.tuple #[.slice (some ⟨R, 0, none⟩) 0 0, .int .i64 0]) ∧ Below w.heap.size w w' := by
  obtain ⟨i0, hi, hz0, hz1, hz2⟩ := info_parts info3
  have hU : ∀ wx, Calls Try.prog 23 #[.pointer none, .slice q 0 c] wx fun e w' => e = .returned (.int .i64 0) ∧ Below wx.heap.size wx w' := fun wx => unknown_nil wx q [] c (.inl rfl) (fun v h => by simp at h) (by unfold maxLen; simp)
  have HU := Lib.hid hU
  clear hU
  go_enter Try.func13, Try.ntmps13
  go_wp2_with fail
  go_loopw [13] (fun i wr => i = .int .i64 0 ∧ Below w.heap.size w wr) (fun _ _ => 0)
  case atStart => exact ⟨rfl, Below.refl _ _⟩
  case round =>
    obtain ⟨rfl, hb⟩ := hrel
    have HB := Lib.hid hb
    clear hb
    go_wp2_with (first
        | (go_at_call 23; refine (HU.out _).mono ?_; rintro e w1 ⟨rfl, hb1⟩; have HB2 := Lib.hid (HB.out.trans (hb1.mono HB.out.size)); clear hb1)
        | (go_at_call 21; refine (room_nil _).mono ?_; rintro e w' ⟨rfl, rfl⟩)
        | (at_make; refine wpList_make_full _ rfl _ _ 27 rfl 0 3 i0 (.int .i64 0) 1 Try.underlying27 hi hz0 hz1 .i64 .i64 _ _ 0 rfl rfl rfl rfl (by rw [hz2]; omega) (by unfold maxLen; omega) (Nat.zero_le _) ?_; intro w2 hown0 hgrow0; have HGR := Lib.hid hgrow0; clear hown0 hgrow0))
    go_loopw [32] (fun i wx => i = .int .i64 0 ∧ Below w.heap.size w wx) (fun _ _ => 0)
    case atStart => exact ⟨rfl, HB2.out.grown HGR.out HB2.out.size (fun k hk => by cases hk)⟩
    case round =>
      obtain ⟨rfl, hb⟩ := hrel
      have HB3 := Lib.hid hb
      clear hb
      go_wp2_with fail
      go_ret2
      exact ⟨w1.heap.size, rfl, HB3.out⟩
end Go.Proofs.Ytdoadclblloddaa
