/-
  The walk of mandatelaw02.InternPlays: case 4.
-/
import Derived.Test.YtdoadclblloddaaPlaysG
import Derived.Test.YtdoadclblloddaaCopyI
namespace Go.Proofs.Ytdoadclblloddaa
open Go.RowKit Go.Maps Go.WideMaps
namespace PlaysLaw
open BackLaw

set_option maxHeartbeats 16000000 in
set_option maxRecDepth 100000 in
theorem case4 : base.1 4 := by
  intro os c w hm HOS QB w1 w2 KC aC wr0 u2 u6 u7 u8 u9 u10 u11 u12 u13 u14 u15 u16 u17 u18 u19 u20 u21 u22 u23 u24 u25 u26 u27 u28 u29 u37A u38A u39A u40A u41A u42A u43A u44A u45A u46A u47A u48A u49A u50A u51A u52A u53A u54A u55A u56A u57A u58A u59A u60A u61A u62A u63A u64A u65A u66A u67A u68A u69A u70A u71A u72A u73A u74 u75 u76A u77A u78A u79A u80A u81A u82A u83A u84A u85A u86A u87A u88A u89A u90A u91A u92A u93A u94A u95A u96A u97A u98A u99A u100A u101A u102A u103A u104A u105A u106A u107A u108A u109A u110A u111A u112A u113A u114 u115A u116A u117A u118A u119A u120A u121A u122A u123A u124A u125A u126A u127A u128A u129A u130A u131A u132A u133A u134A u135 u136A u137A u138A u139A u140A u141A u142A u143A u144A u145A u146A u147A u148A u149A u150A u151A u152A u153A u154A u155A u156A u157A u158A u159A u160A u161A u162A u163A u164A u165A u166A u167A u168A u169A u170A u171A u172A u173A u174A u175A u176A u177A u178 u179A u180A u181A u182A u183A u184A u185A u186A u187A u188A u189A u190A u191A u192A u193A u194A u195A u196A u197A u198A u199A u200A u201A u202A u203A u204A u205A u206A u207 u208A u209A u210A u211A u212A u213A u214A u215A u216A u217A u218A u219A u220A u221A u222A u223A u224A u225A u226A u227A u228A u229A u230A u231A u232A u233A u234A u235A u236A u237A u238A u239A u240A u241A u242A u243A u244A u245A u246A u247A u248A u249A u250A u251A u252A u253A u254A u255A u256A u257A u258A u259A u260A u261A u262A u263A u264A u265A u266A u267A u268A u269A u270A u271A u272A u273A u274 u275A u276A u277A u278A u279A u280A u281A u282A k q l d sv hk HK hszr hlle hlt h200 b off HP hbl hbr K N oq vs c' orr ns od HOP hlv hln hl1 hl2 ht1 ht2 s n hvx HSN HHD wz HZ HB1 hzs HWZ QA hC KB aB hB hA KA aA u37 u38 u39 u40 u41 u42 u43 u44 u45 u46 u47 u48 u49 u50 u51 u52 u53 u54 u55 u56 u57 u58 u59 u60 u61 u62 u63 u64 u65 u66 u67 u68 u69 u70 u71 u72 u73 u76 u77 u78 u79 u80 u81 u82 u83 u84 u85 u86 u87 u88 u89 u90 u91 u92 u93 u94 u95 u96 u97 u98 u99 u100 u101 u102 u103 u104 u105 u106 u107 u108 u109 u110 u111 u112 u113 u115 u116 u117 u118 u119 u120 u121 u122 u123 u124 u125 u126 u127 u128 u129 u130 u131 u132 u133 u134 u136 u137 u138 u139 u140 u141 u142 u143 u144 u145 u146 u147 u148 u149 u150 u151 u152 u153 u154 u155 u156 u157 u158 u159 u160 u161 u162 u163 u164 u165 u166 u167 u168 u169 u170 u171 u172 u173 u174 u175 u176 u177 u179 u180 u181 u182 u183 u184 u185 u186 u187 u188 u189 u190 u191 u192 u193 u194 u195 u196 u197 u198 u199 u200 u201 u202 u203 u204 u205 u206 u208 u209 u210 u211 u212 u213 u214 u215 u216 u217 u218 u219 u220 u221 u222 u223 u224 u225 u226 u227 u228 u229 u230 u231 u232 u233 u234 u235 u236 u237 u238 u239 u240 u241 u242 u243 u244 u245 u246 u247 u248 u249 u250 u251 u252 u253 u254 u255 u256 u257 u258 u259 u260 u261 u262 u263 u264 u265 u266 u267 u268 u269 u270 u271 u272 u273 u275 u276 u277 u278 u279 u280 u281 u282 z0 z1 z2 z3 z4 z5 HKz hpl hm6
  have e0 : (K.tmod 6 % 6 == 0) = false := by rw [hm6]; rfl
  have e1 : (K.tmod 6 % 6 == 1) = false := by rw [hm6]; rfl
  have e2 : (K.tmod 6 % 6 == 2) = false := by rw [hm6]; rfl
  have e3 : (K.tmod 6 % 6 == 3) = false := by rw [hm6]; rfl
  have e4 : (K.tmod 6 % 6 == 4) = true := by rw [hm6]; rfl
  clear hm6
  have HZS := Lib.hid hzs
  have hmw2 : wr0.heap.size + 1 < wz.heap.size := by omega
  have hmw : wr0.heap.size < wz.heap.size := by omega
  clear hzs
  have HIZ := Lib.hid (show Ints (wz.alloc (.cells #[] 3)) wz.heap.size orr ns from ((HOP.out.i.below HKz.out.b (Nat.le_refl _)).up HKz.out.b.size).below (alloc_below wz _) (Nat.le_refl _))
  by_cases hall : ∀ z ∈ ns, 0 ≤ z ∧ z < (l.length : Int)
  · have HA := Lib.hid hall
    clear hall
    go_wp2_with (at_builtin; refine wpList_copyI _ rfl _ _ rfl wz.heap.size rfl (row_new wz [] 3) orr ns od rfl HIZ.out (by omega) ?_; intro g cap w1 hBg hlt1 hvc hbc; have HV1 := Lib.hid hvc; have HB1' := Lib.hid (below_copy _ hbc); clear hvc hbc hBg hlt1)
    have HK1 := Lib.hid (HKz.out.below HB1'.out)
    refine (values_okI w1 HK1.out.p _ ns cap HV1.out HA.out (by omega)).mono ?_
    rintro e w2 ⟨R, rfl, hR, hRs, hb2⟩
    have HK2 := Lib.hid (HK1.out.below hb2)
    have HB2 := Lib.hid (HB1'.out.trans (hb2.mono HB1'.out.size))
    have HR := Lib.hid hR
    have hs2 := HB2.out.size
    clear hR hRs hb2 z0 z1 z2 z3 z4 z5 HK1 HV1 HB1' HIZ
    go_wp2_with fail
    go_loopw [27, 28] (fun t i wl => ∃ k2 : Nat, k2 ≤ ns.length ∧ t = .bool true ∧ i = .int .i64 k2 ∧ Below w2.heap.size w2 wl) (fun _ i _ => ns.length - (intOf i).toNat)
    case atStart => exact ⟨0, Nat.zero_le _, rfl, rfl, Below.refl _ _⟩
    case round =>
      obtain ⟨k2, hk2, rfl, rfl, hb⟩ := hrel
      have HB := Lib.hid (HB2.out.trans (hb.mono HB2.out.size))
      have HBl := Lib.hid hb
      have HW := Lib.hid (HK2.out.b.trans (hb.mono HK2.out.b.size))
      have hszl := hb.size
      obtain ⟨z0, z1, z2, z3, z4, z5⟩ := HZ.out _ HB.out
      clear hb
      by_cases hlt2 : k2 < ns.length
      · obtain ⟨bi, oi, rfl, hbi, x⟩ := (HOP.out.i.below HW.out (Nat.le_refl _)).at k2 hlt2
        obtain ⟨hq0, hq1⟩ := HA.out ns[k2] (List.getElem_mem hlt2)
        generalize ns[k2] = z at *
        go_wp2_with fail
        exact ⟨⟨k2 + 1, by omega, rfl, by go_num, HBl.out⟩, by simp [intOf]; omega⟩
      · obtain rfl : k2 = ns.length := by omega
        obtain ⟨w3, rfl⟩ : ∃ w3, w3 = wr := ⟨_, rfl⟩
        have HK3 := Lib.hid (HK2.out.below HBl.out)
        have HR3 := Lib.hid (HR.out.below HBl.out HR.out.lt)
        clear HBl HR hlt2
        have hmw3 : wr0.heap.size < w3.heap.size := by omega
        obtain ⟨i0, hi, hz0, hz1, hz2⟩ := info_parts info31
        go_wp2_with fail
        clear z0 z1 z2 z3 z4 z5
        go_loopw [26, 29] (fun u i wl => ∃ k3 : Nat, k3 ≤ ns.length ∧ i = .int .i64 k3 ∧ Hid (wl.ownsRow w3.heap.size 31 2 u k3 (flatV (sel l ((ns.map Int.toNat).take k3)))) ∧ Below w3.heap.size w3 wl) (fun _ i _ => ns.length - (intOf i).toNat)
        case atStart => exact ⟨0, Nat.zero_le _, rfl, Lib.hid (World.ownsRow_nil _ _ _ _), Below.refl _ _⟩
        case round =>
          obtain ⟨k3, hk3, rfl, hu, hb⟩ := hrel
          have HU := Lib.hid hu.out
          have HB4 := Lib.hid hb
          have HBz := Lib.hid (HB.out.trans (hb.mono HB.out.size))
          have HW4 := Lib.hid (HW.out.trans (hb.mono HW.out.size))
          have HK4 := Lib.hid (HK3.out.below hb)
          have hszb := hb.size
          obtain ⟨z0, z1, z2, z3, z4, z5⟩ := HZ.out _ HBz.out
          clear hu hb
          have hmw4 : wr0.heap.size < wr.heap.size := by omega
          by_cases hlt3 : k3 < ns.length
          · obtain ⟨bi, oi, rfl, hbi, x⟩ := (HOP.out.i.below HW4.out (Nat.le_refl _)).at k3 hlt3
            obtain ⟨hq0, hq1⟩ := HA.out ns[k3] (List.getElem_mem hlt3)
            obtain ⟨m, hm⟩ := Int.eq_ofNat_of_zero_le hq0
            have hml : m < l.length := by omega
            obtain ⟨bq, oq2, hq, hbq, y0, y1⟩ := HK4.out.v.at m hml
            have HSEL := Lib.hid (show flatV (sel l ((ns.map Int.toNat).take (k3 + 1))) = flatV (sel l ((ns.map Int.toNat).take k3)) ++ encV (l[m].1, l[m].2) from by
              have h1 : (ns.map Int.toNat).take (k3 + 1) = (ns.map Int.toNat).take k3 ++ [m] := by
                rw [List.take_add_one, List.getElem?_map, List.getElem?_eq_getElem hlt3, hm]
                rfl
              rw [h1, show sel l ((ns.map Int.toNat).take k3 ++ [m]) = sel l ((ns.map Int.toNat).take k3) ++ [l[m]] from by
                unfold sel
                rw [List.map_append]
                simp [List.getD_eq_getElem?_getD, List.getElem?_eq_getElem hml], flatV_snoc])
            subst hq
            rw [hm] at x
            clear hq0 hq1 hm
            generalize l[m].1 = s1 at *
            generalize l[m].2 = n1 at *
            go_wp2_with (at_builtin; refine wpList_append_lies _ rfl _ _ 26 rfl w3.heap.size 31 i0 _ 2 24 Try.underlying26 hi hz0 hz1 hz2 rfl (by omega) _ k3 (flatV (sel l ((ns.map Int.toNat).take k3))) rfl (HU.out.alloc _) ⟨wr.heap.size, 0, none⟩ 1 1 (encV (s1, n1)) rfl rfl (World.news_of_block (cs := #[.string s1, .int .i64 n1]) (t := 31) (fr := (0, 0)) (MapKept.heap_alloc _ _).1) (by intro u hu; simp [encV] at hu; rcases hu with rfl | rfl <;> rfl) (by omega) (by unfold maxLen; omega) (by omega) (by simp; omega) _ rfl ?_; intro g cap w5 hown hgrow hat hlt5; have HB5 := Lib.hid ((HB4.out.alloc hszb _).grown hgrow (by simp; omega) (fun k hk => by have := (HU.out.lt k hk).1; omega)); have HU5 := Lib.hid hown; clear hown hgrow hat hlt5)
            have HU6 := Lib.hid (HU5.out)
            rw [← HSEL.out] at HU6
            exact ⟨⟨k3 + 1, by omega, by go_num, HU6, HB5.out⟩, by simp [intOf]; omega⟩
          · obtain rfl : k3 = ns.length := by omega
            have hU := HU.out
            rw [List.take_of_length_le (by simp)] at hU
            have hR4 := HR3.out.below HB4.out HR3.out.lt
            have hLl : (sel l (ns.map Int.toNat)).length = ns.length := by simp [sel]
            generalize sel l (ns.map Int.toNat) = L at *
            have hU' := hU
            rw [← hLl] at hU'
            obtain ⟨qu, cu, rfl, hvu, _⟩ := own_vals hU'
            have hvs := values_same (some ⟨R, 0, none⟩) qu L ns.length cu wr (vals_row hR4 hR4.lt) hvu (by rw [hLl]; unfold maxLen; omega)
            rw [hLl] at hvs
            have HVS := Lib.hid hvs
            rw [hLl]
            clear hU hU' hvu hvs hR4 HU hLl
            go_wp2_with (first
              | (go_at_call 16; refine HVS.out.mono ?_; rintro e w4 ⟨rfl, hb4⟩; have HN4 := Lib.hid (HK4.out.below hb4); clear hb4)
              | (go_at_call 18; refine (len_any _ HN4.out.p).mono ?_; rintro e w' ⟨rfl, rfl⟩))
            go_roundw
            case rel => exact ⟨k + 1, q, l, d, sv, by omega, by go_num, rfl, HN4⟩
            case measure => simp [intOf]; omega
  · have hbad : ∃ z ∈ ns, z < 0 ∨ (l.length : Int) ≤ z := by
      apply Classical.byContradiction
      intro hc
      apply hall
      intro z hz
      have : ¬ (z < 0 ∨ (l.length : Int) ≤ z) := fun h => hc ⟨z, hz, h⟩
      omega
    have HA := Lib.hid hbad
    clear hall hbad
    go_wp2_with (at_builtin; refine wpList_copyI _ rfl _ _ rfl wz.heap.size rfl (row_new wz [] 3) orr ns od rfl HIZ.out (by omega) ?_; intro g cap w1 hBg hlt1 hvc hbc; have HV1 := Lib.hid hvc; have HB1' := Lib.hid (below_copy _ hbc); clear hvc hbc hBg hlt1)
    have HK1 := Lib.hid (HKz.out.below HB1'.out)
    refine (values_noI w1 HK1.out.p _ ns cap HV1.out HA.out (by omega)).mono ?_
    rintro e w2 ⟨rfl, hb2⟩
    have HK2 := Lib.hid (HK1.out.below hb2)
    have HB2 := Lib.hid (HB1'.out.trans (hb2.mono HB1'.out.size))
    have hs2 := HB2.out.size
    clear hb2 z0 z1 z2 z3 z4 z5 HK1 HV1 HB1' HIZ
    go_wp2_with fail
    go_loopw [27, 28] (fun t i wl => ∃ (k2 : Nat) (tb : Bool), k2 ≤ ns.length ∧ t = .bool tb ∧ i = .int .i64 k2 ∧ Hid (tb = false ∨ ∀ j (h : j < ns.length), j < k2 → 0 ≤ ns[j] ∧ ns[j] < (l.length : Int)) ∧ Below w2.heap.size w2 wl) (fun _ i _ => ns.length - (intOf i).toNat)
    case atStart => exact ⟨0, true, Nat.zero_le _, rfl, rfl, Lib.hid (.inr fun j _ h => by omega), Below.refl _ _⟩
    case round =>
      obtain ⟨k2, tb, hk2, rfl, rfl, ht, hb⟩ := hrel
      have HT := Lib.hid ht.out
      have HB := Lib.hid (HB2.out.trans (hb.mono HB2.out.size))
      have HBl := Lib.hid hb
      have HW := Lib.hid (HK2.out.b.trans (hb.mono HK2.out.b.size))
      have hszl := hb.size
      obtain ⟨z0, z1, z2, z3, z4, z5⟩ := HZ.out _ HB.out
      clear hb ht
      by_cases hlt2 : k2 < ns.length
      · obtain ⟨bi, oi, rfl, hbi, x⟩ := (HOP.out.i.below HW.out (Nat.le_refl _)).at k2 hlt2
        cases tb with
        | false =>
          clear HT
          go_wp2_with fail
          exact ⟨⟨k2 + 1, false, by omega, rfl, by go_num, Lib.hid (.inl rfl), HBl.out⟩, by simp [intOf]; omega⟩
        | true =>
          by_cases hin : 0 ≤ ns[k2] ∧ ns[k2] < (l.length : Int)
          · have HT2 := Lib.hid (show true = false ∨ ∀ j (h : j < ns.length), j < k2 + 1 → 0 ≤ ns[j] ∧ ns[j] < (l.length : Int) from .inr fun j h h2 => by
              rcases Nat.lt_or_ge j k2 with h3 | h3
              · exact (HT.out.resolve_left (by decide)) j h h3
              · obtain rfl : j = k2 := by omega
                exact hin)
            obtain ⟨hq0, hq1⟩ := hin
            clear HT
            generalize ns[k2] = z at *
            go_wp2_with fail
            exact ⟨⟨k2 + 1, true, by omega, rfl, by go_num, HT2, HBl.out⟩, by simp [intOf]; omega⟩
          · clear HT
            have hz : ns[k2] < 0 ∨ 0 ≤ ns[k2] ∧ decide (ns[k2] < (l.length : Int)) = false := by
              rcases Int.lt_or_le ns[k2] 0 with h | h
              · exact .inl h
              · exact .inr ⟨h, by simp; omega⟩
            clear hin
            generalize ns[k2] = z at *
            rcases hz with hz | ⟨hq0, hq1⟩
            all_goals
              go_wp2_with fail
              exact ⟨⟨k2 + 1, false, by omega, rfl, by go_num, Lib.hid (.inl rfl), HBl.out⟩, by simp [intOf]; omega⟩
      · obtain rfl : k2 = ns.length := by omega
        obtain rfl : tb = false := by
          rcases HT.out with h | h
          · exact h
          · obtain ⟨z, hz, hzz⟩ := HA.out
            obtain ⟨j, hj, e⟩ := List.mem_iff_getElem.1 hz
            have := h j hj hj
            rw [e] at this
            omega
        obtain ⟨w3, rfl⟩ : ∃ w3, w3 = wr := ⟨_, rfl⟩
        have HK3 := Lib.hid (HK2.out.below HBl.out)
        have hnn := values_same none none [] 0 0 w3 (.inl rfl) (.inl rfl) (by unfold maxLen; simp)
        simp only [List.length_nil] at hnn
        have HNN := Lib.hid hnn
        clear HBl HT hlt2 hnn
        go_wp2_with fail
        go_loopw [26, 29] (fun u i wl => u = .slice none 0 0 ∧ i = .int .i64 0 ∧ wl = w3) (fun _ _ _ => 0)
        case atStart => exact ⟨rfl, rfl, rfl⟩
        case round =>
          obtain ⟨rfl, rfl, rfl⟩ := hrel
          go_wp2_with (first
            | (go_at_call 16; refine HNN.out.mono ?_; rintro e w4 ⟨rfl, hb4⟩; have HN4 := Lib.hid (HK3.out.below hb4); clear hb4)
            | (go_at_call 18; refine (len_any _ HN4.out.p).mono ?_; rintro e w' ⟨rfl, rfl⟩))
          go_roundw
          case rel => exact ⟨k + 1, q, l, d, sv, by omega, by go_num, rfl, HN4⟩
          case measure => simp [intOf]; omega
end PlaysLaw
end Go.Proofs.Ytdoadclblloddaa
