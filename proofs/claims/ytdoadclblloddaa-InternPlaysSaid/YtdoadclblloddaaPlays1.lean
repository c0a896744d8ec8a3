/-
  The walk of mandatelaw02.InternPlays: case 1.
-/
import Derived.Test.YtdoadclblloddaaPlaysG
namespace Go.Proofs.Ytdoadclblloddaa
open Go.RowKit Go.Maps Go.WideMaps
namespace PlaysLaw
open BackLaw

set_option maxHeartbeats 16000000 in
set_option maxRecDepth 100000 in
theorem case1 : base.1 1 := by
  intro os c w hm HOS QB w1 w2 KC aC wr u2 u6 u7 u8 u9 u10 u11 u12 u13 u14 u15 u16 u17 u18 u19 u20 u21 u22 u23 u24 u25 u26 u27 u28 u29 u37A u38A u39A u40A u41A u42A u43A u44A u45A u46A u47A u48A u49A u50A u51A u52A u53A u54A u55A u56A u57A u58A u59A u60A u61A u62A u63A u64A u65A u66A u67A u68A u69A u70A u71A u72A u73A u74 u75 u76A u77A u78A u79A u80A u81A u82A u83A u84A u85A u86A u87A u88A u89A u90A u91A u92A u93A u94A u95A u96A u97A u98A u99A u100A u101A u102A u103A u104A u105A u106A u107A u108A u109A u110A u111A u112A u113A u114 u115A u116A u117A u118A u119A u120A u121A u122A u123A u124A u125A u126A u127A u128A u129A u130A u131A u132A u133A u134A u135 u136A u137A u138A u139A u140A u141A u142A u143A u144A u145A u146A u147A u148A u149A u150A u151A u152A u153A u154A u155A u156A u157A u158A u159A u160A u161A u162A u163A u164A u165A u166A u167A u168A u169A u170A u171A u172A u173A u174A u175A u176A u177A u178 u179A u180A u181A u182A u183A u184A u185A u186A u187A u188A u189A u190A u191A u192A u193A u194A u195A u196A u197A u198A u199A u200A u201A u202A u203A u204A u205A u206A u207 u208A u209A u210A u211A u212A u213A u214A u215A u216A u217A u218A u219A u220A u221A u222A u223A u224A u225A u226A u227A u228A u229A u230A u231A u232A u233A u234A u235A u236A u237A u238A u239A u240A u241A u242A u243A u244A u245A u246A u247A u248A u249A u250A u251A u252A u253A u254A u255A u256A u257A u258A u259A u260A u261A u262A u263A u264A u265A u266A u267A u268A u269A u270A u271A u272A u273A u274 u275A u276A u277A u278A u279A u280A u281A u282A k q l d sv hk HK hszr hlle hlt h200 b off HP hbl hbr K N oq vs c' orr ns od HOP hlv hln hl1 hl2 ht1 ht2 s n hvx HSN HHD wz HZ HB1 hzs HWZ QA hC KB aB hB hA KA aA u37 u38 u39 u40 u41 u42 u43 u44 u45 u46 u47 u48 u49 u50 u51 u52 u53 u54 u55 u56 u57 u58 u59 u60 u61 u62 u63 u64 u65 u66 u67 u68 u69 u70 u71 u72 u73 u76 u77 u78 u79 u80 u81 u82 u83 u84 u85 u86 u87 u88 u89 u90 u91 u92 u93 u94 u95 u96 u97 u98 u99 u100 u101 u102 u103 u104 u105 u106 u107 u108 u109 u110 u111 u112 u113 u115 u116 u117 u118 u119 u120 u121 u122 u123 u124 u125 u126 u127 u128 u129 u130 u131 u132 u133 u134 u136 u137 u138 u139 u140 u141 u142 u143 u144 u145 u146 u147 u148 u149 u150 u151 u152 u153 u154 u155 u156 u157 u158 u159 u160 u161 u162 u163 u164 u165 u166 u167 u168 u169 u170 u171 u172 u173 u174 u175 u176 u177 u179 u180 u181 u182 u183 u184 u185 u186 u187 u188 u189 u190 u191 u192 u193 u194 u195 u196 u197 u198 u199 u200 u201 u202 u203 u204 u205 u206 u208 u209 u210 u211 u212 u213 u214 u215 u216 u217 u218 u219 u220 u221 u222 u223 u224 u225 u226 u227 u228 u229 u230 u231 u232 u233 u234 u235 u236 u237 u238 u239 u240 u241 u242 u243 u244 u245 u246 u247 u248 u249 u250 u251 u252 u253 u254 u255 u256 u257 u258 u259 u260 u261 u262 u263 u264 u265 u266 u267 u268 u269 u270 u271 u272 u273 u275 u276 u277 u278 u279 u280 u281 u282 z0 z1 z2 z3 z4 z5 HKz hpl hm6
  have e0 : (K.tmod 6 % 6 == 0) = false := by rw [hm6]; rfl
  have e1 : (K.tmod 6 % 6 == 1) = true := by rw [hm6]; rfl
  clear hm6
  by_cases hin : (s, n) ∈ l
  · have hfi : findI l (s, n) = ((posOf l (s, n) : Nat) : Int) := by unfold findI; rw [if_pos hin]
    have HFI := Lib.hid hfi
    have HFD := Lib.hid (find_in_any s n wz HKz.out.p HSN.out (posOf l (s, n)) (posOf_lt hin) (posOf_get hin))
    clear hfi hin
    generalize posOf l (s, n) = pv at *
    go_wp2_with fail
    refine HFD.out.mono ?_
    rintro e w1 ⟨rfl, hb1⟩
    have HN := Lib.hid (HKz.out.below hb1)
    clear z0 z1 z2 z3 z4 z5
    obtain ⟨z0, z1, z2, z3, z4, z5⟩ := HZ.out _ hb1
    have hs1 := hb1.size
    clear hb1
    go_wp2_with fail
    refine (reffind_any q l d s n w1 HN.out.v (by unfold maxLen; omega)).mono ?_
    rintro e w2 ⟨rfl, hb2⟩
    rw [HFI.out]
    have HN2 := Lib.hid (HN.out.below hb2)
    clear hb2 z0 z1 z2 z3 z4 z5
    go_wp2_with (go_at_call 18; refine (len_any _ HN2.out.p).mono ?_; rintro e w' ⟨rfl, rfl⟩)
    go_roundw
    case rel => exact ⟨k + 1, q, l, d, sv, by omega, by go_num, rfl, HN2⟩
    case measure => simp [intOf]; omega
  · have hfi : findI l (s, n) = -1 := by unfold findI; rw [if_neg hin]
    have HFI := Lib.hid hfi
    have HFD := Lib.hid (find_out_any s n wz HKz.out.p HSN.out hin)
    clear hfi hin
    go_wp2_with fail
    refine HFD.out.mono ?_
    rintro e w1 ⟨rfl, hb1⟩
    have HN := Lib.hid (HKz.out.below hb1)
    clear z0 z1 z2 z3 z4 z5
    obtain ⟨z0, z1, z2, z3, z4, z5⟩ := HZ.out _ hb1
    have hs1 := hb1.size
    clear hb1
    go_wp2_with fail
    refine (reffind_any q l d s n w1 HN.out.v (by unfold maxLen; omega)).mono ?_
    rintro e w2 ⟨rfl, hb2⟩
    rw [HFI.out]
    have HN2 := Lib.hid (HN.out.below hb2)
    clear hb2 z0 z1 z2 z3 z4 z5
    go_wp2_with (go_at_call 18; refine (len_any _ HN2.out.p).mono ?_; rintro e w' ⟨rfl, rfl⟩)
    go_roundw
    case rel => exact ⟨k + 1, q, l, d, sv, by omega, by go_num, rfl, HN2⟩
    case measure => simp [intOf]; omega
end PlaysLaw
end Go.Proofs.Ytdoadclblloddaa
