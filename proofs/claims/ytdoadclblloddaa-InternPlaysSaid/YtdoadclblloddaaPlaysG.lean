/-
  The walk of mandatelaw02.InternPlays.
-/
import Derived.Test.YtdoadclblloddaaPlaysL
import Derived.Deep.CutRange
import Derived.Deep.DeepCutAuto
namespace Go.Proofs.Ytdoadclblloddaa
open Go.RowKit Go.Maps Go.WideMaps
namespace PlaysLaw
open BackLaw

set_option maxHeartbeats 16000000 in
set_option maxRecDepth 100000 in
def base : PSigma fun G : Int → Prop => ((∀ i : Int, 0 ≤ i → i < 6 → G i) → ∀ (p : Option Addr) (os : List Opv) (c : Nat) (w : World), Ops w w.heap.size p os → (∀ o ∈ os, OpOk w w.heap.size o) → os.length ≤ maxLen →
    Calls Try.prog 3 #[.slice p os.length c] w fun e w' => e = .returned (.bool true) ∧ Below w.heap.size w w') := by
  apply PSigma.mk
  · intro hG0
    have HG := Lib.hid hG0
    clear hG0
    intro p os c w hp hos hm
    unfold maxLen at hm
    have HP := Lib.hid hp
    have HOS := Lib.hid hos
    clear hp hos
    go_enter Try.func3, Try.ntmps3
    go_wp2_with (first
      | (go_at_call 6; refine (new_any _).mono ?_; rintro e w1 ⟨rfl, hP1, hB1⟩; have HP1 := Lib.hid hP1; have HB1 := Lib.hid hB1; clear hP1 hB1)
      | (go_at_call 7; refine (fixed_any _).mono ?_; rintro e w2 ⟨rfl, hB2⟩; have HP2 := Lib.hid (HP1.out.below hB2); have HB2 := Lib.hid (HB1.out.trans (hB2.mono HB1.out.size)); clear hB2))
    have HI := Lib.hid (show Inv w none [] (.slice none 0 0) w2 from ⟨HP2.out, .inl rfl, fun b off h => by simp at h, HB2.out, fun g h => by simp [Value.ownBlock] at h⟩)
    clear HP1 HB1 HP2 HB2
    go_loopw [4, 5] (fun hv i wr => ∃ (k : Nat) (q : Option Addr) (l : List Vl) (d : Nat) (sv : Value), k ≤ os.length ∧ i = .int .i64 k ∧ hv = .slice q l.length d ∧ Hid (Inv w q l sv wr)) (fun _ i _ => os.length - (intOf i).toNat)
    case atStart => exact ⟨0, none, [], 0, _, Nat.zero_le _, rfl, rfl, HI⟩
    case round =>
      obtain ⟨k, q, l, d, sv, hk, rfl, rfl, hi⟩ := hrel
      have HK := Lib.hid hi.out
      have hszr := hi.out.b.size
      have hlle := hi.out.p.le
      clear hi HI
      by_cases hlt : k < os.length
      · by_cases h200 : k < 200
        · obtain ⟨b, off, rfl, hbl, x0, x1, x2, x3⟩ := (HP.out.below HK.out.b (Nat.le_refl _)).at k hlt
          have HOP := Lib.hid (HOS.out os[k] (List.getElem_mem hlt))
          have hbr : b < wr.heap.size := by omega
          generalize os[k] = o at *
          obtain ⟨K, N, oq, vs, c', orr, ns, od⟩ := o
          simp only at x0 x1 x2 x3
          have hlv : vs.length ≤ 9223372036854775807 := HOP.out.lv
          have hln : ns.length ≤ 9223372036854775807 := HOP.out.ln
          by_cases hlong : 50 < vs.length ∨ 50 < ns.length
          · by_cases hl1 : 50 < vs.length
            · clear hlong
              go_wp2_with fail
              go_ret
              exact ⟨rfl, HK.out.b.alloc hszr _⟩
            · have hl2 : 50 < ns.length := by omega
              clear hlong
              go_wp2_with fail
              go_ret
              exact ⟨rfl, HK.out.b.alloc hszr _⟩
          · have hl1 : ¬ 50 < vs.length := by omega
            have hl2 : ¬ 50 < ns.length := by omega
            clear hlong
            have ht1 : -5 ≤ K.tmod 6 := by have := Int.lt_tmod_of_pos K (b := 6) (by decide); omega
            have ht2 : K.tmod 6 ≤ 5 := by have := Int.tmod_lt_of_pos K (b := 6) (by decide); omega
            obtain ⟨s, n, hsn, hhd, hvx⟩ : ∃ (s : ByteArray) (n : Int), Ok (s, n) ∧ (s, n) = vs.headD zv ∧ (¬ 0 < vs.length ∧ s = ⟨#[]⟩ ∧ n = 0 ∨ 0 < vs.length ∧ ∃ b1 o1, oq = some ⟨b1, o1, none⟩ ∧ b1 < w.heap.size ∧ wr.cell? ⟨b1, o1, none⟩ = some (.string s) ∧ wr.cell? ⟨b1, o1 + 1, none⟩ = some (.int .i64 n)) := by
              rcases Nat.eq_zero_or_pos vs.length with h | h
              · have : vs = [] := List.length_eq_zero_iff.1 h
                subst this
                exact ⟨⟨#[]⟩, 0, ok7', rfl, .inl ⟨by simp, rfl, rfl⟩⟩
              · obtain ⟨b1, o1, e, hb1, c0, c1⟩ := (HOP.out.v.below HK.out.b (Nat.le_refl _)).at 0 h
                simp only [Nat.zero_mul, Nat.add_zero] at c0 c1
                refine ⟨vs[0].1, vs[0].2, HOP.out.ok _ (List.getElem_mem h), ?_, .inr ⟨h, b1, o1, e, hb1, c0, c1⟩⟩
                cases vs with
                | nil => simp at h
                | cons x r => rfl
            have HSN := Lib.hid hsn
            have HHD := Lib.hid hhd
            obtain ⟨wz, hwz⟩ : ∃ wz, (wr.alloc (.cells #[.int .i64 K, .int .i64 N, .slice oq vs.length c', .slice orr ns.length od] 29)).alloc (.cells #[.string s, .int .i64 n] 31) = wz := ⟨_, rfl⟩
            have hB1 : Below wr.heap.size wr wz := by rw [← hwz]; exact (alloc_below wr _).alloc (by simp) _
            have hcells : ∀ w', Below wz.heap.size wz w' → w'.cell? ⟨wr.heap.size, 0, none⟩ = some (.int .i64 K) ∧ w'.cell? ⟨wr.heap.size, 1, none⟩ = some (.int .i64 N) ∧ w'.cell? ⟨wr.heap.size, 2, none⟩ = some (.slice oq vs.length c') ∧ w'.cell? ⟨wr.heap.size, 3, none⟩ = some (.slice orr ns.length od) ∧ w'.cell? ⟨wr.heap.size + 1, 0, none⟩ = some (.string s) ∧ w'.cell? ⟨wr.heap.size + 1, 1, none⟩ = some (.int .i64 n) := by
              intro w' hb
              have f : ∀ o, wz.cell? ⟨wr.heap.size, o, none⟩ = ([.int .i64 K, .int .i64 N, .slice oq vs.length c', .slice orr ns.length od] : List Value)[o]? := fun o => by
                rw [← hwz, World.cell?_of_block (w := wr.alloc (.cells #[.int .i64 K, .int .i64 N, .slice oq vs.length c', .slice orr ns.length od] 29)) (a := ⟨wr.heap.size, o, none⟩) (Below.heap_alloc _ _ _ (by simp))]
                exact (row_new wr [.int .i64 K, .int .i64 N, .slice oq vs.length c', .slice orr ns.length od] 29).cell o
              have g : ∀ o, wz.cell? ⟨wr.heap.size + 1, o, none⟩ = ([.string s, .int .i64 n] : List Value)[o]? := fun o => by
                rw [← hwz]
                have := (row_new (wr.alloc (.cells #[.int .i64 K, .int .i64 N, .slice oq vs.length c', .slice orr ns.length od] 29)) [.string s, .int .i64 n] 31).cell o
                simp only [World.size_alloc] at this
                exact this
              have hz1 : wr.heap.size < wz.heap.size := by rw [← hwz]; simp; omega
              have hz2 : wr.heap.size + 1 < wz.heap.size := by rw [← hwz]; simp
              refine ⟨?_, ?_, ?_, ?_, ?_, ?_⟩
              · rw [hb.cell (p := ⟨wr.heap.size, 0, none⟩) hz1, f]; rfl
              · rw [hb.cell (p := ⟨wr.heap.size, 1, none⟩) hz1, f]; rfl
              · rw [hb.cell (p := ⟨wr.heap.size, 2, none⟩) hz1, f]; rfl
              · rw [hb.cell (p := ⟨wr.heap.size, 3, none⟩) hz1, f]; rfl
              · rw [hb.cell (p := ⟨wr.heap.size + 1, 0, none⟩) hz2, g]; rfl
              · rw [hb.cell (p := ⟨wr.heap.size + 1, 1, none⟩) hz2, g]; rfl
            have HZ := Lib.hid hcells
            have HB1 := Lib.hid hB1
            have hzs : wz.heap.size = wr.heap.size + 2 := by rw [← hwz]; simp
            have HWZ := Lib.hid hwz
            clear hsn hhd hcells hB1 hwz
            go_upto_if 65 with fail
            go_cut [7] (fun s7 wx => s7 = .pointer (some ⟨wr.heap.size + 1, 0, none⟩) ∧ wx = (wr.alloc (.cells #[.int .i64 K, .int .i64 N, .slice oq vs.length c', .slice orr ns.length od] 29)).alloc (.cells #[.string s, .int .i64 n] 31))
            case first =>
              rcases hvx with ⟨hv0, rfl, rfl⟩ | ⟨hv0, b1, o1, rfl, hb1, y0, y1⟩
              · go_wp2_with fail
                go_meet
                exact ⟨rfl, rfl⟩
              · have hb1r : b1 < wr.heap.size := by omega
                go_wp2_with fail
                go_meet
                exact ⟨rfl, rfl⟩
            case rest =>
              obtain ⟨rfl, rfl⟩ := hcut
              rw [HWZ.out]
              obtain ⟨z0, z1, z2, z3, z4, z5⟩ := HZ.out _ (Below.refl _ _)
              clear x0 x1 x2 x3
              have hm6 : K.tmod 6 % 6 = 0 ∨ K.tmod 6 % 6 = 1 ∨ K.tmod 6 % 6 = 2 ∨ K.tmod 6 % 6 = 3 ∨ K.tmod 6 % 6 = 4 ∨ K.tmod 6 % 6 = 5 := by omega
              have HKz := Lib.hid (HK.out.below HB1.out)
              have hpl := HKz.out.p.lt
              have hG := HG.out
              clear HG
              rename_i QB KC aC u37A u38A u39A u40A u41A u42A u43A u44A u45A u46A u47A u48A u49A u50A u51A u52A u53A u54A u55A u56A u57A u58A u59A u60A u61A u62A u63A u64A u65A u66A u67A u68A u69A u70A u71A u72A u73A u76A u77A u78A u79A u80A u81A u82A u83A u84A u85A u86A u87A u88A u89A u90A u91A u92A u93A u94A u95A u96A u97A u98A u99A u100A u101A u102A u103A u104A u105A u106A u107A u108A u109A u110A u111A u112A u113A u115A u116A u117A u118A u119A u120A u121A u122A u123A u124A u125A u126A u127A u128A u129A u130A u131A u132A u133A u134A u136A u137A u138A u139A u140A u141A u142A u143A u144A u145A u146A u147A u148A u149A u150A u151A u152A u153A u154A u155A u156A u157A u158A u159A u160A u161A u162A u163A u164A u165A u166A u167A u168A u169A u170A u171A u172A u173A u174A u175A u176A u177A u179A u180A u181A u182A u183A u184A u185A u186A u187A u188A u189A u190A u191A u192A u193A u194A u195A u196A u197A u198A u199A u200A u201A u202A u203A u204A u205A u206A u208A u209A u210A u211A u212A u213A u214A u215A u216A u217A u218A u219A u220A u221A u222A u223A u224A u225A u226A u227A u228A u229A u230A u231A u232A u233A u234A u235A u236A u237A u238A u239A u240A u241A u242A u243A u244A u245A u246A u247A u248A u249A u250A u251A u252A u253A u254A u255A u256A u257A u258A u259A u260A u261A u262A u263A u264A u265A u266A u267A u268A u269A u270A u271A u272A u273A u275A u276A u277A u278A u279A u280A u281A u282A QA hC KB aB hB hA KA aA
              obtain ⟨i6, hi0, hi1, hi6⟩ : ∃ i6 : Int, 0 ≤ i6 ∧ i6 < 6 ∧ K.tmod 6 % 6 = i6 := ⟨_, by omega, by omega, rfl⟩
              clear hm6
              have hg := hG i6 hi0 hi1
              clear hG hi0 hi1
              revert os c w hm HOS QB w1 w2 KC aC wr u2 u6 u7 u8 u9 u10 u11 u12 u13 u14 u15 u16 u17 u18 u19 u20 u21 u22 u23 u24 u25 u26 u27 u28 u29 u37A u38A u39A u40A u41A u42A u43A u44A u45A u46A u47A u48A u49A u50A u51A u52A u53A u54A u55A u56A u57A u58A u59A u60A u61A u62A u63A u64A u65A u66A u67A u68A u69A u70A u71A u72A u73A u74 u75 u76A u77A u78A u79A u80A u81A u82A u83A u84A u85A u86A u87A u88A u89A u90A u91A u92A u93A u94A u95A u96A u97A u98A u99A u100A u101A u102A u103A u104A u105A u106A u107A u108A u109A u110A u111A u112A u113A u114 u115A u116A u117A u118A u119A u120A u121A u122A u123A u124A u125A u126A u127A u128A u129A u130A u131A u132A u133A u134A u135 u136A u137A u138A u139A u140A u141A u142A u143A u144A u145A u146A u147A u148A u149A u150A u151A u152A u153A u154A u155A u156A u157A u158A u159A u160A u161A u162A u163A u164A u165A u166A u167A u168A u169A u170A u171A u172A u173A u174A u175A u176A u177A u178 u179A u180A u181A u182A u183A u184A u185A u186A u187A u188A u189A u190A u191A u192A u193A u194A u195A u196A u197A u198A u199A u200A u201A u202A u203A u204A u205A u206A u207 u208A u209A u210A u211A u212A u213A u214A u215A u216A u217A u218A u219A u220A u221A u222A u223A u224A u225A u226A u227A u228A u229A u230A u231A u232A u233A u234A u235A u236A u237A u238A u239A u240A u241A u242A u243A u244A u245A u246A u247A u248A u249A u250A u251A u252A u253A u254A u255A u256A u257A u258A u259A u260A u261A u262A u263A u264A u265A u266A u267A u268A u269A u270A u271A u272A u273A u274 u275A u276A u277A u278A u279A u280A u281A u282A k q l d sv hk HK hszr hlle hlt h200 b off HP hbl hbr K N oq vs c' orr ns od HOP hlv hln hl1 hl2 ht1 ht2 s n hvx HSN HHD wz HZ HB1 hzs HWZ QA hC KB aB hB hA KA aA u37 u38 u39 u40 u41 u42 u43 u44 u45 u46 u47 u48 u49 u50 u51 u52 u53 u54 u55 u56 u57 u58 u59 u60 u61 u62 u63 u64 u65 u66 u67 u68 u69 u70 u71 u72 u73 u76 u77 u78 u79 u80 u81 u82 u83 u84 u85 u86 u87 u88 u89 u90 u91 u92 u93 u94 u95 u96 u97 u98 u99 u100 u101 u102 u103 u104 u105 u106 u107 u108 u109 u110 u111 u112 u113 u115 u116 u117 u118 u119 u120 u121 u122 u123 u124 u125 u126 u127 u128 u129 u130 u131 u132 u133 u134 u136 u137 u138 u139 u140 u141 u142 u143 u144 u145 u146 u147 u148 u149 u150 u151 u152 u153 u154 u155 u156 u157 u158 u159 u160 u161 u162 u163 u164 u165 u166 u167 u168 u169 u170 u171 u172 u173 u174 u175 u176 u177 u179 u180 u181 u182 u183 u184 u185 u186 u187 u188 u189 u190 u191 u192 u193 u194 u195 u196 u197 u198 u199 u200 u201 u202 u203 u204 u205 u206 u208 u209 u210 u211 u212 u213 u214 u215 u216 u217 u218 u219 u220 u221 u222 u223 u224 u225 u226 u227 u228 u229 u230 u231 u232 u233 u234 u235 u236 u237 u238 u239 u240 u241 u242 u243 u244 u245 u246 u247 u248 u249 u250 u251 u252 u253 u254 u255 u256 u257 u258 u259 u260 u261 u262 u263 u264 u265 u266 u267 u268 u269 u270 u271 u272 u273 u275 u276 u277 u278 u279 u280 u281 u282 z0 z1 z2 z3 z4 z5 hi6 HKz hpl
              exact hg
        · go_wp2_with fail
          go_ret
          exact ⟨rfl, HK.out.b⟩
      · go_wp2_with fail
        go_ret
        exact ⟨rfl, HK.out.b⟩
end PlaysLaw
end Go.Proofs.Ytdoadclblloddaa
