/-
  Joined of: Shelfb, PrtA, PrtB.
-/
import Derived.Shelf.Strings.OnBuilder
import Derived.Test.YtfmkfabbiifolaaGreatDoorProg
import Derived.Test.YtfmkfabbiifolaaGreatDoorJa26
set_option linter.unusedVariables false
set_option linter.unusedSimpArgs false
/-
  The library's contracts at this program: strings.Join, slices.Contains and slices.Index of texts.
-/
namespace Go.Proofs
open Go.Shelf
def Tryz.lays156_ren : Go.Shelf.Ren := ⟨fun | 156 => 28 | 165 => 66 | 166 => 67 | 169 => 68 | 240 => 94 | 241 => 95 | 276 => 121 | 277 => 122 | n => n, fun | 31 => 75 | 9 => 9 | 3 => 3 | 4 => 4 | 0 => 0 | 20 => 20 | 72 => 113 | 76 => 116 | 70 => 110 | 37 => 111 | 75 => 115 | 127 => 134 | 164 => 147 | 5 => 5 | 80 => 60 | n => n, fun | n => n⟩
theorem Tryz.lays156 : Go.Proofs.Lays.n156 Tryz.prog Tryz.lays156_ren := {
  mixed := by kernel_rfl
  f156 := Tryz.func28.trans (congrArg some (by kernel_rfl))
  f165 := Tryz.func66.trans (congrArg some (by kernel_rfl))
  f166 := Tryz.func67.trans (congrArg some (by kernel_rfl))
  f169 := Tryz.func68.trans (congrArg some (by kernel_rfl))
  f240 := Tryz.func94.trans (congrArg some (by kernel_rfl))
  f241 := Tryz.func95.trans (congrArg some (by kernel_rfl))
  f276 := Tryz.func121.trans (congrArg some (by kernel_rfl))
  f277 := Tryz.func122.trans (congrArg some (by kernel_rfl))
  t0 := Tryz.underlying0
  a0 := Tryz.isAgg0
  z0 := Tryz.sizeOf0
  v0 := Tryz.zeroValue0
  t3 := Tryz.underlying3
  a3 := Tryz.isAgg3
  z3 := Tryz.sizeOf3
  v3 := Tryz.zeroValue3
  t4 := Tryz.underlying4
  a4 := Tryz.isAgg4
  z4 := Tryz.sizeOf4
  v4 := Tryz.zeroValue4
  t9 := Tryz.underlying9
  a9 := Tryz.isAgg9
  z9 := Tryz.sizeOf9
  v9 := Tryz.zeroValue9
  t20 := Tryz.underlying20
  a20 := Tryz.isAgg20
  z20 := Tryz.sizeOf20
  v20 := Tryz.zeroValue20
  t31 := Tryz.underlying75
  a31 := Tryz.isAgg75
  z31 := Tryz.sizeOf75
  v31 := Tryz.zeroValue75
  t37 := Tryz.underlying111
  a37 := Tryz.isAgg111
  z37 := Tryz.sizeOf111
  v37 := Tryz.zeroValue111
  t70 := Tryz.underlying110
  a70 := Tryz.isAgg110
  z70 := Tryz.sizeOf110
  v70 := Tryz.zeroValue110
  t72 := Tryz.underlying113
  a72 := Tryz.isAgg113
  z72 := Tryz.sizeOf113
  v72 := Tryz.zeroValue113
  t75 := Tryz.underlying115
  a75 := Tryz.isAgg115
  z75 := Tryz.sizeOf115
  v75 := Tryz.zeroValue115
  t76 := Tryz.underlying116
  a76 := Tryz.isAgg116
  z76 := Tryz.sizeOf116
  v76 := Tryz.zeroValue116
  t127 := Tryz.underlying134
  a127 := Tryz.isAgg134
  z127 := Tryz.sizeOf134
  v127 := Tryz.zeroValue134
  t164 := Tryz.underlying147
  a164 := Tryz.isAgg147
  z164 := Tryz.sizeOf147
  v164 := Tryz.zeroValue147 }
theorem Tryz.Builder_Extra_156 : Builder.Extra Tryz.prog Tryz.lays156_ren := {
  sizeBuilder := by kernel_rfl
  liesBuilder := by kernel_rfl
  t5 := Tryz.underlying5
  a5 := Tryz.isAgg5
  z5 := Tryz.sizeOf5
  v5 := Tryz.zeroValue5
  infoByte := by kernel_rfl
  cellsByte := by kernel_rfl
  sizeByte := by kernel_rfl
  neB5 := by decide }
open Go.RowKit in
theorem Tryz.strings_Join_none (a : Option Addr) (c : Nat) (sep : ByteArray) (w : World) :
    Calls Tryz.prog 28 #[.slice a 0 c, .string sep] w fun e w' => e = .returned (.string ⟨#[]⟩) ∧ w' = w := Any.strings_Join_none Tryz.lays156 Tryz.Builder_Extra_156 a c sep w
open Go.RowKit in
theorem Tryz.strings_Join (bk o c : Nat) (xs : List ByteArray) (sep : ByteArray) (w : World) (hcells : ∀ (j : Nat) x, xs[j]? = some x → w.cell? ⟨bk, o + j, none⟩ = some (.string x)) (hbk : bk < w.heap.size) (hN : xs.length ≤ 140737488355328) (hcap : xs.length ≤ c) (hlen : (Lib.join (xs.map (·.data.toList)) sep.data.toList).length ≤ 140737488355328) :
    Calls Tryz.prog 28 #[.slice (some ⟨bk, o, none⟩) xs.length c, .string sep] w fun e w' => e = .returned (.string ⟨(Lib.join (xs.map (·.data.toList)) sep.data.toList).toArray⟩) ∧ Below w.heap.size w w' := Any.strings_Join Tryz.lays156 Tryz.Builder_Extra_156 bk o c xs sep w hcells hbk hN hcap hlen
end Go.Proofs

/-
  Contract: clause.listText, of terms.
-/
namespace Go.Proofs.YtfmkfabbiifolaaGreatDoor
open Go.RowKit

def encS (x : ByteArray) : List Value := [.string x]
theorem ES : Enc encS 1 := ⟨fun _ => rfl, by decide, fun a u hu => by simp [encS] at hu; subst hu; rfl⟩
theorem infoStr : (Tryz.prog.info? 9).map (fun i => (i.zero, i.size, i.bytes)) = some (some (.string ⟨#[]⟩), 1, 16) := by kernel_rfl
theorem underSs : Tryz.prog.underlying 75 = some (.slice 9) := Tryz.underlying75
/-- one behind the other, with a comma and a blank between -/
def joinB (xs : List ByteArray) : ByteArray := ⟨(Lib.join (xs.map (·.data.toList)) [44, 32]).toArray⟩
theorem lens_bd (M : Nat) : ∀ xs : List (List UInt8), (∀ x ∈ xs, x.length ≤ M) → Lib.lens xs ≤ xs.length * M
  | [], _ => by simp [Lib.lens]
  | x :: r, h => by
    have h1 := h x (by simp)
    have h2 := lens_bd M r (fun y hy => h y (by simp [hy]))
    have e : Lib.lens (x :: r) = x.length + Lib.lens r := by simp [Lib.lens]
    rw [e, List.length_cons, Nat.succ_mul]; omega
theorem joinB_size (xs : List ByteArray) (M : Nat) (h : ∀ x ∈ xs, x.size ≤ M) : (joinB xs).size ≤ xs.length * (M + 2) ∧ (Lib.join (xs.map (·.data.toList)) [44, 32]).length ≤ xs.length * (M + 2) := by
  have hs : (joinB xs).size = (Lib.join (xs.map (·.data.toList)) [44, 32]).length := by unfold joinB; show (List.toArray _).size = _; simp
  rw [hs]
  refine ⟨?_, ?_⟩ <;>
  · cases xs with
    | nil => simp [Lib.join_nil]
    | cons x r =>
      rw [List.map_cons, Lib.join_length]
      have := lens_bd M ((x :: r).map (·.data.toList)) (fun y hy => by
        obtain ⟨z, hz, rfl⟩ := List.mem_map.1 hy
        simpa using h z hz)
      simp only [List.map_cons, List.length_map, List.length_cons, List.length_nil] at this ⊢
      have e : (r.length + 1) * (M + 2) = (r.length + 1) * M + (r.length + 1) * 2 := Nat.mul_add _ _ _
      omega
/-- strings.Join of a row of the call's own -/
theorem join_own {w : World} {base : Nat} {v : Value} (xs : List ByteArray) (h : w.ownsRow base 9 1 v xs.length (flatE encS xs)) (hl : (Lib.join (xs.map (·.data.toList)) [44, 32]).length ≤ 140737488355328) (hn : xs.length ≤ 140737488355328) :
    Calls Tryz.prog 28 #[v, .string ⟨#[44, 32]⟩] w fun e w' => e = .returned (.string (joinB xs)) ∧ Below w.heap.size w w' := by
  rcases h.2 with ⟨rfl, h0⟩ | ⟨g, cap, cur, rfl, hb, hg, hcap, _⟩
  · obtain rfl := List.length_eq_zero_iff.1 h0
    exact (Tryz.strings_Join_none none 0 ⟨#[44, 32]⟩ w).mono fun e w' ⟨he, hw⟩ => ⟨he, hw ▸ Below.refl _ _⟩
  · have hlt : g < w.heap.size := (Array.getElem?_eq_some_iff.1 hg).1
    refine (Tryz.strings_Join g 0 cap xs ⟨#[44, 32]⟩ w (fun j x hx => ?_) hlt hn hcap hl).mono fun e w' ⟨he, hb⟩ => ⟨he, hb⟩
    have hj : j < xs.length := (List.getElem?_eq_some_iff.1 hx).1
    have := h.cells (g := g) rfl (j * 1 + 0) (.string x) (by
      rw [flatE_get ES xs j hj 0 (by decide)]
      rw [List.getElem?_eq_getElem hj] at hx; injection hx with hx
      rw [hx]; rfl)
    rw [Addr.add_lit] at this
    simpa using this

set_option maxHeartbeats 8000000 in
set_option maxRecDepth 100000 in
theorem listTerm_any (q : Option Addr) (c : Nat) (l : List Tm) (w : World) (hi : Tms w w.heap.size q l) (hz : ∀ t ∈ l, t.Sz ∧ t.Nb ∧ t.txt.size ≤ 1000) (hl : l.length ≤ 1000) (he : Env w) :
    Calls Tryz.prog 125 #[.slice q l.length c, .func (.func 124) #[] #[]] w fun e w' => e = .returned (.string (joinB (l.map Tm.txt))) ∧ Below w.heap.size w w' := by
  have HE := Lib.hid he
  have HI := Lib.hid hi
  have HZ := Lib.hid hz
  obtain ⟨i0, hii, hz0, hz1, hzb⟩ := info_parts infoStr
  clear he hi hz
  go_enter Tryz.func125, Tryz.ntmps125
  go_wp2_with fail
  go_loopw [5, 10] (fun v i wr => ∃ j : Nat, j ≤ l.length ∧ i = .int .i64 j ∧ Hid (wr.ownsRow w.heap.size 9 1 v j (flatE encS ((l.take j).map Tm.txt))) ∧ Below w.heap.size w wr) (fun _ i _ => l.length - (intOf i).toNat)
  case atStart => exact ⟨0, Nat.zero_le _, rfl, Lib.hid (World.ownsRow_nil _ _ _ _), Below.refl _ _⟩
  case round =>
    obtain ⟨j, hj, rfl, HO, hb⟩ := hrel
    have HB := Lib.hid hb
    clear hb
    by_cases hlt : j < l.length
    · obtain ⟨b, o, rfl, hbb, x0, x1, x2⟩ := rdM_at (HI.out.below HB.out (Nat.le_refl _)) j hlt
      have hb' : b < wr.heap.size := Nat.lt_of_lt_of_le hbb HB.out.size
      have HT := Lib.hid (show ∀ o, Calls Tryz.prog 124 #[.agg #[.string l[j].v, .string l[j].s, .int .i64 l[j].n]] (wr.alloc o) fun e w' => e = .returned (.string l[j].txt) ∧ Below (wr.alloc o).heap.size (wr.alloc o) w' from fun o => termText_any l[j] _ (HZ.out _ (List.getElem_mem hlt)).1 (HZ.out _ (List.getElem_mem hlt)).2.1 (HE.out.on (HB.out.alloc HB.out.size o)))
      have HX := Lib.hid (show (l.take (j + 1)).map Tm.txt = (l.take j).map Tm.txt ++ [l[j].txt] by rw [List.take_succ_eq_append_getElem hlt, List.map_append]; rfl)
      have HL1 := Lib.hid (show j + 1 ≤ maxLen by unfold maxLen; omega)
      have HL2 := Lib.hid (show (j + 1) * 16 ≤ 140737488355328 by omega)
      generalize l[j].txt = tx at *
      go_wp2_with (first
        | (go_at_call 124; refine (HT.out _).mono ?_; rintro e w1 ⟨rfl, hb1⟩; have HB1 := Lib.hid ((HB.out.alloc HB.out.size _).trans (hb1.mono (HB.out.alloc HB.out.size _).size)); have HO1 := Lib.hid (own_below (own_below HO.out (below1 wr _)) hb1); have h65 := HB1.out.size; clear hb1)
        | (at_builtin; refine wpList_append_lies _ rfl _ _ 75 rfl w.heap.size 9 i0 (.string ⟨#[]⟩) 1 16 underSs hii hz0 hz1 hzb rfl (by decide) _ _ _ rfl (own_below HO1.out (below1 _ _)) ⟨w1.heap.size, 0, none⟩ 1 1 [.string tx] rfl rfl (news_alloc _ _ _) (ES.one tx) (by decide) HL1.out HL2.out (Nat.le_trans h65 (below1 w1 _).size) _ rfl ?_; intro g cap w2 hown hgrow hat hlt2; have HOW := Lib.hid hown; have HG := Lib.hid ((HB1.out.trans ((below1 w1 _).mono HB1.out.size)).grown hgrow (Nat.le_trans h65 (below1 w1 _).size) (fun x hx => (HO1.out.lt x hx).1)); clear hown hgrow hat))
      go_roundw
      case rel => exact ⟨j + 1, by omega, by go_num, Lib.hid (by rw [HX.out, flatE_snoc]; exact HOW.out), HG.out⟩
      case measure => simp [intOf]; omega
    · have hje : j = l.length := by omega
      have HX := Lib.hid (show (l.take j).map Tm.txt = l.map Tm.txt by rw [hje, List.take_length])
      have hsz := joinB_size (l.map Tm.txt) 1000 (fun x hx => by obtain ⟨t, ht, rfl⟩ := List.mem_map.1 hx; exact (HZ.out t ht).2.2)
      have hml : (l.map Tm.txt).length = j := by rw [List.length_map]; omega
      rw [hml] at hsz
      have HJ := Lib.hid (join_own (l.map Tm.txt) (base := w.heap.size) (by rw [hml, ← HX.out]; exact HO.out) (by omega) (by omega))
      clear hsz hml
      go_wp2_with (go_at_call 28; refine (HJ.out).mono ?_; rintro e w1 ⟨rfl, hb1⟩)
      go_ret
      exact ⟨rfl, HB.out.trans (hb1.mono HB.out.size)⟩
end Go.Proofs.YtfmkfabbiifolaaGreatDoor

/-
  Contract: clause.saidText.
-/
namespace Go.Proofs.YtfmkfabbiifolaaGreatDoor
open Go.RowKit

def wdSaid : ByteArray := ⟨#[32, 115, 97, 121, 115, 32]⟩
/-- an atom's text behind what stands ahead of it -/
def argsT (a : ByteArray) (l : List Tm) : ByteArray := if l.isEmpty then a else a ++ ((⟨#[40]⟩ ++ joinB (l.map Tm.txt)) ++ ⟨#[41]⟩)
/-- a literal's text -/
def Lp.saidT (l : Lp) : ByteArray := argsT (if l.who.none then l.pred else (l.who.txt ++ wdSaid) ++ l.pred) l.args
/-- the texts are short -/
structure Lp.Short (l : Lp) : Prop where
  nb : l.Nb
  who : l.who.none = false → l.who.txt.size ≤ 1000
  args : ∀ t ∈ l.args, t.txt.size ≤ 1000
  len : l.args.length ≤ 1000

set_option maxHeartbeats 8000000 in
set_option maxRecDepth 100000 in
theorem saidText_any (l : Lp) (w : World) (hi : l.In w w.heap.size) (hs : l.Short) (he : Env w) :
    Calls Tryz.prog 97 #[l.agg] w fun e w' => e = .returned (.string l.saidT) ∧ Below w.heap.size w w' := by
  have HE := Lib.hid he
  have HB := Lib.hid (below1 w)
  have HW := Lib.hid (show ∀ wx, Env wx → Calls Tryz.prog 124 #[.agg #[.string l.who.v, .string l.who.s, .int .i64 l.who.n]] wx fun e w' => e = .returned (.string l.who.txt) ∧ Below wx.heap.size wx w' from fun wx hx => termText_any l.who wx hi.who hs.nb.who hx)
  have HL := Lib.hid (show ∀ wx, Below w.heap.size w wx → Calls Tryz.prog 125 #[.slice l.ptr l.args.length l.cap, .func (.func 124) #[] #[]] wx fun e w' => e = .returned (.string (joinB (l.args.map Tm.txt))) ∧ Below wx.heap.size wx w' from fun wx hx => listTerm_any l.ptr l.cap l.args wx (hi.args.grow hx) (fun t ht => ⟨hi.sz t ht, hs.nb.args t ht, hs.args t ht⟩) hs.len (he.on hx))
  have HX := Lib.hid (show l.saidT = argsT (if l.who.none then l.pred else (l.who.txt ++ wdSaid) ++ l.pred) l.args from rfl)
  have HA := Lib.hid (show ∀ a, argsT a l.args = if l.args.length = 0 then a else a ++ ((⟨#[40]⟩ ++ joinB (l.args.map Tm.txt)) ++ ⟨#[41]⟩) from fun a => by unfold argsT; cases l.args <;> simp)
  have HN := Lib.hid (show l.who.none = (l.who.v.toList.isEmpty && (l.who.s.toList.isEmpty && l.who.n == 0)) from rfl)
  have hpz := hi.pred
  have hjz : (joinB (l.args.map Tm.txt)).size ≤ 2000000 := by
    have := (joinB_size (l.args.map Tm.txt) 1000 (fun x hx => by obtain ⟨t, ht, rfl⟩ := List.mem_map.1 hx; exact hs.args t ht)).1
    rw [List.length_map] at this
    have := hs.len
    omega
  have hwz := hs.who
  unfold Lp.agg
  generalize l.saidT = tx at *
  generalize l.who.none = no at *
  generalize l.who.txt = wt at *
  generalize joinB (l.args.map Tm.txt) = jn at *
  obtain ⟨kd, ⟨v, s, n⟩, p, q, c, xs⟩ := l
  simp only at HX HA HN HW HL hpz ⊢
  generalize xs.length = m at *
  clear he hi hs
  by_cases hm : m = 0
  · subst hm
    have HA2 := Lib.hid (fun a => (HA.out a).trans (if_pos rfl))
    cases no with
    | true =>
      obtain ⟨h0, h1, h2⟩ : v.toList.isEmpty = true ∧ s.toList.isEmpty = true ∧ (n == 0) = true := by have := HN.out; simp at this; simp [this]
      go_enter Tryz.func97, Tryz.ntmps97
      go_wp2_with fail
      go_ret
      exact ⟨by rw [HX.out, HA2.out]; rfl, HB.out _⟩
    | false =>
      have hwz' := hwz rfl
      cases h0 : v.toList.isEmpty <;> cases h1 : s.toList.isEmpty <;> cases h2 : (n == 0)
      case true.true.true => have := HN.out; simp [h0, h1, h2] at this
      all_goals
        go_enter Tryz.func97, Tryz.ntmps97
        go_wp2_with (go_at_call 124; refine (HW.out _ (HE.out.on (HB.out _))).mono ?_; rintro e w1 ⟨rfl, hb1⟩; have e5 := box_cell hb1 5 _ rfl; have HB1 := Lib.hid ((HB.out _).trans (hb1.mono (HB.out _).size)); clear hb1)
        go_ret
        exact ⟨by rw [HX.out, HA2.out]; rfl, HB1.out⟩
  · have HA2 := Lib.hid (fun a => (HA.out a).trans (if_neg hm))
    have hm1 : (m : Int) > 0 := by omega
    cases no with
    | true =>
      obtain ⟨h0, h1, h2⟩ : v.toList.isEmpty = true ∧ s.toList.isEmpty = true ∧ (n == 0) = true := by have := HN.out; simp at this; simp [this]
      go_enter Tryz.func97, Tryz.ntmps97
      go_wp2_with (go_at_call 125; refine (HL.out _ (HB.out _)).mono ?_; rintro e w2 ⟨rfl, hb2⟩)
      go_ret
      exact ⟨by rw [HX.out, HA2.out]; rfl, (HB.out _).trans (hb2.mono (HB.out _).size)⟩
    | false =>
      have hwz' := hwz rfl
      cases h0 : v.toList.isEmpty <;> cases h1 : s.toList.isEmpty <;> cases h2 : (n == 0)
      case true.true.true => have := HN.out; simp [h0, h1, h2] at this
      all_goals
        go_enter Tryz.func97, Tryz.ntmps97
        go_wp2_with (first
          | (go_at_call 124; refine (HW.out _ (HE.out.on (HB.out _))).mono ?_; rintro e w1 ⟨rfl, hb1⟩; have e5 := box_cell hb1 5 _ rfl; have HB1 := Lib.hid ((HB.out _).trans (hb1.mono (HB.out _).size)); clear hb1)
          | (go_at_call 125; refine (HL.out _ HB1.out).mono ?_; rintro e w2 ⟨rfl, hb2⟩))
        go_ret
        exact ⟨by rw [HX.out, HA2.out]; rfl, HB1.out.trans (hb2.mono HB1.out.size)⟩
end Go.Proofs.YtfmkfabbiifolaaGreatDoor
