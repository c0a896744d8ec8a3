/-
  Joined of: PrtA, PrtB, PrtC.
-/
import Derived.Test.YtnjdganikeganaaGreatDoorJa18
set_option linter.unusedVariables false
set_option linter.unusedSimpArgs false
/-
  Contract: clause.listText, of terms.
-/
namespace Go.Proofs.YtnjdganikeganaaGreatDoor
open Go.RowKit

def encS (x : ByteArray) : List Value := [.string x]
theorem ES : Enc encS 1 := ⟨fun _ => rfl, by decide, fun a u hu => by simp [encS] at hu; subst hu; rfl⟩
theorem infoStr : (Tryz.prog.info? 9).map (fun i => (i.zero, i.size, i.bytes)) = some (some (.string ⟨#[]⟩), 1, 16) := by kernel_rfl
theorem underSs : Tryz.prog.underlying 56 = some (.slice 9) := Tryz.underlying56
/-- one behind the other, with a comma and a blank between -/
def joinB (xs : List ByteArray) : ByteArray := ⟨(Lib.join (xs.map (·.data.toList)) [44, 32]).toArray⟩
theorem lens_bd (M : Nat) : ∀ xs : List (List UInt8), (∀ x ∈ xs, x.length ≤ M) → Lib.lens xs ≤ xs.length * M
  | [], _ => by simp [Lib.lens]
  | x :: r, h => by
    have h1 := h x (by simp)
    have h2 := lens_bd M r (fun y hy => h y (by simp [hy]))
    have e : Lib.lens (x :: r) = x.length + Lib.lens r := by simp [Lib.lens]
    rw [e, List.length_cons, Nat.succ_mul]; omega
theorem joinB_size (xs : List ByteArray) (M : Nat) (h : ∀ x ∈ xs, x.size ≤ M) : (joinB xs).size ≤ xs.length * (M + 2) ∧ (Lib.join (xs.map (·.data.toList)) [44, 32]).length ≤ xs.length * (M + 2) := by
  have hs : (joinB xs).size = (Lib.join (xs.map (·.data.toList)) [44, 32]).length := by unfold joinB; show (List.toArray _).size = _; simp
  rw [hs]
  refine ⟨?_, ?_⟩ <;>
  · cases xs with
    | nil => simp [Lib.join_nil]
    | cons x r =>
      rw [List.map_cons, Lib.join_length]
      have := lens_bd M ((x :: r).map (·.data.toList)) (fun y hy => by
        obtain ⟨z, hz, rfl⟩ := List.mem_map.1 hy
        simpa using h z hz)
      simp only [List.map_cons, List.length_map, List.length_cons, List.length_nil] at this ⊢
      have e : (r.length + 1) * (M + 2) = (r.length + 1) * M + (r.length + 1) * 2 := Nat.mul_add _ _ _
      omega
/-- strings.Join of a row of the call's own -/
theorem join_own {w : World} {base : Nat} {v : Value} (xs : List ByteArray) (h : w.ownsRow base 9 1 v xs.length (flatE encS xs)) (hl : (Lib.join (xs.map (·.data.toList)) [44, 32]).length ≤ 140737488355328) (hn : xs.length ≤ 140737488355328) :
    Calls Tryz.prog 74 #[v, .string ⟨#[44, 32]⟩] w fun e w' => e = .returned (.string (joinB xs)) ∧ Below w.heap.size w w' := by
  rcases h.2 with ⟨rfl, h0⟩ | ⟨g, cap, cur, rfl, hb, hg, hcap, _⟩
  · obtain rfl := List.length_eq_zero_iff.1 h0
    exact (Tryz.strings_Join_none none 0 ⟨#[44, 32]⟩ w).mono fun e w' ⟨he, hw⟩ => ⟨he, hw ▸ Below.refl _ _⟩
  · have hlt : g < w.heap.size := (Array.getElem?_eq_some_iff.1 hg).1
    refine (Tryz.strings_Join g 0 cap xs ⟨#[44, 32]⟩ w (fun j x hx => ?_) hlt hn hcap hl).mono fun e w' ⟨he, hb⟩ => ⟨he, hb⟩
    have hj : j < xs.length := (List.getElem?_eq_some_iff.1 hx).1
    have := h.cells (g := g) rfl (j * 1 + 0) (.string x) (by
      rw [flatE_get ES xs j hj 0 (by decide)]
      rw [List.getElem?_eq_getElem hj] at hx; injection hx with hx
      rw [hx]; rfl)
    rw [Addr.add_lit] at this
    simpa using this

set_option maxHeartbeats 8000000 in
set_option maxRecDepth 100000 in
theorem listTerm_any (q : Option Addr) (c : Nat) (l : List Tm) (w : World) (hi : Tms w w.heap.size q l) (hz : ∀ t ∈ l, t.Sz ∧ t.Nb ∧ t.txt.size ≤ 1000) (hl : l.length ≤ 1000) (he : Env w) :
    Calls Tryz.prog 73 #[.slice q l.length c, .func (.func 72) #[] #[]] w fun e w' => e = .returned (.string (joinB (l.map Tm.txt))) ∧ Below w.heap.size w w' := by
  have HE := Lib.hid he
  have HI := Lib.hid hi
  have HZ := Lib.hid hz
  obtain ⟨i0, hii, hz0, hz1, hzb⟩ := info_parts infoStr
  clear he hi hz
  go_enter Tryz.func73, Tryz.ntmps73
  go_wp2_with fail
  go_loopw [5, 10] (fun v i wr => ∃ j : Nat, j ≤ l.length ∧ i = .int .i64 j ∧ Hid (wr.ownsRow w.heap.size 9 1 v j (flatE encS ((l.take j).map Tm.txt))) ∧ Below w.heap.size w wr) (fun _ i _ => l.length - (intOf i).toNat)
  case atStart => exact ⟨0, Nat.zero_le _, rfl, Lib.hid (World.ownsRow_nil _ _ _ _), Below.refl _ _⟩
  case round =>
    obtain ⟨j, hj, rfl, HO, hb⟩ := hrel
    have HB := Lib.hid hb
    clear hb
    by_cases hlt : j < l.length
    · obtain ⟨b, o, rfl, hbb, x0, x1, x2⟩ := rdM_at (HI.out.below HB.out (Nat.le_refl _)) j hlt
      have hb' : b < wr.heap.size := Nat.lt_of_lt_of_le hbb HB.out.size
      have HT := Lib.hid (show ∀ o, Calls Tryz.prog 72 #[.agg #[.string l[j].v, .string l[j].s, .int .i64 l[j].n]] (wr.alloc o) fun e w' => e = .returned (.string l[j].txt) ∧ Below (wr.alloc o).heap.size (wr.alloc o) w' from fun o => termText_any l[j] _ (HZ.out _ (List.getElem_mem hlt)).1 (HZ.out _ (List.getElem_mem hlt)).2.1 (HE.out.on (HB.out.alloc HB.out.size o)))
      have HX := Lib.hid (show (l.take (j + 1)).map Tm.txt = (l.take j).map Tm.txt ++ [l[j].txt] by rw [List.take_succ_eq_append_getElem hlt, List.map_append]; rfl)
      have HL1 := Lib.hid (show j + 1 ≤ maxLen by unfold maxLen; omega)
      have HL2 := Lib.hid (show (j + 1) * 16 ≤ 140737488355328 by omega)
      generalize l[j].txt = tx at *
      go_wp2_with (first
        | (go_at_call 72; refine (HT.out _).mono ?_; rintro e w1 ⟨rfl, hb1⟩; have HB1 := Lib.hid ((HB.out.alloc HB.out.size _).trans (hb1.mono (HB.out.alloc HB.out.size _).size)); have HO1 := Lib.hid (own_below (own_below HO.out (below1 wr _)) hb1); have h65 := HB1.out.size; clear hb1)
        | (at_builtin; refine wpList_append_lies _ rfl _ _ 56 rfl w.heap.size 9 i0 (.string ⟨#[]⟩) 1 16 underSs hii hz0 hz1 hzb rfl (by decide) _ _ _ rfl (own_below HO1.out (below1 _ _)) ⟨w1.heap.size, 0, none⟩ 1 1 [.string tx] rfl rfl (news_alloc _ _ _) (ES.one tx) (by decide) HL1.out HL2.out (Nat.le_trans h65 (below1 w1 _).size) _ rfl ?_; intro g cap w2 hown hgrow hat hlt2; have HOW := Lib.hid hown; have HG := Lib.hid ((HB1.out.trans ((below1 w1 _).mono HB1.out.size)).grown hgrow (Nat.le_trans h65 (below1 w1 _).size) (fun x hx => (HO1.out.lt x hx).1)); clear hown hgrow hat))
      go_roundw
      case rel => exact ⟨j + 1, by omega, by go_num, Lib.hid (by rw [HX.out, flatE_snoc]; exact HOW.out), HG.out⟩
      case measure => simp [intOf]; omega
    · have hje : j = l.length := by omega
      have HX := Lib.hid (show (l.take j).map Tm.txt = l.map Tm.txt by rw [hje, List.take_length])
      have hsz := joinB_size (l.map Tm.txt) 1000 (fun x hx => by obtain ⟨t, ht, rfl⟩ := List.mem_map.1 hx; exact (HZ.out t ht).2.2)
      have hml : (l.map Tm.txt).length = j := by rw [List.length_map]; omega
      rw [hml] at hsz
      have HJ := Lib.hid (join_own (l.map Tm.txt) (base := w.heap.size) (by rw [hml, ← HX.out]; exact HO.out) (by omega) (by omega))
      clear hsz hml
      go_wp2_with (go_at_call 74; refine (HJ.out).mono ?_; rintro e w1 ⟨rfl, hb1⟩)
      go_ret
      exact ⟨rfl, HB.out.trans (hb1.mono HB.out.size)⟩
end Go.Proofs.YtnjdganikeganaaGreatDoor

/-
  Contract: clause.saidText.
-/
namespace Go.Proofs.YtnjdganikeganaaGreatDoor
open Go.RowKit

def wdSaid : ByteArray := ⟨#[32, 115, 97, 121, 115, 32]⟩
/-- an atom's text behind what stands ahead of it -/
def argsT (a : ByteArray) (l : List Tm) : ByteArray := if l.isEmpty then a else a ++ ((⟨#[40]⟩ ++ joinB (l.map Tm.txt)) ++ ⟨#[41]⟩)
/-- a literal's text -/
def Lp.saidT (l : Lp) : ByteArray := argsT (if l.who.none then l.pred else (l.who.txt ++ wdSaid) ++ l.pred) l.args
/-- the texts are short -/
structure Lp.Short (l : Lp) : Prop where
  nb : l.Nb
  who : l.who.none = false → l.who.txt.size ≤ 1000
  args : ∀ t ∈ l.args, t.txt.size ≤ 1000
  len : l.args.length ≤ 1000

set_option maxHeartbeats 8000000 in
set_option maxRecDepth 100000 in
theorem saidText_any (l : Lp) (w : World) (hi : l.In w w.heap.size) (hs : l.Short) (he : Env w) :
    Calls Tryz.prog 43 #[l.agg] w fun e w' => e = .returned (.string l.saidT) ∧ Below w.heap.size w w' := by
  have HE := Lib.hid he
  have HB := Lib.hid (below1 w)
  have HW := Lib.hid (show ∀ wx, Env wx → Calls Tryz.prog 72 #[.agg #[.string l.who.v, .string l.who.s, .int .i64 l.who.n]] wx fun e w' => e = .returned (.string l.who.txt) ∧ Below wx.heap.size wx w' from fun wx hx => termText_any l.who wx hi.who hs.nb.who hx)
  have HL := Lib.hid (show ∀ wx, Below w.heap.size w wx → Calls Tryz.prog 73 #[.slice l.ptr l.args.length l.cap, .func (.func 72) #[] #[]] wx fun e w' => e = .returned (.string (joinB (l.args.map Tm.txt))) ∧ Below wx.heap.size wx w' from fun wx hx => listTerm_any l.ptr l.cap l.args wx (hi.args.grow hx) (fun t ht => ⟨hi.sz t ht, hs.nb.args t ht, hs.args t ht⟩) hs.len (he.on hx))
  have HX := Lib.hid (show l.saidT = argsT (if l.who.none then l.pred else (l.who.txt ++ wdSaid) ++ l.pred) l.args from rfl)
  have HA := Lib.hid (show ∀ a, argsT a l.args = if l.args.length = 0 then a else a ++ ((⟨#[40]⟩ ++ joinB (l.args.map Tm.txt)) ++ ⟨#[41]⟩) from fun a => by unfold argsT; cases l.args <;> simp)
  have HN := Lib.hid (show l.who.none = (l.who.v.toList.isEmpty && (l.who.s.toList.isEmpty && l.who.n == 0)) from rfl)
  have hpz := hi.pred
  have hjz : (joinB (l.args.map Tm.txt)).size ≤ 2000000 := by
    have := (joinB_size (l.args.map Tm.txt) 1000 (fun x hx => by obtain ⟨t, ht, rfl⟩ := List.mem_map.1 hx; exact hs.args t ht)).1
    rw [List.length_map] at this
    have := hs.len
    omega
  have hwz := hs.who
  unfold Lp.agg
  generalize l.saidT = tx at *
  generalize l.who.none = no at *
  generalize l.who.txt = wt at *
  generalize joinB (l.args.map Tm.txt) = jn at *
  obtain ⟨kd, ⟨v, s, n⟩, p, q, c, xs⟩ := l
  simp only at HX HA HN HW HL hpz ⊢
  generalize xs.length = m at *
  clear he hi hs
  by_cases hm : m = 0
  · subst hm
    have HA2 := Lib.hid (fun a => (HA.out a).trans (if_pos rfl))
    cases no with
    | true =>
      obtain ⟨h0, h1, h2⟩ : v.toList.isEmpty = true ∧ s.toList.isEmpty = true ∧ (n == 0) = true := by have := HN.out; simp at this; simp [this]
      go_enter Tryz.func43, Tryz.ntmps43
      go_wp2_with fail
      go_ret
      exact ⟨by rw [HX.out, HA2.out]; rfl, HB.out _⟩
    | false =>
      have hwz' := hwz rfl
      cases h0 : v.toList.isEmpty <;> cases h1 : s.toList.isEmpty <;> cases h2 : (n == 0)
      case true.true.true => have := HN.out; simp [h0, h1, h2] at this
      all_goals
        go_enter Tryz.func43, Tryz.ntmps43
        go_wp2_with (go_at_call 72; refine (HW.out _ (HE.out.on (HB.out _))).mono ?_; rintro e w1 ⟨rfl, hb1⟩; have e5 := box_cell hb1 5 _ rfl; have HB1 := Lib.hid ((HB.out _).trans (hb1.mono (HB.out _).size)); clear hb1)
        go_ret
        exact ⟨by rw [HX.out, HA2.out]; rfl, HB1.out⟩
  · have HA2 := Lib.hid (fun a => (HA.out a).trans (if_neg hm))
    have hm1 : (m : Int) > 0 := by omega
    cases no with
    | true =>
      obtain ⟨h0, h1, h2⟩ : v.toList.isEmpty = true ∧ s.toList.isEmpty = true ∧ (n == 0) = true := by have := HN.out; simp at this; simp [this]
      go_enter Tryz.func43, Tryz.ntmps43
      go_wp2_with (go_at_call 73; refine (HL.out _ (HB.out _)).mono ?_; rintro e w2 ⟨rfl, hb2⟩)
      go_ret
      exact ⟨by rw [HX.out, HA2.out]; rfl, (HB.out _).trans (hb2.mono (HB.out _).size)⟩
    | false =>
      have hwz' := hwz rfl
      cases h0 : v.toList.isEmpty <;> cases h1 : s.toList.isEmpty <;> cases h2 : (n == 0)
      case true.true.true => have := HN.out; simp [h0, h1, h2] at this
      all_goals
        go_enter Tryz.func43, Tryz.ntmps43
        go_wp2_with (first
          | (go_at_call 72; refine (HW.out _ (HE.out.on (HB.out _))).mono ?_; rintro e w1 ⟨rfl, hb1⟩; have e5 := box_cell hb1 5 _ rfl; have HB1 := Lib.hid ((HB.out _).trans (hb1.mono (HB.out _).size)); clear hb1)
          | (go_at_call 73; refine (HL.out _ HB1.out).mono ?_; rintro e w2 ⟨rfl, hb2⟩))
        go_ret
        exact ⟨by rw [HX.out, HA2.out]; rfl, HB1.out.trans (hb2.mono HB1.out.size)⟩
end Go.Proofs.YtnjdganikeganaaGreatDoor

/-
  Contract: clause.literalText.
-/
namespace Go.Proofs.YtnjdganikeganaaGreatDoor
open Go.RowKit

def wdNotB : ByteArray := ⟨#[110, 111, 116, 32]⟩
def wdLessB : ByteArray := ⟨#[32, 60, 32]⟩
def wdUnlikeB : ByteArray := ⟨#[32, 33, 61, 32]⟩
def cmpT (x : ByteArray) : List Tm → ByteArray
  | [a, b] => (a.txt ++ x) ++ b.txt
  | _ => ⟨#[]⟩
/-- a literal's text in a body -/
def Lp.litT (l : Lp) : ByteArray := if l.kind = 2 then wdNotB ++ l.saidT else if l.kind = 3 then cmpT wdLessB l.args else if l.kind = 4 then cmpT wdUnlikeB l.args else l.saidT
theorem argsT_size (a : ByteArray) (l : List Tm) (h : ∀ t ∈ l, t.txt.size ≤ 1000) (hl : l.length ≤ 1000) : (argsT a l).size ≤ a.size + 1002002 := by
  unfold argsT
  split
  · omega
  · have := (joinB_size (l.map Tm.txt) 1000 (fun x hx => by obtain ⟨t, ht, rfl⟩ := List.mem_map.1 hx; exact h t ht)).1
    rw [List.length_map] at this
    rw [ByteArray.size_append, ByteArray.size_append, ByteArray.size_append]
    have e1 : (⟨#[40]⟩ : ByteArray).size = 1 := rfl
    have e2 : (⟨#[41]⟩ : ByteArray).size = 1 := rfl
    omega
theorem saidT_size (l : Lp) (hs : l.Short) : l.saidT.size ≤ l.pred.size + 1003010 := by
  unfold Lp.saidT
  refine Nat.le_trans (argsT_size _ _ hs.args hs.len) ?_
  split
  · omega
  · rename_i h
    have := hs.who (by simpa using h)
    rw [ByteArray.size_append, ByteArray.size_append]
    have e1 : wdSaid.size = 6 := rfl
    omega

set_option maxHeartbeats 8000000 in
set_option maxRecDepth 100000 in
theorem litText_said (l : Lp) (w : World) (hi : l.In w w.heap.size) (hs : l.Short) (he : Env w) (h2 : l.kind ≠ 2) (h3 : l.kind ≠ 3) (h4 : l.kind ≠ 4) :
    Calls Tryz.prog 45 #[l.agg] w fun e w' => e = .returned (.string l.saidT) ∧ Below w.heap.size w w' := by
  have HB := Lib.hid (below1 w)
  have HS := Lib.hid (show ∀ o, Calls Tryz.prog 43 #[l.agg] (w.alloc o) fun e w' => e = .returned (.string l.saidT) ∧ Below (w.alloc o).heap.size (w.alloc o) w' from fun o => saidText_any l _ (hi.grow (below1 w o)) hs (he.on (below1 w o)))
  have g2 : (l.kind == 2) = false := by simpa using h2
  have g3 : (l.kind == 3) = false := by simpa using h3
  have g4 : (l.kind == 4) = false := by simpa using h4
  unfold Lp.agg at HS ⊢
  generalize l.saidT = tx at *
  clear hi hs he h2 h3 h4
  go_enter Tryz.func45, Tryz.ntmps45
  go_wp2_with (go_at_call 43; refine (HS.out _).mono ?_; rintro e w1 ⟨rfl, hb1⟩)
  go_ret
  exact ⟨rfl, (HB.out _).trans (hb1.mono (HB.out _).size)⟩
set_option maxHeartbeats 8000000 in
set_option maxRecDepth 100000 in
theorem litText_not (l : Lp) (w : World) (hi : l.In w w.heap.size) (hs : l.Short) (he : Env w) (h2 : l.kind = 2) :
    Calls Tryz.prog 45 #[l.agg] w fun e w' => e = .returned (.string (wdNotB ++ l.saidT)) ∧ Below w.heap.size w w' := by
  have HB := Lib.hid (below1 w)
  have HS := Lib.hid (show ∀ o, Calls Tryz.prog 43 #[l.agg] (w.alloc o) fun e w' => e = .returned (.string l.saidT) ∧ Below (w.alloc o).heap.size (w.alloc o) w' from fun o => saidText_any l _ (hi.grow (below1 w o)) hs (he.on (below1 w o)))
  have hsz := saidT_size l hs
  have hpz := hi.pred
  unfold Lp.agg at HS ⊢
  rw [h2] at HS ⊢
  generalize l.saidT = tx at *
  clear hi hs he h2
  go_enter Tryz.func45, Tryz.ntmps45
  go_wp2_with (go_at_call 43; refine (HS.out _).mono ?_; rintro e w1 ⟨rfl, hb1⟩)
  go_ret
  exact ⟨rfl, (HB.out _).trans (hb1.mono (HB.out _).size)⟩

set_option maxHeartbeats 8000000 in
set_option maxRecDepth 100000 in
theorem litText_less (l : Lp) (w : World) (a b : Tm) (hi : l.In w w.heap.size) (hs : l.Short) (he : Env w) (h2 : l.kind = 3) (ha : l.args = [a, b]) :
    Calls Tryz.prog 45 #[l.agg] w fun e w' => e = .returned (.string ((a.txt ++ wdLessB) ++ b.txt)) ∧ Below w.heap.size w w' := by
  have HB := Lib.hid (below1 w)
  obtain ⟨kd, wh, p, q, c, xs⟩ := l
  obtain rfl : kd = 3 := h2
  obtain rfl : xs = [a, b] := ha
  obtain ⟨bb, o, rfl, hbb, x0, x1, x2⟩ := rdM_at hi.args 0 (by simp)
  obtain ⟨b2, o2, hq2, _, x3, x4, x5⟩ := rdM_at hi.args 1 (by simp)
  cases hq2
  have HT := Lib.hid (show ∀ (O : Obj) (t : Tm), t ∈ [a, b] → ∀ X, Below (w.alloc O).heap.size (w.alloc O) X → Calls Tryz.prog 72 #[.agg #[.string t.v, .string t.s, .int .i64 t.n]] X fun e w' => e = .returned (.string t.txt) ∧ Below (w.alloc O).heap.size (w.alloc O) w' from fun O t ht X hX => (termText_any t X (hi.sz t ht) (hs.nb.args t ht) ((he.on (below1 w O)).on hX)).mono fun e w' ⟨h1, h2⟩ => ⟨h1, hX.trans (h2.mono hX.size)⟩)
  have hza := hs.args a (by simp)
  have hzb := hs.args b (by simp)
  have HK := Lib.hid (show ∀ O X, Below (w.alloc O).heap.size (w.alloc O) X → Below w.heap.size w X from fun O X h => (below1 w O).trans (h.mono (below1 w O).size))
  have HC := Lib.hid (show ∀ X, Below w.heap.size w X → X.cell? ⟨bb, o, none⟩ = some (.string a.v) ∧ X.cell? ⟨bb, o + 1, none⟩ = some (.string a.s) ∧ X.cell? ⟨bb, o + 2, none⟩ = some (.int .i64 a.n) ∧ X.cell? ⟨bb, o + 3, none⟩ = some (.string b.v) ∧ X.cell? ⟨bb, o + 3 + 1, none⟩ = some (.string b.s) ∧ X.cell? ⟨bb, o + 3 + 2, none⟩ = some (.int .i64 b.n) from
    fun X hX => by
      simp only [Nat.zero_mul, Nat.add_zero, Nat.one_mul, List.getElem_cons_zero, List.getElem_cons_succ] at x0 x1 x2 x3 x4 x5
      exact ⟨(hX.cell (p := ⟨bb, o, none⟩) hbb).trans x0, (hX.cell (p := ⟨bb, o + 1, none⟩) hbb).trans x1, (hX.cell (p := ⟨bb, o + 2, none⟩) hbb).trans x2, (hX.cell (p := ⟨bb, o + 3, none⟩) hbb).trans x3, (hX.cell (p := ⟨bb, o + 3 + 1, none⟩) hbb).trans x4, (hX.cell (p := ⟨bb, o + 3 + 2, none⟩) hbb).trans x5⟩)
  obtain ⟨va, sa, na⟩ := a
  obtain ⟨vb, sb, nb⟩ := b
  have HTU := Lib.hid (show ∀ v s n, (⟨v, s, n⟩ : Tm) ∈ [(⟨va, sa, na⟩ : Tm), ⟨vb, sb, nb⟩] → ∀ X, Below (w.alloc (.cells #[.int .u8 3, .string wh.v, .string wh.s, .int .i64 wh.n, .string p, .slice (some ⟨bb, o, none⟩) 2 c] 28)).heap.size (w.alloc (.cells #[.int .u8 3, .string wh.v, .string wh.s, .int .i64 wh.n, .string p, .slice (some ⟨bb, o, none⟩) 2 c] 28)) X → Calls Tryz.prog 72 #[.agg #[.string v, .string s, .int .i64 n]] X fun e w' => e = .returned (.string (Tm.txt ⟨v, s, n⟩)) ∧ Below (w.alloc (.cells #[.int .u8 3, .string wh.v, .string wh.s, .int .i64 wh.n, .string p, .slice (some ⟨bb, o, none⟩) 2 c] 28)).heap.size (w.alloc (.cells #[.int .u8 3, .string wh.v, .string wh.s, .int .i64 wh.n, .string p, .slice (some ⟨bb, o, none⟩) 2 c] 28)) w' from fun v s n h => HT.out (.cells #[.int .u8 3, .string wh.v, .string wh.s, .int .i64 wh.n, .string p, .slice (some ⟨bb, o, none⟩) 2 c] 28) ⟨v, s, n⟩ h)
  have hk1 : ¬ 9223372036854775807 < (Tm.txt ⟨va, sa, na⟩).size + 3 := by omega
  have hk2 : ¬ 9223372036854775807 < (Tm.txt ⟨va, sa, na⟩).size + 3 + (Tm.txt ⟨vb, sb, nb⟩).size := by omega
  unfold Lp.agg
  simp only [List.length_cons, List.length_nil] at HC ⊢
  clear hi hs he HT x0 x1 x2 x3 x4 x5
  go_enter Tryz.func45, Tryz.ntmps45
  go_wp2_with fail
  have HSS := Lib.hid (show ∀ X, Below (w.alloc (.cells #[.int .u8 3, .string wh.v, .string wh.s, .int .i64 wh.n, .string p, .slice (some ⟨bb, o, none⟩) 2 c] 28)).heap.size (w.alloc (.cells #[.int .u8 3, .string wh.v, .string wh.s, .int .i64 wh.n, .string p, .slice (some ⟨bb, o, none⟩) 2 c] 28)) X → X.cell? ⟨w.heap.size, 5, none⟩ = some (.slice (some ⟨bb, o, none⟩) 2 c) ∧ X.cell? ⟨bb, o, none⟩ = some (.string va) ∧ X.cell? ⟨bb, o + 1, none⟩ = some (.string sa) ∧ X.cell? ⟨bb, o + 2, none⟩ = some (.int .i64 na) ∧ X.cell? ⟨bb, o + 3, none⟩ = some (.string vb) ∧ X.cell? ⟨bb, o + 3 + 1, none⟩ = some (.string sb) ∧ X.cell? ⟨bb, o + 3 + 2, none⟩ = some (.int .i64 nb) ∧ Hid (Below (w.alloc (.cells #[.int .u8 3, .string wh.v, .string wh.s, .int .i64 wh.n, .string p, .slice (some ⟨bb, o, none⟩) 2 c] 28)).heap.size (w.alloc (.cells #[.int .u8 3, .string wh.v, .string wh.s, .int .i64 wh.n, .string p, .slice (some ⟨bb, o, none⟩) 2 c] 28)) X) from
    fun X hX => by
      obtain ⟨c0, c1, c2, c3, c4, c5⟩ := HC.out X (HK.out _ X hX)
      exact ⟨box_cell hX 5 _ rfl, c0, c1, c2, c3, c4, c5, Lib.hid hX⟩)
  have HDB := Lib.hid (show Below (w.alloc (.cells #[.int .u8 3, .string wh.v, .string wh.s, .int .i64 wh.n, .string p, .slice (some ⟨bb, o, none⟩) 2 c] 28)).heap.size (w.alloc (.cells #[.int .u8 3, .string wh.v, .string wh.s, .int .i64 wh.n, .string p, .slice (some ⟨bb, o, none⟩) 2 c] 28)) (w.alloc (.cells #[.int .u8 3, .string wh.v, .string wh.s, .int .i64 wh.n, .string p, .slice (some ⟨bb, o, none⟩) 2 c] 28)).drew from (Below.refl _ _).drew)
  have hI := Lib.hid (show Below (w.alloc (.cells #[.int .u8 3, .string wh.v, .string wh.s, .int .i64 wh.n, .string p, .slice (some ⟨bb, o, none⟩) 2 c] 28)).heap.size (w.alloc (.cells #[.int .u8 3, .string wh.v, .string wh.s, .int .i64 wh.n, .string p, .slice (some ⟨bb, o, none⟩) 2 c] 28)) (w.alloc (.cells #[.int .u8 3, .string wh.v, .string wh.s, .int .i64 wh.n, .string p, .slice (some ⟨bb, o, none⟩) 2 c] 28)) from Below.refl _ _)
  have HDR := Lib.hid (HSS.out _ HDB.out)
  obtain ⟨y0, y1, y2, y3, y4, y5, y6, _⟩ := HSS.out _ hI.out
  go_region_held3 (fun X => X.cell? ⟨w.heap.size, 5, none⟩ = some (.slice (some ⟨bb, o, none⟩) 2 c) ∧ X.cell? ⟨bb, o, none⟩ = some (.string va) ∧ X.cell? ⟨bb, o + 1, none⟩ = some (.string sa) ∧ X.cell? ⟨bb, o + 2, none⟩ = some (.int .i64 na) ∧ X.cell? ⟨bb, o + 3, none⟩ = some (.string vb) ∧ X.cell? ⟨bb, o + 3 + 1, none⟩ = some (.string sb) ∧ X.cell? ⟨bb, o + 3 + 2, none⟩ = some (.int .i64 nb) ∧ Hid (Below (w.alloc (.cells #[.int .u8 3, .string wh.v, .string wh.s, .int .i64 wh.n, .string p, .slice (some ⟨bb, o, none⟩) 2 c] 28)).heap.size (w.alloc (.cells #[.int .u8 3, .string wh.v, .string wh.s, .int .i64 wh.n, .string p, .slice (some ⟨bb, o, none⟩) 2 c] 28)) X))
    (first
      | (exact HSS.out _ (Hid.out hI))
      | (exact HDR.out)
      | go_keep)
    (first
      | (go_at_call 72; refine (HTU.out _ _ _ (by simp) _ (by first | exact Hid.out hI | exact HDB.out)).mono ?_; rintro e wn ⟨rfl, hI'⟩; have hI := Lib.hid hI'; clear hI'))
  all_goals
    go_wp2_with fail
    go_ret
    exact ⟨rfl, HK.out _ _ (Hid.out hI)⟩
set_option maxHeartbeats 8000000 in
set_option maxRecDepth 100000 in
theorem litText_unlike (l : Lp) (w : World) (a b : Tm) (hi : l.In w w.heap.size) (hs : l.Short) (he : Env w) (h2 : l.kind = 4) (ha : l.args = [a, b]) :
    Calls Tryz.prog 45 #[l.agg] w fun e w' => e = .returned (.string ((a.txt ++ wdUnlikeB) ++ b.txt)) ∧ Below w.heap.size w w' := by
  have HB := Lib.hid (below1 w)
  obtain ⟨kd, wh, p, q, c, xs⟩ := l
  obtain rfl : kd = 4 := h2
  obtain rfl : xs = [a, b] := ha
  obtain ⟨bb, o, rfl, hbb, x0, x1, x2⟩ := rdM_at hi.args 0 (by simp)
  obtain ⟨b2, o2, hq2, _, x3, x4, x5⟩ := rdM_at hi.args 1 (by simp)
  cases hq2
  have HT := Lib.hid (show ∀ (O : Obj) (t : Tm), t ∈ [a, b] → ∀ X, Below (w.alloc O).heap.size (w.alloc O) X → Calls Tryz.prog 72 #[.agg #[.string t.v, .string t.s, .int .i64 t.n]] X fun e w' => e = .returned (.string t.txt) ∧ Below (w.alloc O).heap.size (w.alloc O) w' from fun O t ht X hX => (termText_any t X (hi.sz t ht) (hs.nb.args t ht) ((he.on (below1 w O)).on hX)).mono fun e w' ⟨h1, h2⟩ => ⟨h1, hX.trans (h2.mono hX.size)⟩)
  have hza := hs.args a (by simp)
  have hzb := hs.args b (by simp)
  have HK := Lib.hid (show ∀ O X, Below (w.alloc O).heap.size (w.alloc O) X → Below w.heap.size w X from fun O X h => (below1 w O).trans (h.mono (below1 w O).size))
  have HC := Lib.hid (show ∀ X, Below w.heap.size w X → X.cell? ⟨bb, o, none⟩ = some (.string a.v) ∧ X.cell? ⟨bb, o + 1, none⟩ = some (.string a.s) ∧ X.cell? ⟨bb, o + 2, none⟩ = some (.int .i64 a.n) ∧ X.cell? ⟨bb, o + 3, none⟩ = some (.string b.v) ∧ X.cell? ⟨bb, o + 3 + 1, none⟩ = some (.string b.s) ∧ X.cell? ⟨bb, o + 3 + 2, none⟩ = some (.int .i64 b.n) from
    fun X hX => by
      simp only [Nat.zero_mul, Nat.add_zero, Nat.one_mul, List.getElem_cons_zero, List.getElem_cons_succ] at x0 x1 x2 x3 x4 x5
      exact ⟨(hX.cell (p := ⟨bb, o, none⟩) hbb).trans x0, (hX.cell (p := ⟨bb, o + 1, none⟩) hbb).trans x1, (hX.cell (p := ⟨bb, o + 2, none⟩) hbb).trans x2, (hX.cell (p := ⟨bb, o + 3, none⟩) hbb).trans x3, (hX.cell (p := ⟨bb, o + 3 + 1, none⟩) hbb).trans x4, (hX.cell (p := ⟨bb, o + 3 + 2, none⟩) hbb).trans x5⟩)
  obtain ⟨va, sa, na⟩ := a
  obtain ⟨vb, sb, nb⟩ := b
  have HTU := Lib.hid (show ∀ v s n, (⟨v, s, n⟩ : Tm) ∈ [(⟨va, sa, na⟩ : Tm), ⟨vb, sb, nb⟩] → ∀ X, Below (w.alloc (.cells #[.int .u8 4, .string wh.v, .string wh.s, .int .i64 wh.n, .string p, .slice (some ⟨bb, o, none⟩) 2 c] 28)).heap.size (w.alloc (.cells #[.int .u8 4, .string wh.v, .string wh.s, .int .i64 wh.n, .string p, .slice (some ⟨bb, o, none⟩) 2 c] 28)) X → Calls Tryz.prog 72 #[.agg #[.string v, .string s, .int .i64 n]] X fun e w' => e = .returned (.string (Tm.txt ⟨v, s, n⟩)) ∧ Below (w.alloc (.cells #[.int .u8 4, .string wh.v, .string wh.s, .int .i64 wh.n, .string p, .slice (some ⟨bb, o, none⟩) 2 c] 28)).heap.size (w.alloc (.cells #[.int .u8 4, .string wh.v, .string wh.s, .int .i64 wh.n, .string p, .slice (some ⟨bb, o, none⟩) 2 c] 28)) w' from fun v s n h => HT.out (.cells #[.int .u8 4, .string wh.v, .string wh.s, .int .i64 wh.n, .string p, .slice (some ⟨bb, o, none⟩) 2 c] 28) ⟨v, s, n⟩ h)
  have hk1 : ¬ 9223372036854775807 < (Tm.txt ⟨va, sa, na⟩).size + 4 := by omega
  have hk2 : ¬ 9223372036854775807 < (Tm.txt ⟨va, sa, na⟩).size + 4 + (Tm.txt ⟨vb, sb, nb⟩).size := by omega
  unfold Lp.agg
  simp only [List.length_cons, List.length_nil] at HC ⊢
  clear hi hs he HT x0 x1 x2 x3 x4 x5
  go_enter Tryz.func45, Tryz.ntmps45
  go_wp2_with fail
  have HSS := Lib.hid (show ∀ X, Below (w.alloc (.cells #[.int .u8 4, .string wh.v, .string wh.s, .int .i64 wh.n, .string p, .slice (some ⟨bb, o, none⟩) 2 c] 28)).heap.size (w.alloc (.cells #[.int .u8 4, .string wh.v, .string wh.s, .int .i64 wh.n, .string p, .slice (some ⟨bb, o, none⟩) 2 c] 28)) X → X.cell? ⟨w.heap.size, 5, none⟩ = some (.slice (some ⟨bb, o, none⟩) 2 c) ∧ X.cell? ⟨bb, o, none⟩ = some (.string va) ∧ X.cell? ⟨bb, o + 1, none⟩ = some (.string sa) ∧ X.cell? ⟨bb, o + 2, none⟩ = some (.int .i64 na) ∧ X.cell? ⟨bb, o + 3, none⟩ = some (.string vb) ∧ X.cell? ⟨bb, o + 3 + 1, none⟩ = some (.string sb) ∧ X.cell? ⟨bb, o + 3 + 2, none⟩ = some (.int .i64 nb) ∧ Hid (Below (w.alloc (.cells #[.int .u8 4, .string wh.v, .string wh.s, .int .i64 wh.n, .string p, .slice (some ⟨bb, o, none⟩) 2 c] 28)).heap.size (w.alloc (.cells #[.int .u8 4, .string wh.v, .string wh.s, .int .i64 wh.n, .string p, .slice (some ⟨bb, o, none⟩) 2 c] 28)) X) from
    fun X hX => by
      obtain ⟨c0, c1, c2, c3, c4, c5⟩ := HC.out X (HK.out _ X hX)
      exact ⟨box_cell hX 5 _ rfl, c0, c1, c2, c3, c4, c5, Lib.hid hX⟩)
  have HDB := Lib.hid (show Below (w.alloc (.cells #[.int .u8 4, .string wh.v, .string wh.s, .int .i64 wh.n, .string p, .slice (some ⟨bb, o, none⟩) 2 c] 28)).heap.size (w.alloc (.cells #[.int .u8 4, .string wh.v, .string wh.s, .int .i64 wh.n, .string p, .slice (some ⟨bb, o, none⟩) 2 c] 28)) (w.alloc (.cells #[.int .u8 4, .string wh.v, .string wh.s, .int .i64 wh.n, .string p, .slice (some ⟨bb, o, none⟩) 2 c] 28)).drew from (Below.refl _ _).drew)
  have hI := Lib.hid (show Below (w.alloc (.cells #[.int .u8 4, .string wh.v, .string wh.s, .int .i64 wh.n, .string p, .slice (some ⟨bb, o, none⟩) 2 c] 28)).heap.size (w.alloc (.cells #[.int .u8 4, .string wh.v, .string wh.s, .int .i64 wh.n, .string p, .slice (some ⟨bb, o, none⟩) 2 c] 28)) (w.alloc (.cells #[.int .u8 4, .string wh.v, .string wh.s, .int .i64 wh.n, .string p, .slice (some ⟨bb, o, none⟩) 2 c] 28)) from Below.refl _ _)
  have HDR := Lib.hid (HSS.out _ HDB.out)
  obtain ⟨y0, y1, y2, y3, y4, y5, y6, _⟩ := HSS.out _ hI.out
  go_region_held3 (fun X => X.cell? ⟨w.heap.size, 5, none⟩ = some (.slice (some ⟨bb, o, none⟩) 2 c) ∧ X.cell? ⟨bb, o, none⟩ = some (.string va) ∧ X.cell? ⟨bb, o + 1, none⟩ = some (.string sa) ∧ X.cell? ⟨bb, o + 2, none⟩ = some (.int .i64 na) ∧ X.cell? ⟨bb, o + 3, none⟩ = some (.string vb) ∧ X.cell? ⟨bb, o + 3 + 1, none⟩ = some (.string sb) ∧ X.cell? ⟨bb, o + 3 + 2, none⟩ = some (.int .i64 nb) ∧ Hid (Below (w.alloc (.cells #[.int .u8 4, .string wh.v, .string wh.s, .int .i64 wh.n, .string p, .slice (some ⟨bb, o, none⟩) 2 c] 28)).heap.size (w.alloc (.cells #[.int .u8 4, .string wh.v, .string wh.s, .int .i64 wh.n, .string p, .slice (some ⟨bb, o, none⟩) 2 c] 28)) X))
    (first
      | (exact HSS.out _ (Hid.out hI))
      | (exact HDR.out)
      | go_keep)
    (first
      | (go_at_call 72; refine (HTU.out _ _ _ (by simp) _ (by first | exact Hid.out hI | exact HDB.out)).mono ?_; rintro e wn ⟨rfl, hI'⟩; have hI := Lib.hid hI'; clear hI'))
  all_goals
    go_wp2_with fail
    go_ret
    exact ⟨rfl, HK.out _ _ (Hid.out hI)⟩
theorem two_of {l : List Tm} (h : l.length = 2) : ∃ a b, l = [a, b] := by
  match l, h with
  | [a, b], _ => exact ⟨a, b, rfl⟩
theorem comp_two {l : Lp} (h : l.lit = true) (hk : l.kind = 3 ∨ l.kind = 4) : l.args.length = 2 := by
  unfold Lp.lit at h
  have e1 : (l.kind == 1 || l.kind == 2) = false := by rcases hk with h | h <;> simp [h]
  have e2 : (l.kind == 3 || l.kind == 4) = true := by rcases hk with h | h <;> simp [h]
  rw [if_neg (by rw [e1]; decide), if_pos e2] at h
  unfold Lp.comp at h
  simp only [Bool.and_eq_true, decide_eq_true_eq] at h
  exact h.2.2.1
theorem litText_any (l : Lp) (w : World) (hi : l.In w w.heap.size) (hs : l.Short) (hl : l.lit = true) (he : Env w) :
    Calls Tryz.prog 45 #[l.agg] w fun e w' => e = .returned (.string l.litT) ∧ Below w.heap.size w w' := by
  unfold Lp.litT
  by_cases h2 : l.kind = 2
  · rw [if_pos h2]; exact litText_not l w hi hs he h2
  · rw [if_neg h2]
    by_cases h3 : l.kind = 3
    · rw [if_pos h3]
      obtain ⟨a, b, hab⟩ := two_of (comp_two hl (.inl h3))
      rw [hab]
      exact litText_less l w a b hi hs he h3 hab
    · rw [if_neg h3]
      by_cases h4 : l.kind = 4
      · rw [if_pos h4]
        obtain ⟨a, b, hab⟩ := two_of (comp_two hl (.inr h4))
        rw [hab]
        exact litText_unlike l w a b hi hs he h4 hab
      · rw [if_neg h4]; exact litText_said l w hi hs he h2 h3 h4
end Go.Proofs.YtnjdganikeganaaGreatDoor
