/-
  Contract: plan.variables.
-/
import Derived.Test.YtbkdpdklpmcdgaaTrm
set_option linter.unusedVariables false
set_option linter.unusedSimpArgs false
namespace Go.Proofs.Ytbkdpdklpmcdgaa
open Go.Maps Go.ChangeMaps Go.WideMaps Go.RowKit

def putT (xs : List ByteArray) (t : Tm) : List ByteArray := if t.v.size = 0 then xs else addS xs t.v
def litN (xs : List ByteArray) (f : Fl) : List ByteArray := f.args.foldl putT xs
/-- the variables of flat literals, each once, as they stand -/
def varsN (fs : List Fl) : List ByteArray := fs.foldl litN []
def cntN (fs : List Fl) : Nat := (fs.map (·.args.length)).sum
theorem putT_len (xs : List ByteArray) (t : Tm) : (putT xs t).length ≤ xs.length + 1 := by
  unfold putT addS
  split
  · omega
  · split
    · omega
    · simp
theorem putT_size {xs : List ByteArray} (hx : ∀ v ∈ xs, v.size ≤ maxLen) {t : Tm} (ht : t.v.size ≤ maxLen) : ∀ v ∈ putT xs t, v.size ≤ maxLen := by
  unfold putT
  split
  · exact hx
  · exact addS_size hx ht
theorem fold_take {α β : Type} (g : β → α → β) (b : β) (l : List α) (j : Nat) (h : j < l.length) : (l.take (j + 1)).foldl g b = g ((l.take j).foldl g b) l[j] := by
  rw [List.take_succ_eq_append_getElem h, List.foldl_append]; rfl
theorem cnt_take (fs : List Fl) (i : Nat) (h : i < fs.length) : cntN (fs.take (i + 1)) = cntN (fs.take i) + fs[i].args.length := by
  unfold cntN
  rw [List.take_succ_eq_append_getElem h, List.map_append, List.sum_append]; simp
theorem cnt_le (fs : List Fl) (i : Nat) (h : i < fs.length) : cntN (fs.take i) + fs[i].args.length ≤ cntN fs := by
  rw [← cnt_take fs i h]
  have : cntN fs = cntN (fs.take (i + 1)) + cntN (fs.drop (i + 1)) := by
    unfold cntN
    rw [← List.sum_append, ← List.map_append, List.take_append_drop]
  omega
def Bk0 (w : World) (b : Nat) (T : TypeId) (cs : Array Value) : Prop := w.heap[b]? = some (.cells cs T (0, 0))
theorem Bk0.new (w : World) (T : TypeId) (cs : Array Value) : Bk0 (w.alloc (.cells cs T)) w.heap.size T cs := heap_alloc_new w _
theorem Bk0.cell0 {w : World} {b : Nat} {T : TypeId} {v : Value} {r : List Value} (h : Bk0 w b T (v :: r).toArray) : w.cell? ⟨b, 0, none⟩ = some v := by
  simp [World.cell?, show w.heap[b]? = _ from h]
/-- what variables() has seen and told, in a world that came of w; the map's block is mb -/
structure VN (w : World) (mb : Nat) (xs : List ByteArray) (v : Value) (wn : World) : Prop where
  b : Below w.heap.size w wn
  m : MapS wn mb unit xs
  row : wn.ownsRow (mb + 1) 9 1 v xs.length (flatE encS xs)
  size : ∀ x ∈ xs, x.size ≤ maxLen
theorem VN.on {w wn w' : World} {mb : Nat} {xs : List ByteArray} {v : Value} (h : VN w mb xs v wn) (hb : Below wn.heap.size wn w') : VN w mb xs v w' :=
  ⟨h.b.trans (hb.mono h.b.size), h.m.on hb, own_below h.row hb, h.size⟩
theorem VN.far {w wn : World} {mb : Nat} {xs : List ByteArray} {v : Value} (h : VN w mb xs v wn) : v.ownBlock ≠ some mb := fun e => by
  have := (h.row.lt mb e).1
  omega
theorem VN.put {w wn w3 : World} {mb : Nat} {xs : List ByteArray} {v : Value} (h : VN w mb xs v wn) (hmb : w.heap.size ≤ mb) (hg : wn.grownBy w3 (some mb)) :
    Below w.heap.size w w3 ∧ w3.ownsRow (mb + 1) 9 1 v xs.length (flatE encS xs) :=
  ⟨h.b.grown hg h.b.size (fun k hk => by cases hk; exact hmb), h.row.kept hg (.inr h.far)⟩
theorem VN.push {w wn w3 w4 : World} {mb : Nat} {xs : List ByteArray} {v u : Value} {x : ByteArray} {o : Obj} (h : VN w mb xs v wn) (hmb : w.heap.size ≤ mb) (hm : MapS w3 mb unit (xs ++ [x])) (hg : wn.grownBy w3 (some mb)) (hx : x.size ≤ maxLen)
    (hown : w4.ownsRow (mb + 1) 9 1 u (xs.length + 1) (flatE encS xs ++ [.string x])) (hgrow : (w3.alloc o).grownBy w4 v.ownBlock) : VN w mb (xs ++ [x]) u w4 := by
  obtain ⟨h1, h2⟩ := h.put hmb hg
  have h3 := h1.trans ((below1 w3 o).mono h1.size)
  refine ⟨h3.grown hgrow h3.size (fun k hk => ?_), (hm.on (below1 w3 o)).far hgrow h.far, ?_, fun y hy => ?_⟩
  · have := (h.row.lt k hk).1
    omega
  · rw [List.length_append, flatE_snoc]
    exact hown
  · rcases List.mem_append.1 hy with hy | hy
    · exact h.size y hy
    · rw [List.mem_singleton.1 hy]; exact hx

set_option maxHeartbeats 8000000 in
set_option maxRecDepth 100000 in
theorem variables_any (q : Option Addr) (fs : List Fl) (c : Nat) (w : World) (hr : Rd encF 3 w w.heap.size q fs) (ha : ∀ f ∈ fs, Tms w w.heap.size f.ptr f.args) (hz : ∀ f ∈ fs, ∀ t ∈ f.args, t.v.size ≤ maxLen)
    (hm : fs.length ≤ 9223372036854775807) (hl : ∀ f ∈ fs, f.args.length ≤ 9223372036854775807) (hc : cntN fs * 16 ≤ 140737488355328) :
    Calls Try.prog 24 #[.slice q fs.length c] w fun e w' => ∃ q' c', e = .returned (.slice q' (varsN fs).length c') ∧ Rd encS 1 w' w'.heap.size q' (varsN fs) ∧ Below w.heap.size w w' := by
  obtain ⟨i0, hii, hz0, hz1, hzb⟩ := info_parts infoStr
  have HR := Lib.hid hr
  have HA := Lib.hid ha
  have HZ := Lib.hid hz
  have HL := Lib.hid hl
  clear hr ha hz hl
  have hmm := @run_makeMap Try.prog
  go_enter Try.func24, Try.ntmps24
  go_wp2_with fail
  have HV0 := Lib.hid (show VN w w.heap.size [] (.slice none 0 0) (w.alloc (.map #[] 0)) from ⟨(Below.refl _ _).alloc (Nat.le_refl _) _, ⟨0, (MapKept.heap_alloc w _).1⟩, World.ownsRow_nil _ _ _ _, fun x hx => by cases hx⟩)
  go_loopw [3, 14] (fun v i wr => ∃ j : Nat, j ≤ fs.length ∧ i = .int .i64 j ∧ ((fs.take j).foldl litN []).length ≤ cntN (fs.take j) ∧ Hid (VN w w.heap.size ((fs.take j).foldl litN []) v wr)) (fun _ i _ => fs.length - (intOf i).toNat)
  case atStart => exact ⟨0, Nat.zero_le _, rfl, Nat.zero_le _, HV0⟩
  case round =>
    obtain ⟨j, hj, rfl, hcnt, HV⟩ := hrel
    by_cases hlt : j < fs.length
    · obtain ⟨b, o, rfl, hbb, x0, x1, x2⟩ := rdF_at (HR.out.below (Hid.out HV).b (Nat.le_refl _)) j hlt
      have hb' : b < wr.heap.size := Nat.lt_of_lt_of_le hbb (Hid.out HV).b.size
      have HT := Lib.hid (HA.out _ (List.getElem_mem hlt))
      have HZT := Lib.hid (HZ.out _ (List.getElem_mem hlt))
      have hlen := HL.out _ (List.getElem_mem hlt)
      have hcl := cnt_le fs j hlt
      have HX := Lib.hid (show (fs.take (j + 1)).foldl litN [] = litN ((fs.take j).foldl litN []) fs[j] from fold_take litN [] fs j hlt)
      have HC := Lib.hid (cnt_take fs j hlt)
      generalize (fs.take j).foldl litN [] = X at *
      generalize fs[j] = f at *
      obtain ⟨kd, pr, fp, fc, args⟩ := f
      simp only at HT HZT hlen hcl HX HC x0 x1 x2
      go_wp2_with fail
      have HV1 := Lib.hid ((Hid.out HV).on (below1 wr (.cells #[.int .u8 kd, .string pr, .slice fp args.length fc] 24)))
      go_loopw [3, 21] (fun v i wx => ∃ k : Nat, k ≤ args.length ∧ i = .int .i64 k ∧ ((args.take k).foldl putT X).length ≤ cntN (fs.take j) + k ∧ Hid (VN w w.heap.size ((args.take k).foldl putT X) v wx)) (fun _ i _ => args.length - (intOf i).toNat)
      case atStart => exact ⟨0, Nat.zero_le _, rfl, by simpa using hcnt, by simpa using HV1⟩
      case round =>
        obtain ⟨k, hk, rfl, hcnt2, HW⟩ := hrel
        by_cases hkl : k < args.length
        · obtain ⟨b2, o2, rfl, hbb2, y0, y1, y2⟩ := rdM_at (HT.out.below (Hid.out HW).b (Nat.le_refl _)) k hkl
          have hb2' : b2 < wr.heap.size := Nat.lt_of_lt_of_le hbb2 (Hid.out HW).b.size
          have hsz := HZT.out _ (List.getElem_mem hkl)
          have HXk := Lib.hid (show (args.take (k + 1)).foldl putT X = putT ((args.take k).foldl putT X) args[k] from fold_take putT X args k hkl)
          have HW1 := Lib.hid ((Hid.out HW).on (below1 wr (.cells #[.string args[k].v, .string args[k].s, .int .i64 args[k].n] 52)))
          generalize (args.take k).foldl putT X = Y at *
          generalize args[k] = t at *
          obtain ⟨v, s, n⟩ := t
          simp only at hsz HXk HW1 y0 y1 y2
          have hlk := lookS keyedS skey (u := unit) Try.underlying54 (zeroU _) (Hid.out HW1).m (Hid.out HW1).size v hsz
          unfold unit at hlk
          by_cases hv : v.size = 0
          · have HP := Lib.hid (show putT Y ⟨v, s, n⟩ = Y from if_pos hv)
            obtain rfl : v = ⟨#[]⟩ := by
              obtain ⟨⟨l⟩⟩ := v
              cases l with
              | nil => rfl
              | cons a r => cases hv
            go_wp2_with fail
            go_roundw
            case rel => exact ⟨k + 1, by omega, by go_num, by rw [HXk.out, HP.out]; omega, by rw [HXk.out, HP.out]; exact Lib.hid ((Hid.out HW1).on (below1 _ _))⟩
            case measure => simp [intOf]; omega
          · have hvn : ¬ v.toList = [] := fun e => by
              rw [ByteArray.toList_eq] at e
              exact hv (by have := congrArg List.length e; simpa using this)
            have hvn2 : v.toList.isEmpty = false := by
              cases hl : v.toList with
              | nil => exact absurd hl hvn
              | cons a r => rfl
            cases hh : hasS Y v with
            | true =>
              have HP := Lib.hid (show putT Y ⟨v, s, n⟩ = Y from by unfold putT addS; rw [if_neg hv, if_pos hh])
              rw [hh] at hlk
              go_wp2_with fail
              go_roundw
              case rel => exact ⟨k + 1, by omega, by go_num, by rw [HXk.out, HP.out]; omega, by rw [HXk.out, HP.out]; exact Lib.hid ((Hid.out HW1).on (below1 _ _))⟩
              case measure => simp [intOf]; omega
            | false =>
              rw [hh] at hlk
              have HP := Lib.hid (show putT Y ⟨v, s, n⟩ = Y ++ [v] from by unfold putT addS; rw [if_neg hv, if_neg (by rw [hh]; decide)])
              have HW2 := Lib.hid ((Hid.out HW1).on (below1 _ (.cells #[] 55)))
              obtain ⟨w3, hrun, hm3, hg3⟩ := putS_out keyedS skey Try.underlying54 (Hid.out HW2).m (Hid.out HW2).size v hsz (hasS_not.1 hh)
              unfold unit at hrun
              obtain ⟨HB3, hrow3⟩ := (Hid.out HW2).put (Nat.le_refl _) hg3
              have HB3 := Lib.hid HB3
              have HROW3 := Lib.hid hrow3
              have z0 := hg3.cell (a := ⟨wr.heap.size, 0, none⟩) (v := .string v) (((below1 _ _).cell (p := ⟨wr.heap.size, 0, none⟩) (by simp)).trans ((Bk0.new wr _ _).cell0)) (fun e => by have e := Option.some.inj e; have := (Hid.out HW).m.lt; simp only at e; omega)
              have HL1 := Lib.hid (show Y.length + 1 ≤ maxLen by unfold maxLen; omega)
              have HL2 := Lib.hid (show (Y.length + 1) * 16 ≤ 140737488355328 by omega)
              have HM3 := Lib.hid hm3
              have HG3 := Lib.hid hg3
              have hb3 : w.heap.size + 1 ≤ w3.heap.size := (Hid.out HM3).lt
              clear hrow3 hm3 hg3
              go_wp2_with (at_builtin; refine wpList_append_lies _ rfl _ _ 38 rfl (w.heap.size + 1) 9 i0 (.string ⟨#[]⟩) 1 16 underSs hii hz0 hz1 hzb rfl (by decide) _ _ _ rfl (own_below HROW3.out (below1 _ _)) ⟨w3.heap.size, 0, none⟩ 1 1 [.string v] rfl rfl (news_alloc _ _ _) (ES.one v) (by decide) HL1.out HL2.out (Nat.le_trans hb3 (below1 w3 _).size) _ rfl ?_; intro g cap w4 hown hgrow hat hlt2; have HN := Lib.hid ((Hid.out HW2).push (Nat.le_refl _) HM3.out HG3.out hsz hown hgrow); clear hown hgrow hat)
              go_roundw
              case rel => exact ⟨k + 1, by omega, by go_num, by rw [HXk.out, HP.out, List.length_append]; simp only [List.length_cons, List.length_nil]; omega, by rw [HXk.out, HP.out]; simpa using HN⟩
              case measure => simp [intOf]; omega
        · have hke : args.take k = args := List.take_of_length_le (by omega)
          rw [hke] at HW hcnt2
          have hcnt3 : (args.foldl putT X).length ≤ cntN (fs.take j) + args.length := by omega
          go_wp2_with fail
          go_roundw
          case rel => exact ⟨j + 1, by omega, by go_num, by rw [HX.out, HC.out]; exact hcnt3, by rw [HX.out]; first | exact HW | (unfold litN; exact HW)⟩
          case measure => simp [intOf]; omega
    · have hje : fs.take j = fs := List.take_of_length_le (by omega)
      rw [hje] at HV
      obtain ⟨q', c', rfl, hrd, _⟩ := grw_form ES (.inr (Hid.out HV).row) (Hid.out HV).m.lt
      have HRD := Lib.hid hrd
      clear hrd
      go_wp2_with fail
      go_ret
      exact ⟨q', c', rfl, HRD.out, (Hid.out HV).b⟩
end Go.Proofs.Ytbkdpdklpmcdgaa
