/-
  Contract: plan.onwards.
-/
import Derived.Test.YtbkdpdklpmcdgaaPon
import Derived.Scope
import Derived.Deep.OwnRows
set_option linter.unusedVariables false
set_option linter.unusedSimpArgs false
namespace Go.Proofs.Ytbkdpdklpmcdgaa
open Go.Maps Go.ChangeMaps Go.WideMaps Go.RowKit

/-- a plan with room for its numbers, or nil and false -/
def PlanC (o : Option (List Int)) (w : World) (e : Ending) (w' : World) : Prop :=
  ∃ q c, e = .returned (.tuple #[.slice q (o.getD []).length c, .bool o.isSome]) ∧ ((o.getD []).length ≤ c ∧ Rd encI 1 w' w'.heap.size q (o.getD [])) ∧ Below w.heap.size w w'
theorem madeB (n : Nat) : madeCells #[Value.bool false] n = namedA [] n := by
  apply Array.ext_getElem?
  intro i
  by_cases hi : i < n
  · rw [namedA_get hi]
    simp [madeCells, hi, Nat.mod_one]
  · rw [Array.getElem?_eq_none (by simp [madeCells]; omega), Array.getElem?_eq_none (by simp [namedA]; omega)]
theorem infoBool : (Try.prog.info? 4).map (fun i => (i.zero, i.size, i.bytes)) = some (some (.bool false), 1, 1) := by kernel_rfl
theorem underBs : Try.prog.underlying 42 = some (.slice 4) := Try.underlying42
def mostI (body : List Fl) (V : List ByteArray) : Option Nat → Int
  | none => -1
  | some m => knD body V m
theorem fullC_at {body : List Fl} {V : List ByteArray} {l : List Int} {k : Nat} (hk : k < body.length) : fullC body V l k = (!decide ((k : Int) ∈ l) && (askB body[k].kind && (knownN V body[k].args == body[k].args.length))) := by
  unfold fullC; rw [List.getElem?_eq_getElem hk]
theorem findC_at {body : List Fl} {V : List ByteArray} {l : List Int} {k : Nat} (hk : k < body.length) (h : fullC body V l k = true) (hn : ∀ i, i < k → fullC body V l i = false) : nextC body V l = some k := by
  have : (List.range body.length).find? (fullC body V l) = some k := by
    rw [List.find?_range_eq_some]
    exact ⟨h, List.mem_range.2 hk, fun i hi => by rw [hn i hi]; rfl⟩
  unfold nextC
  rw [this]
theorem findC_no {body : List Fl} {V : List ByteArray} {l : List Int} (hn : ∀ i, i < body.length → fullC body V l i = false) : nextC body V l = bestS body V l body.length := by
  have : (List.range body.length).find? (fullC body V l) = none := by
    rw [List.find?_eq_none]
    intro i hi
    rw [hn i (List.mem_range.1 hi)]; simp
  unfold nextC
  rw [this]
theorem fullC_more {body : List Fl} {V : List ByteArray} {l : List Int} {k : Nat} (h : ∀ t, t < k → fullC body V l t = false) (hk : fullC body V l k = false) : ∀ t, t < k + 1 → fullC body V l t = false := fun t ht => by
  by_cases e : t = k
  · rw [e]; exact hk
  · exact h t (by omega)
theorem goC_none {body : List Fl} {L : List Int} (h : L.length < body.length) (hn : nextC body (varsN (bindN body L)) L = none) : goC body (body.length - L.length) L = none := by
  obtain ⟨n, hn'⟩ : ∃ n, body.length - L.length = n + 1 := ⟨body.length - L.length - 1, by omega⟩
  rw [hn', goC, if_neg (by omega), hn]
theorem goC_some {body : List Fl} {L : List Int} {k : Nat} (h : L.length < body.length) (hn : nextC body (varsN (bindN body L)) L = some k) : goC body (body.length - (L ++ [(k : Int)]).length) (L ++ [(k : Int)]) = goC body (body.length - L.length) L := by
  obtain ⟨n, hn'⟩ : ∃ n, body.length - L.length = n + 1 := ⟨body.length - L.length - 1, by omega⟩
  rw [hn', goC, if_neg (by omega), hn]
  congr 1
  rw [List.length_append, List.length_singleton]
  omega
/-- the state behind one more literal -/
theorem bestI_skip {body : List Fl} {V : List ByteArray} {l : List Int} {k : Nat} (hk : k < body.length) (h : (k : Int) ∈ l ∨ body[k].kind ≠ 1) : optI (bestS body V l (k + 1)) = optI (bestS body V l k) ∧ mostI body V (bestS body V l (k + 1)) = mostI body V (bestS body V l k) := by
  rw [bestS_skip hk h]; exact ⟨rfl, rfl⟩
theorem bestI_step {body : List Fl} {V : List ByteArray} {l : List Int} {k : Nat} (hk : k < body.length) (h1 : ¬ (k : Int) ∈ l) (h2 : body[k].kind = 1) :
    (mostI body V (bestS body V l k) < (knownN V body[k].args : Int) → optI (bestS body V l (k + 1)) = (k : Int) ∧ mostI body V (bestS body V l (k + 1)) = (knownN V body[k].args : Int)) ∧
    (¬ mostI body V (bestS body V l k) < (knownN V body[k].args : Int) → optI (bestS body V l (k + 1)) = optI (bestS body V l k) ∧ mostI body V (bestS body V l (k + 1)) = mostI body V (bestS body V l k)) := by
  cases hb : bestS body V l k with
  | none =>
    rw [bestS_first hk h1 h2 hb]
    refine ⟨fun _ => ⟨rfl, by simp [mostI, knD, List.getElem?_eq_getElem hk]⟩, fun h => absurd (show (-1 : Int) < (knownN V body[k].args : Int) by omega) h⟩
  | some m =>
    have hm := (bestS_lt body V l k m hb).2
    rw [bestS_more hk h1 h2 hm hb]
    have e : mostI body V (some m) = (knownN V body[m].args : Int) := by simp [mostI, knD, List.getElem?_eq_getElem hm]
    rw [e]
    constructor
    · intro h
      rw [if_pos (by omega)]
      exact ⟨rfl, by simp [mostI, knD, List.getElem?_eq_getElem hk]⟩
    · intro h
      rw [if_neg (by omega)]
      exact ⟨rfl, e⟩
theorem bk_at (W : World) (n : Nat) (hn : W.heap.size = n) (T : TypeId) (cs : Array Value) : Bk0 (W.alloc (.cells cs T)) n T cs := hn ▸ Bk0.new W T cs
theorem map_at (W : World) (n : Nat) (hn : W.heap.size = n) : (W.alloc (.map #[] 0)).heap[n]? = some (.map (entsS unit 0 []).toArray (0 + [].length (α := ByteArray))) := by
  subst hn
  exact heap_alloc_new W _
theorem ow_start (w : World) (rq : Option Addr) (rc : Nat) (body : List Fl) : OW w w.heap.size rq rc body [] [] [] (.slice none 0 0) ((((((w.alloc (.cells #[.slice rq body.length rc] 25)).alloc (.cells #[.slice none 0 0] 29)).alloc (.cells (namedA [] body.length) 4)).alloc (.map #[] 0)).alloc (.cells #[.slice (some ⟨w.heap.size + 2, 0, none⟩) body.length body.length] 42)).alloc (.cells #[.map (some (w.heap.size + 3))] 54)) := by
  have b1 := below1 w (.cells #[.slice rq body.length rc] 25)
  refine ⟨?_, ?_, ?_, World.ownsRow_nil _ _ _ _, ?_, ⟨0, ?_⟩, ?_, ?_, (fun x hx => by cases hx), by simp⟩
  · exact (((((b1.alloc (by simp) _).alloc (by simp; omega) _).alloc (by simp; omega) _).alloc (by simp; omega) _).alloc (by simp; omega) _)
  · exact (((((Bk0.new w _ _).on (below1 _ _)).on (below1 _ _)).on (below1 _ _)).on (below1 _ _)).on (below1 _ _)
  · exact ((((bk_at _ _ (by simp) _ _).on (below1 _ _)).on (below1 _ _)).on (below1 _ _)).on (below1 _ _)
  · exact (((bk_at _ _ (by simp) _ _).on (below1 _ _)).on (below1 _ _)).on (below1 _ _)
  · refine ((below1 _ _).block _ (by simp)).trans (((below1 _ _).block _ (by simp)).trans ?_)
    exact map_at _ _ (by simp)
  · exact (bk_at _ _ (by simp) _ _).on (below1 _ _)
  · exact bk_at _ _ (by simp) _ _
set_option maxHeartbeats 16000000 in
set_option maxRecDepth 100000 in
theorem onwards_any (rq : Option Addr) (rc : Nat) (body : List Fl) (q1 : Option Addr) (l : List Int) (c1 : Nat) (w : World) (hrd : Rd encF 3 w w.heap.size rq body) (ht : ∀ f ∈ body, Tms w w.heap.size f.ptr f.args) (hz : ∀ f ∈ body, ∀ t ∈ f.args, t.v.size ≤ maxLen) (hla : ∀ f ∈ body, f.args.length ≤ 1048576) (h30 : body.length ≤ 30)
    (hl : Rd encI 1 w w.heap.size q1 l) (hl1 : l.length ≤ 30) (hin : ∀ k ∈ l, ∃ n : Nat, k = (n : Int) ∧ n < body.length) :
    Calls Try.prog 20 #[.slice rq body.length rc, .slice q1 l.length c1] w fun e w' => PlanC (goC body (body.length - l.length) l) w e w' := by
  have HNM := Lib.hid (fun (L : List Int) (M : List ByteArray) (v : Value) (X : World) (k : Nat) (hO : OW w w.heap.size rq rc body L L M v X) (hk : k < body.length) (h1 : L.length ≤ 1000) => name_any w w.heap.size rq rc body L M v X k rfl hO hk hrd ht hz hla h1 (by omega))
  have HCT := Lib.hid (fun (k : Nat) (hk : k < body.length) (L : List Int) (M : List ByteArray) (v : Value) (X : World) (hO : OW w w.heap.size rq rc body L L M v X) => count_any body[k].ptr body[k].args body[k].cap (w.heap.size + 5) (w.heap.size + 3) M X ((ht _ (List.getElem_mem hk)).grow hO.b) (by have := hla _ (List.getElem_mem hk); omega) (hz _ (List.getElem_mem hk)) (hO.xk.cell 0 _ rfl) hO.xm hO.msz)
  have hbn : body.length ≤ 9223372036854775806 := by omega
  have HRD := Lib.hid hrd
  have HLI := Lib.hid hl
  have HIN := Lib.hid hin
  clear hrd ht hz hla hl hin
  have hmm := @run_makeMap Try.prog
  obtain ⟨iB, hiB, hB0, hB1, hBb⟩ := info_parts infoBool
  have hmk : ∀ W : World, (Instr.makeSlice 42 (.int .i64 (body.length : Int)) (.int .i64 (body.length : Int))).run Try.prog W = .ok (.slice (some ⟨W.heap.size, 0, none⟩) body.length body.length) (W.alloc (.cells (namedA [] body.length) 4)) := fun W => by
    rw [← madeB]
    exact run_make_row 42 4 iB (.bool false) underBs hiB hB0 hB1 rfl .i64 .i64 body.length (by rw [hBb]; omega) (by omega) W
  go_enter Try.func20, Try.ntmps20
  go_wp2_with fail
  refine wp_scope_straight ?_
  go_upto_region 5 with fail
  simp only [Nat.add_assoc, Nat.reduceAdd]
  have HO0 := Lib.hid (ow_start w rq rc body)
  generalize (((((w.alloc (.cells #[.slice rq body.length rc] 25)).alloc (.cells #[.slice none 0 0] 29)).alloc (.cells (namedA [] body.length) 4)).alloc (.map #[] 0)).alloc (.cells #[.slice (some ⟨w.heap.size + 2, 0, none⟩) body.length body.length] 42)).alloc (.cells #[.map (some (w.heap.size + 3))] 54) = W6 at *
  have HL1 := Lib.hid hl1
  go_wp2_with fail
  go_loopw [26] (fun i wr => ∃ t : Nat, t ≤ l.length ∧ i = .int .i64 t ∧ Hid (∃ v, OW w w.heap.size rq rc body (l.take t) (l.take t) (varsN (bindN body (l.take t))) v wr)) (fun i _ => l.length - (intOf i).toNat)
  case atStart => exact ⟨0, Nat.zero_le _, rfl, Lib.hid ⟨_, HO0.out⟩⟩
  case round =>
    obtain ⟨t, htl, rfl, HW⟩ := hrel
    obtain ⟨v, hw⟩ := Hid.out HW
    have HV := Lib.hid hw
    clear hw HW
    by_cases hlt : t < l.length
    · obtain ⟨b, o, rfl, hbb, x0⟩ := rdI_at (HLI.out.below HV.out.b (Nat.le_refl _)) t hlt
      have hj0 : (0 : Int) ≤ (t : Int) := by omega
      have hj1 : (t : Int) < (l.length : Int) := by omega
      obtain ⟨n, hn, hnb⟩ := HIN.out _ (List.getElem_mem hlt)
      rw [hn] at x0
      have HC := Lib.hid (HNM.out _ _ _ wr n HV.out hnb (by rw [List.length_take]; omega))
      have HT := Lib.hid (show l.take t ++ [(n : Int)] = l.take (t + 1) by rw [List.take_succ_eq_append_getElem hlt, hn])
      rw [← bind_snoc hnb, HT.out] at HC
      clear hn
      go_wp2_with (go_at_call 27; refine (HC.out).mono ?_; rintro e w2 ⟨v2, rfl, ho2⟩; have HO2 := Lib.hid ho2; clear ho2)
      go_roundw
      case rel => exact ⟨t + 1, by omega, by go_num, Lib.hid ⟨_, HO2.out⟩⟩
      case measure => simp [intOf]; omega
    · have hte : l.take t = l := List.take_of_length_le (by omega)
      rw [hte] at HV
      go_wp2_with fail
      apply wp_label
      go_wp2_with fail
      go_loopw [13] (fun _ wr => ∃ (L : List Int) (v : Value), Hid (goC body (body.length - L.length) L = goC body (body.length - l.length) l) ∧ L.length ≤ 30 ∧ Hid (OW w w.heap.size rq rc body L L (varsN (bindN body L)) v wr)) (fun _ wr => body.length - lenV ((wr.cell? ⟨w.heap.size + 1, 0, none⟩).getD undef))
      case atStart => exact ⟨l, v, Lib.hid rfl, HL1.out, HV⟩
      case round =>
        clear HV hte hlt
        obtain ⟨L, v, HE, hL30, HW⟩ := hrel
        have x1 := HW.out.xp.cell 0 _ rfl
        have xb := HW.out.xb.cell 0 _ rfl
        obtain ⟨qv, cv, rfl, hrv, _⟩ := grw_form EI (.inr HW.out.row) HW.out.hi
        have HRV := Lib.hid hrv
        clear hrv
        by_cases hlt : L.length < body.length
        · have hj1 : (L.length : Int) < (body.length : Int) := by omega
          have HVV := Lib.hid (show ∀ n, nextC body (varsN (bindN body L)) L = some n → goC body (body.length - (L ++ [(n : Int)]).length) (L ++ [(n : Int)]) = goC body (body.length - l.length) l from fun n hn => (goC_some hlt hn).trans HE.out)
          have HNN := Lib.hid (show nextC body (varsN (bindN body L)) L = none → goC body (body.length - l.length) l = none from fun hn => HE.out ▸ goC_none hlt hn)
          have HNA := Lib.hid (fun (X : World) (v : Value) (k : Nat) (hO : OW w w.heap.size rq rc body L L (varsN (bindN body L)) v X) (hk : k < body.length) => (bind_snoc (L := L) hk).symm ▸ HNM.out L _ v X k hO hk (by omega))
          have HCN := Lib.hid (fun (X : World) (v : Value) (k : Nat) (hO : OW w w.heap.size rq rc body L L (varsN (bindN body L)) v X) (hk : k < body.length) => HCT.out k hk L _ v X hO)
          generalize varsN (bindN body L) = V at *
          clear HNM HCT HE
          go_wp2_with fail
          have HX1 := Lib.hid x1
          clear x1 xb
          go_loopw [13, 14, 41] (fun bv mv i wr => ∃ k : Nat, k ≤ body.length ∧ i = .int .i64 k ∧ bv = .int .i64 (optI (bestS body V L k)) ∧ mv = .int .i64 (mostI body V (bestS body V L k)) ∧ Hid (OW w w.heap.size rq rc body L L V (.slice qv L.length cv) wr) ∧ Hid (∀ t, t < k → fullC body V L t = false)) (fun _ _ i _ => body.length - (intOf i).toNat)
          case atStart => exact ⟨0, Nat.zero_le _, rfl, rfl, rfl, HW, Lib.hid (fun t ht => by omega)⟩
          case round =>
            clear HW
            obtain ⟨k, hk, rfl, rfl, rfl, HW, HF⟩ := hrel
            by_cases hkl : k < body.length
            · obtain ⟨b2, o2, rfl, hbb2, y0, y1, y2⟩ := rdF_at (HRD.out.below HW.out.b (Nat.le_refl _)) k hkl
              have hk0 : (0 : Int) ≤ (k : Int) := by omega
              have hk1 : (k : Int) < (body.length : Int) := by omega
              have HFA := Lib.hid (fullC_at (V := V) (l := L) hkl)
              have HSK := Lib.hid (fun h => bestI_skip (V := V) (l := L) hkl h)
              have HST := Lib.hid (fun h1 h2 => bestI_step (V := V) (l := L) hkl h1 h2)
              have HNX := Lib.hid (fun h => findC_at (V := V) (l := L) hkl h HF.out)
              have HFM := Lib.hid (fun h => fullC_more (V := V) (l := L) HF.out h)
              have HNB := Lib.hid (fun X v h => HNA.out X v k h hkl)
              have HCB := Lib.hid (fun X v h => HCN.out X v k h hkl)
              generalize optI (bestS body V L k) = B at *
              generalize mostI body V (bestS body V L k) = Mo at *
              generalize body[k] = f at *
              obtain ⟨fk, fpr, fq, fc, fa⟩ := f
              simp only at y0 y1 y2 HFA HSK HST HNB HCB
              have HW1 := Lib.hid (HW.out.on (below1 wr (.cells #[.int .u8 fk, .string fpr, .slice fq fa.length fc] 24)))
              have HB1 := Lib.hid (Bk0.new wr 24 #[.int .u8 fk, .string fpr, .slice fq fa.length fc])
              generalize knownN V fa = K at *
              cases hin : decide ((k : Int) ∈ L) with
              | true =>
                rw [hin] at HFA
                have HF2 := Lib.hid (HFM.out HFA.out)
                have HP := Lib.hid (HSK.out (.inl (of_decide_eq_true hin)))
                have n0 := HW1.out.xq.cell 0 _ rfl
                have n1 := HW1.out.xn.cell k _ (by rw [Array.getElem?_toList]; exact namedA_get hkl)
                rw [hin] at n1
                go_wp2_with fail
                go_roundw
                case rel => exact ⟨k + 1, by omega, by go_num, by rw [HP.out.1], by rw [HP.out.2], HW1, HF2⟩
                case measure => simp [intOf]; omega
              | false =>
                rw [hin] at HFA
                have n0 := HW1.out.xq.cell 0 _ rfl
                have n1 := HW1.out.xn.cell k _ (by rw [Array.getElem?_toList]; exact namedA_get hkl)
                rw [hin] at n1
                by_cases hk1' : fk = 1
                · subst hk1'
                  have HF2 := Lib.hid (HFM.out HFA.out)
                  have HS2 := HST.out (of_decide_eq_false hin) rfl
                  by_cases hmk' : Mo < (K : Int)
                  · have HP := Lib.hid (HS2.1 hmk')
                    clear HS2
                    go_wp2_with (first | (go_at_call 27; refine (HNB.out _ _ HW2.out).mono ?_; rintro e w3 ⟨v3, rfl, ho3⟩; have HO3 := Lib.hid ho3; clear ho3) | (go_at_call 29; refine (asks_any 1 _).mono ?_; rintro e w3 ⟨rfl, hw3⟩; rw [hw3]; clear hw3) | (go_at_call 28; refine (HCB.out _ _ HW1.out).mono ?_; rintro e w2 ⟨rfl, hb2⟩; have HW2 := Lib.hid (HW1.out.on hb2); obtain ⟨g0, g1, g2⟩ := (HB1.out.on hb2).three; clear hb2))
                    go_roundw
                    case rel => exact ⟨k + 1, by omega, by go_num, by rw [HP.out.1], by rw [HP.out.2], HW2, HF2⟩
                    case measure => simp [intOf]; omega
                  · have HP := Lib.hid (HS2.2 hmk')
                    clear HS2
                    go_wp2_with (first | (go_at_call 27; refine (HNB.out _ _ HW2.out).mono ?_; rintro e w3 ⟨v3, rfl, ho3⟩; have HO3 := Lib.hid ho3; clear ho3) | (go_at_call 29; refine (asks_any 1 _).mono ?_; rintro e w3 ⟨rfl, hw3⟩; rw [hw3]; clear hw3) | (go_at_call 28; refine (HCB.out _ _ HW1.out).mono ?_; rintro e w2 ⟨rfl, hb2⟩; have HW2 := Lib.hid (HW1.out.on hb2); obtain ⟨g0, g1, g2⟩ := (HB1.out.on hb2).three; clear hb2))
                    go_roundw
                    case rel => exact ⟨k + 1, by omega, by go_num, by rw [HP.out.1], by rw [HP.out.2], HW2, HF2⟩
                    case measure => simp [intOf]; omega
                · have HP := Lib.hid (HSK.out (.inr hk1'))
                  have hk3 : (fk == 1) = false := beq_eq_false_iff_ne.2 hk1'
                  have HAS := Lib.hid (fun X => asks_any fk X)
                  cases ha : (fk == 2 || (fk == 3 || fk == 4)) with
                  | false =>
                    rw [ha] at HAS
                    have HF2 := Lib.hid (HFM.out (by rw [HFA.out, show askB fk = false from ha]; simp))
                    go_wp2_with (first | (go_at_call 27; refine (HNB.out _ _ HW2.out).mono ?_; rintro e w3 ⟨v3, rfl, ho3⟩; have HO3 := Lib.hid ho3; clear ho3) | (go_at_call 29; refine (HAS.out _).mono ?_; rintro e w3 ⟨rfl, hw3⟩; rw [hw3]; clear hw3) | (go_at_call 28; refine (HCB.out _ _ HW1.out).mono ?_; rintro e w2 ⟨rfl, hb2⟩; have HW2 := Lib.hid (HW1.out.on hb2); obtain ⟨g0, g1, g2⟩ := (HB1.out.on hb2).three; clear hb2))
                    go_roundw
                    case rel => exact ⟨k + 1, by omega, by go_num, by rw [HP.out.1], by rw [HP.out.2], HW2, HF2⟩
                    case measure => simp [intOf]; omega
                  | true =>
                    rw [ha] at HAS
                    cases hfu : (K == fa.length) with
                    | false =>
                      have hq : ((K : Int) == (fa.length : Int)) = false := (beq_cast _ _).trans hfu
                      have HF2 := Lib.hid (HFM.out (by rw [HFA.out, hfu]; simp))
                      go_wp2_with (first | (go_at_call 27; refine (HNB.out _ _ HW2.out).mono ?_; rintro e w3 ⟨v3, rfl, ho3⟩; have HO3 := Lib.hid ho3; clear ho3) | (go_at_call 29; refine (HAS.out _).mono ?_; rintro e w3 ⟨rfl, hw3⟩; rw [hw3]; clear hw3) | (go_at_call 28; refine (HCB.out _ _ HW1.out).mono ?_; rintro e w2 ⟨rfl, hb2⟩; have HW2 := Lib.hid (HW1.out.on hb2); obtain ⟨g0, g1, g2⟩ := (HB1.out.on hb2).three; clear hb2))
                      go_roundw
                      case rel => exact ⟨k + 1, by omega, by go_num, by rw [HP.out.1], by rw [HP.out.2], HW2, HF2⟩
                      case measure => simp [intOf]; omega
                    | true =>
                      have hq : ((K : Int) == (fa.length : Int)) = true := (beq_cast _ _).trans hfu
                      have HC := Lib.hid (HNX.out (by rw [HFA.out, hfu, show askB fk = true from ha]; rfl))
                      go_wp2_with (first | (go_at_call 27; refine (HNB.out _ _ HW2.out).mono ?_; rintro e w3 ⟨v3, rfl, ho3⟩; have HO3 := Lib.hid ho3; clear ho3) | (go_at_call 29; refine (HAS.out _).mono ?_; rintro e w3 ⟨rfl, hw3⟩; rw [hw3]; clear hw3) | (go_at_call 28; refine (HCB.out _ _ HW1.out).mono ?_; rintro e w2 ⟨rfl, hb2⟩; have HW2 := Lib.hid (HW1.out.on hb2); obtain ⟨g0, g1, g2⟩ := (HB1.out.on hb2).three; clear hb2))
                      go_roundw
                      case rel => exact ⟨L ++ [(k : Int)], v3, Lib.hid (HVV.out k HC.out), by rw [List.length_append, List.length_singleton]; omega, HO3⟩
                      case measure =>
                        obtain ⟨q9, c9, e9, _, _⟩ := grw_form EI (.inr HO3.out.row) HO3.out.hi
                        have h9 := HO3.out.xp.cell 0 _ rfl
                        rw [h9, HX1.out, e9]
                        simp [lenV]; omega
            · have hke : k = body.length := by omega
              subst hke
              have HC := Lib.hid (findC_no (V := V) (l := L) HF.out)
              cases hb : bestS body V L body.length with
              | none =>
                have HP := Lib.hid (HNN.out (HC.out.trans hb))
                simp only [optI, mostI]
                go_wp2_with fail
                refine bodyPost_ret (results_tmp2 rfl _ _ _) rfl ?_
                exact ⟨none, 0, by rw [HP.out]; rfl, by rw [HP.out]; exact ⟨Nat.le_refl _, .nil⟩, HW.out.b⟩
              | some m =>
                have hm := (bestS_lt body V L _ m hb).2
                have HP := Lib.hid (HVV.out m (HC.out.trans hb))
                have HNB := Lib.hid (HNA.out wr _ m HW.out hm)
                have hm0 : ¬ (m : Int) < 0 := by omega
                simp only [optI]
                generalize mostI body V (some m) = Mo at *
                go_wp2_with (go_at_call 27; refine (HNB.out).mono ?_; rintro e w3 ⟨v3, rfl, ho3⟩; have HO3 := Lib.hid ho3; clear ho3)
                go_roundw
                case rel => exact ⟨L ++ [(m : Int)], v3, Lib.hid HP.out, by rw [List.length_append, List.length_singleton]; omega, HO3⟩
                case measure =>
                  obtain ⟨q9, c9, e9, _, _⟩ := grw_form EI (.inr HO3.out.row) HO3.out.hi
                  have h9 := HO3.out.xp.cell 0 _ rfl
                  rw [h9, HX1.out, e9]
                  simp [lenV]; omega
        · have hj1 : ¬ (L.length : Int) < (body.length : Int) := by omega
          have HP := Lib.hid (show goC body (body.length - l.length) l = some L by
            rw [← HE.out]
            cases body.length - L.length <;> (unfold goC; rw [if_pos (by omega)]))
          go_wp2_with fail
          refine bodyPost_ret (results_tmp2 rfl _ _ _) rfl ?_
          exact ⟨qv, cv, by rw [HP.out]; rfl, by rw [HP.out]; exact ⟨(owns_cap HW.out.row).1, HRV.out⟩, HW.out.b⟩
end Go.Proofs.Ytbkdpdklpmcdgaa
