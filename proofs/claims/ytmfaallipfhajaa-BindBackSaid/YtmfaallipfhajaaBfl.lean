/-
  Contract: bind.Fill.
-/
import Derived.Test.YtmfaallipfhajaaBmt
namespace Go.Proofs.Ytmfaallipfhajaa
open Go.RowKit

theorem made_of_owns {α : Type} {enc : α → List Value} {k : Nat} (F : Enc enc k) {w : World} {base E : Nat} {v : Value} {l : List α} (h : w.ownsRow base E k v l.length (flatE enc l)) : Made enc k l v w := by
  rcases Nat.eq_zero_or_pos l.length with h0 | h0
  · have he : l = [] := List.length_eq_zero_iff.1 h0
    subst he
    rcases h.2 with ⟨rfl, _⟩ | ⟨g, cap, cur, hv, _, _, h3, h4, _⟩
    · exact made_nil
    · exact ⟨_, cap, hv, .nil, h3, h4, fun e => by cases e⟩
  · obtain ⟨g, cap, rfl, hge, hlt⟩ := h.form h0
    obtain ⟨a, b, c⟩ := owns_cap h
    exact ⟨_, cap, rfl, rd_of_owns F hlt h, a, b, c⟩
theorem underV : Try.prog.underlying 25 = some (.slice 46) := Try.underlying25
def FillPost (r : Option (List Vl)) (p : ByteArray) (w : World) (e : Ending) (w' : World) : Prop :=
  match r with
  | some L => ∃ v, e = .returned (.tuple #[.agg #[.string p, v], .bool true]) ∧ Made encV 2 L v w' ∧ Below w.heap.size w w'
  | none => e = .returned (.tuple #[.agg #[.string ⟨#[]⟩, .slice none 0 0], .bool false]) ∧ Below w.heap.size w w'

theorem fillS_step (xs b : List Tm) (k : Nat) (h : k < xs.length) : fillS (xs.drop k) b = match look b xs[k] with
    | some u => (fillS (xs.drop (k + 1)) b).map (u :: ·)
    | none => none := by
  rw [List.drop_eq_getElem_cons h, fillS]
  cases look b xs[k] <;> rfl
theorem fillS_len : ∀ (xs b : List Tm) (L : List Vl), fillS xs b = some L → L.length = xs.length
  | [], _, L, h => by simp [fillS] at h; subst h; rfl
  | x :: xs, b, L, h => by
    rw [fillS] at h
    cases hx : look b x with
    | none => rw [hx] at h; cases h
    | some u =>
      rw [hx] at h
      simp only [Option.map_eq_some_iff] at h
      obtain ⟨M, hM, rfl⟩ := h
      simp [fillS_len xs b M hM]

theorem news_alloc2 (w : World) (o : Obj) (cs : Array Value) (T : TypeId) : ∀ j u, cs.toList[j]? = some u → ((w.alloc o).alloc (.cells cs T)).cell? ((⟨w.heap.size + 1, 0, none⟩ : Addr).add j) = some u := by
  have h := news_alloc (w.alloc o) cs T
  rw [World.size_alloc] at h
  exact h
structure FInv (w1 : World) (m hs : Nat) (p : ByteArray) (args b : List Tm) (k : Nat) (v : Value) (acc : List Vl) (wr : World) : Prop where
  eq : fillS args b = (fillS (args.drop k) b).map (acc ++ ·)
  len : acc.length = k
  bel : Below m w1 wr
  p0 : wr.cell? ⟨m, 0, none⟩ = some (.string p)
  a1 : wr.cell? ⟨m, 1, none⟩ = some v
  fz : wr.frozen? ⟨m, 1, none⟩ = false
  cap : wr.cell? ⟨m + 1, 0, none⟩ = some (.pointer (some ⟨hs + 1, 0, none⟩))
  grw : wr.ownsRow (m + 2) 46 2 v acc.length (flatE encV acc)
  size : m + 2 ≤ wr.heap.size
theorem FInv.on {w1 : World} {m hs : Nat} {p : ByteArray} {args b : List Tm} {k : Nat} {v : Value} {acc : List Vl} {wr w' : World} (h : FInv w1 m hs p args b k v acc wr) (hb : Below wr.heap.size wr w') : FInv w1 m hs p args b k v acc w' := by
  have hz := h.size
  refine ⟨h.eq, h.len, h.bel.trans (hb.mono (by omega)), ?_, ?_, ?_, ?_, owns_on h.grw hb (Nat.le_refl _), Nat.le_trans h.size hb.size⟩
  · rw [hb.cell (p := ⟨m, 0, none⟩) (by show m < _; omega)]; exact h.p0
  · rw [hb.cell (p := ⟨m, 1, none⟩) (by show m < _; omega)]; exact h.a1
  · rw [hb.frozen (p := ⟨m, 1, none⟩) (by show m < _; omega)]; exact h.fz
  · rw [hb.cell (p := ⟨m + 1, 0, none⟩) (by show m + 1 < _; omega)]; exact h.cap
theorem FInv.push {w1 : World} {m hs : Nat} {p : ByteArray} {args b : List Tm} {k : Nat} {v : Value} {acc : List Vl} {wr w' : World} (h : FInv w1 m hs p args b k v acc wr) (h1 : k < args.length) {u : Vl} (hu : look b args[k] = some u) {g cap : Nat} (ho : w'.ownsRow (m + 2) 46 2 (.slice (some ⟨g, 0, none⟩) (acc.length + 1) cap) (acc.length + 1) (flatE encV acc ++ encV u)) (hb : Below (m + 2) wr w') :
    FInv w1 m hs p args b (k + 1) (.slice (some ⟨g, 0, none⟩) (acc.length + 1) cap) (acc ++ [u]) (w'.setCell ⟨m, 1, none⟩ (.slice (some ⟨g, 0, none⟩) (acc.length + 1) cap)) := by
  have hm : w'.cell? ⟨m, 1, none⟩ = some v := by rw [hb.cell (p := ⟨m, 1, none⟩) (by show m < _; omega)]; exact h.a1
  refine ⟨?_, by simp [h.len], (h.bel.trans (hb.mono (by omega))).setCell (p := ⟨m, 1, none⟩) (Nat.le_refl _) _, ?_, World.cell?_setCell_same _ _ _ hm, ?_, ?_, ?_, by rw [World.size_setCell]; exact Nat.le_trans h.size hb.size⟩
  · rw [h.eq, fillS_step _ _ k h1, hu]
    simp only [Option.map_map]
    congr 1
    funext L
    simp
  · rw [World.cell?_setCell_other _ _ _ _ (by intro e; injection e with _ e _; omega), hb.cell (p := ⟨m, 0, none⟩) (by show m < _; omega)]; exact h.p0
  · have : w'.frozen? ⟨m, 1, none⟩ = false := by rw [hb.frozen (p := ⟨m, 1, none⟩) (by show m < _; omega)]; exact h.fz
    simpa [go_sem] using this
  · rw [World.cell?_setCell_other _ _ _ _ (by intro e; injection e with e _ _; omega), hb.cell (p := ⟨m + 1, 0, none⟩) (by show m + 1 < _; omega)]; exact h.cap
  · have e : (acc ++ [u]).length = acc.length + 1 := by simp
    rw [e, flatE_snoc]
    exact ownsRow_setCell_below ho (a := ⟨m, 1, none⟩) (by show m < _; omega) _

theorem below3 (w : World) (o1 o2 o3 : Obj) : Below w.heap.size w (((w.alloc o1).alloc o2).alloc o3) := (below2 w o1 o2).alloc (by simp only [World.size_alloc]; omega) _

set_option maxHeartbeats 8000000 in
set_option maxRecDepth 100000 in
theorem fill_yes (k : Int) (p : ByteArray) (qa qb : Option Addr) (args b : List Tm) (ca cb : Nat) (w : World) (h1 : Tms w w.heap.size qa args) (h3 : Tms w w.heap.size qb b)
    (hla : args.length ≤ 100000) (hlb : b.length ≤ maxLen) (ha : atomB k = true) :
    Calls Try.prog 13 #[.agg #[.int .u8 k, .string p, .slice qa args.length ca], .slice qb b.length cb] w (FillPost (fillS args b) p w) := by
  have HB := Lib.hid (show ∀ o1 o2 o3, Below w.heap.size w (((w.alloc o1).alloc o2).alloc o3) from fun o1 o2 o3 => below3 w o1 o2 o3)
  go_enter Try.func13, Try.ntmps13
  go_wp2_with fail
  refine (atom_any _ _ _ _ _ _).mono ?_
  rintro e w1 ⟨rfl, hb1⟩
  have HB1 := Lib.hid (show Below w.heap.size w w1 from (HB.out _ _ _).trans (hb1.mono (HB.out _ _ _).size))
  have hw1 : w.heap.size + 3 ≤ w1.heap.size := by have := hb1.size; simp at this; omega
  have c1 : w1.cell? ⟨w.heap.size, 1, none⟩ = some (.string p) := by rw [hb1.cell (p := ⟨w.heap.size, 1, none⟩) (by first | (simp; done) | (simp; omega))]; simp [go_sem]
  have c2 : w1.cell? ⟨w.heap.size, 2, none⟩ = some (.slice qa args.length ca) := by rw [hb1.cell (p := ⟨w.heap.size, 2, none⟩) (by first | (simp; done) | (simp; omega))]; simp [go_sem]
  have c3 : w1.cell? ⟨w.heap.size + 1, 0, none⟩ = some (.slice qb b.length cb) := by rw [hb1.cell (p := ⟨w.heap.size + 1, 0, none⟩) (by first | (simp; done) | (simp; omega))]; simp [go_sem]
  have c4 : w1.cell? ⟨w.heap.size + 1 + 1, 0, none⟩ = some (.string ⟨#[]⟩) := by rw [hb1.cell (p := ⟨w.heap.size + 1 + 1, 0, none⟩) (by simp)]; simp [go_sem]
  have c5 : w1.cell? ⟨w.heap.size + 1 + 1, 1, none⟩ = some (.slice none 0 0) := by rw [hb1.cell (p := ⟨w.heap.size + 1 + 1, 1, none⟩) (by simp)]; simp [go_sem]
  have f4 : w1.frozen? ⟨w.heap.size + 1 + 1, 0, none⟩ = false := by rw [hb1.frozen (p := ⟨w.heap.size + 1 + 1, 0, none⟩) (by simp)]; simp [go_sem]
  have f5 : w1.frozen? ⟨w.heap.size + 1 + 1, 1, none⟩ = false := by rw [hb1.frozen (p := ⟨w.heap.size + 1 + 1, 1, none⟩) (by simp)]; simp [go_sem]
  have z1 : w.heap.size < w1.heap.size := by omega
  have z2 : w.heap.size + 1 < w1.heap.size := by omega
  have z3 : w.heap.size + 1 + 1 < w1.heap.size := by omega
  have HA := Lib.hid (h1.grow HB1.out)
  have HT := Lib.hid (h3.grow HB1.out)
  clear hb1 hw1 h1 h3 HB
  generalize hhs : w.heap.size = hs at *
  have HH := Lib.hid hhs
  clear hhs
  go_wp2_with (go_at_call 22; refine (finder_any _ _).mono ?_; rintro e w' ⟨rfl, rfl⟩)
  have hmx : w1.heap.size + 2 ≤ ((w1.alloc (.cells #[.string p, .slice none 0 0] 27)).alloc (.cells #[.pointer (some ⟨hs + 1, 0, none⟩)] 55)).heap.size := by simp
  have HI := Lib.hid (show FInv w1 w1.heap.size hs p args b 0 (.slice none 0 0) [] ((w1.alloc (.cells #[.string p, .slice none 0 0] 27)).alloc (.cells #[.pointer (some ⟨hs + 1, 0, none⟩)] 55)) from
    ⟨by show fillS args b = (fillS args b).map _; cases fillS args b <;> rfl, rfl, below2 w1 _ _, by simp [go_sem], by simp [go_sem], by simp [go_sem], by simp [go_sem], World.ownsRow_nil _ _ _ _, hmx⟩)
  clear hmx
  generalize (w1.alloc (.cells #[.string p, .slice none 0 0] 27)).alloc (.cells #[.pointer (some ⟨hs + 1, 0, none⟩)] 55) = W3 at *
  go_loopw [23] (fun i wr => ∃ (k : Nat) (acc : List Vl) (v : Value), k ≤ args.length ∧ i = .int .i64 k ∧ FInv w1 w1.heap.size hs p args b k v acc wr) (fun i _ => args.length - (intOf i).toNat)
  case atStart => exact ⟨0, [], _, Nat.zero_le _, rfl, HI.out⟩
  case round =>
    obtain ⟨k', acc, v, hk, rfl, hi⟩ := hrel
    have HIN := Lib.hid hi
    have hal := Nat.le_of_eq hi.len
    have hms := hi.size
    have r4 : wr.cell? ⟨hs + 1 + 1, 0, none⟩ = some (.string ⟨#[]⟩) := by rw [hi.bel.cell (p := ⟨hs + 1 + 1, 0, none⟩) z3]; exact c4
    have r5 : wr.cell? ⟨hs + 1 + 1, 1, none⟩ = some (.slice none 0 0) := by rw [hi.bel.cell (p := ⟨hs + 1 + 1, 1, none⟩) z3]; exact c5
    have g4 : wr.frozen? ⟨hs + 1 + 1, 0, none⟩ = false := by rw [hi.bel.frozen (p := ⟨hs + 1 + 1, 0, none⟩) z3]; exact f4
    have g5 : wr.frozen? ⟨hs + 1 + 1, 1, none⟩ = false := by rw [hi.bel.frozen (p := ⟨hs + 1 + 1, 1, none⟩) z3]; exact f5
    clear hi
    by_cases hlt : k' < args.length
    · obtain ⟨q, c, rfl, hrd, hqn⟩ := grw_form EV (.inr HIN.out.grw) HIN.out.size
      clear hrd hqn
      obtain ⟨ab, ao, rfl, hab, x0, x1, x2⟩ := rdM_at (HA.out.below HIN.out.bel (Nat.le_refl _)) k' hlt
      have hab' : ab < wr.heap.size := by omega
      have hX := below1 wr (.cells #[.string args[k'].v, .string args[k'].s, .int .i64 args[k'].n] 48)
      have HX1 := Lib.hid (show (wr.alloc (.cells #[.string args[k'].v, .string args[k'].s, .int .i64 args[k'].n] 48)).cell? ⟨w1.heap.size + 1, 0, none⟩ = some (.pointer (some ⟨hs + 1, 0, none⟩)) from (HIN.out.on hX).cap)
      have HX2 := Lib.hid (show (wr.alloc (.cells #[.string args[k'].v, .string args[k'].s, .int .i64 args[k'].n] 48)).cell? ⟨hs + 1, 0, none⟩ = some (.slice qb b.length cb) from by rw [(HIN.out.on hX).bel.cell (p := ⟨hs + 1, 0, none⟩) z2]; exact c3)
      have HX3 := Lib.hid (((HT.out.below (HIN.out.on hX).bel (Nat.le_refl _)).mono (Nat.le_trans (by omega : w1.heap.size ≤ wr.heap.size) hX.size)) : Tms (wr.alloc (.cells #[.string args[k'].v, .string args[k'].s, .int .i64 args[k'].n] 48)) _ qb b)
      have HX := Lib.hid hX
      clear hX
      cases hlk : look b args[k'] with
      | some u =>
        have HF := Lib.hid (fun W hc ha hl => find_some args[k'] u (w1.heap.size + 1) (hs + 1) qb b cb W hlk hc ha hl hlb)
        have HLK := Lib.hid hlk
        clear hlk
        go_wp2_with fail
        refine (HF.out _ HX1.out HX2.out HX3.out).mono ?_
        rintro e w2 ⟨rfl, hb2⟩
        have HB2 := Lib.hid (show Below wr.heap.size wr w2 from HX.out.trans (hb2.mono HX.out.size))
        have HI2 := Lib.hid (HIN.out.on HB2.out)
        have s2 := HI2.out.size
        have e6 := HI2.out.a1
        have e7 := HI2.out.fz
        have hz4 : w1.heap.size < w2.heap.size := by omega
        obtain ⟨i0, hi, hz0, hz1, hzb⟩ := info_parts infoValue
        have HM1 := Lib.hid (show acc.length + 1 ≤ maxLen by unfold maxLen; omega)
        have HM2 := Lib.hid (show (acc.length + 1) * 24 ≤ 140737488355328 by omega)
        have HI3 := Lib.hid (fun (o1 o2 : Obj) => HI2.out.on (below2 w2 o1 o2))
        clear hb2
        go_wp2_with (at_builtin; refine wpList_append_grw rfl _ _ 25 rfl (w1.heap.size + 2) 46 i0 _ 2 24 underV hi hz0 hz1 hzb rfl (by omega) _ acc.length (flatE encV acc) (by rfl) (.inr (HI3.out _ _).grw) ⟨w2.heap.size + 1, 0, none⟩ 1 1 (encV u) (by rfl) (by rfl) (news_alloc2 _ _ _ _) (EV.one _) (by omega) HM1.out HM2.out (HI3.out _ _).size ?_; intro g cap w5 ho hb5 hge hlt5; have q0 := hb5.cell (p := ⟨w1.heap.size, 1, none⟩) (by show w1.heap.size < _; omega); have q1 := hb5.frozen (p := ⟨w1.heap.size, 1, none⟩) (by show w1.heap.size < _; omega))
        go_wp2_with fail
        go_roundw
        case rel => exact ⟨k' + 1, acc ++ [u], _, by omega, by go_num, (HI3.out _ _).push hlt HLK.out ho hb5⟩
        case measure => simp [intOf]; omega
      | none =>
        have HF := Lib.hid (fun W hc ha hl => find_none args[k'] (w1.heap.size + 1) (hs + 1) qb b cb W hlk hc ha hl hlb)
        have HR := Lib.hid (show fillS args b = none by rw [HIN.out.eq, fillS_step _ _ k' hlt, hlk]; rfl)
        clear hlk
        go_wp2_with fail
        refine (HF.out _ HX1.out HX2.out HX3.out).mono ?_
        rintro e w2 ⟨rfl, hb2⟩
        have HB2 := Lib.hid (show Below wr.heap.size wr w2 from HX.out.trans (hb2.mono HX.out.size))
        have s4 : w2.cell? ⟨hs + 1 + 1, 0, none⟩ = some (.string ⟨#[]⟩) := by rw [HB2.out.cell (p := ⟨hs + 1 + 1, 0, none⟩) (by show hs + 1 + 1 < _; omega)]; exact r4
        have s5 : w2.cell? ⟨hs + 1 + 1, 1, none⟩ = some (.slice none 0 0) := by rw [HB2.out.cell (p := ⟨hs + 1 + 1, 1, none⟩) (by show hs + 1 + 1 < _; omega)]; exact r5
        have t4 : w2.frozen? ⟨hs + 1 + 1, 0, none⟩ = false := by rw [HB2.out.frozen (p := ⟨hs + 1 + 1, 0, none⟩) (by show hs + 1 + 1 < _; omega)]; exact g4
        have t5 : w2.frozen? ⟨hs + 1 + 1, 1, none⟩ = false := by rw [HB2.out.frozen (p := ⟨hs + 1 + 1, 1, none⟩) (by show hs + 1 + 1 < _; omega)]; exact g5
        have hz4 : hs + 1 + 1 < w2.heap.size := by have := HB2.out.size; omega
        clear hb2
        go_wp2_with fail
        obtain ⟨_, L1, L2⟩ := load2 (w := w2) (b := hs + 1 + 1) (o := 0) s4 s5 (.string ⟨#[]⟩) (.slice none 0 0)
        refine bodyPost_ret (v := .tuple #[.agg #[.string ⟨#[]⟩, .slice none 0 0], .bool false]) ?_ rfl ?_
        · have L1' : ((w2.setCell ⟨hs + 1 + 1, 0, none⟩ (.string ⟨#[]⟩)).setCell ⟨hs + 1 + 1, 1, none⟩ (.slice none 0 0)).cell? ⟨hs + 1 + 1, 0, none⟩ = some (.string ⟨#[]⟩) := L1
          have L2' : ((w2.setCell ⟨hs + 1 + 1, 0, none⟩ (.string ⟨#[]⟩)).setCell ⟨hs + 1 + 1, 1, none⟩ (.slice none 0 0)).cell? ⟨hs + 1 + 1, 1, none⟩ = some (.slice none 0 0) := L2
          simp [results, Try.results13, go_sem, L1', L2', hz4]
        rw [HR.out]
        refine ⟨rfl, ?_⟩
        rw [HH.out]
        exact HB1.out.trans (((HIN.out.on HB2.out).bel.mono (by omega)).trans ((set2 (B := hs) (b := hs + 1 + 1) (by omega) 0 _ _).alloc (by simp only [World.size_setCell]; omega) _))
    · obtain ⟨q, c, rfl, hrd, hqn⟩ := grw_form EV (.inr HIN.out.grw) HIN.out.size
      clear hrd hqn
      have e5 := HIN.out.p0
      have e6 := HIN.out.a1
      have hz4 : hs + 1 + 1 < wr.heap.size := by omega
      have HR := Lib.hid (show fillS args b = some acc by rw [HIN.out.eq, List.drop_eq_nil_of_le (by omega)]; simp [fillS])
      have HO := Lib.hid (show Made encV 2 acc (.slice q acc.length c) wr from made_of_owns EV HIN.out.grw)
      go_wp2_with fail
      obtain ⟨_, L1, L2⟩ := load2 (w := wr) (b := hs + 1 + 1) (o := 0) r4 r5 (.string p) (.slice q acc.length c)
      refine bodyPost_ret (v := .tuple #[.agg #[.string p, .slice q acc.length c], .bool true]) ?_ rfl ?_
      · have L1' : ((wr.setCell ⟨hs + 1 + 1, 0, none⟩ (.string p)).setCell ⟨hs + 1 + 1, 1, none⟩ (.slice q acc.length c)).cell? ⟨hs + 1 + 1, 0, none⟩ = some (.string p) := L1
        have L2' : ((wr.setCell ⟨hs + 1 + 1, 0, none⟩ (.string p)).setCell ⟨hs + 1 + 1, 1, none⟩ (.slice q acc.length c)).cell? ⟨hs + 1 + 1, 1, none⟩ = some (.slice q acc.length c) := L2
        simp [results, Try.results13, go_sem, L1', L2']
      rw [HR.out]
      refine ⟨_, rfl, ?_, ?_⟩
      · obtain ⟨q', c', he, hrd, hcap⟩ := HO.out
        cases he
        have hg := made_of_owns EV (ownsRow_setCell_below (ownsRow_setCell_below HIN.out.grw (a := ⟨hs + 1 + 1, 0, none⟩) (by show hs + 1 + 1 < _; omega) (.string p)) (a := ⟨hs + 1 + 1, 1, none⟩) (by show hs + 1 + 1 < _; omega) (.slice q acc.length c))
        exact hg
      · rw [HH.out]
        exact HB1.out.trans ((HIN.out.bel.mono (by omega)).trans (set2 (B := hs) (b := hs + 1 + 1) (by omega) 0 _ _))
end Go.Proofs.Ytmfaallipfhajaa
