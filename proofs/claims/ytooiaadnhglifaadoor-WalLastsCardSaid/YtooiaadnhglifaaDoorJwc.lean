/-
  Wop, Wtl, Wtk, Wor, Won, joined.
-/
import Derived.Test.YtooiaadnhglifaaDoorJwb
import Derived.Test.YtooiaadnhglifaaDoorWsc
namespace Go.Proofs.YtooiaadnhglifaaDoor
section
set_option linter.unusedVariables false
set_option linter.unusedSimpArgs false
open Go.Maps Go.RowKit

theorem Pl.low {w : World} {base base' : Nat} {v : Value} {l : List SlA} (h : Pl w base v l) (hb : base' ≤ base) : Pl w base' v l := by
  refine ⟨h.form, ⟨h.own.1, ?_⟩, h.ok, h.far⟩
  rcases h.own.2 with h2 | ⟨g, cap, cur, h3, h4, h5⟩
  · exact .inl h2
  · exact .inr ⟨g, cap, cur, h3, Nat.le_trans hb h4, h5⟩
theorem readS_none (s : DS) (nm : List UInt8) (h : (readS s nm).2 ≠ 0) : (readS s nm).1 = [] := by
  unfold readS at h ⊢
  by_cases h1 : s.on = false
  · rw [if_pos h1]
  · rw [if_neg h1] at h ⊢
    cases h2 : getF nm s.fs with
    | none => rfl
    | some f => rw [h2] at h; exact absurd rfl h
set_option maxRecDepth 100000 in
theorem wread_any (base d lb : Nat) (s : DS) (O : Nat → Prop) (v : Value) (l : List SlA) (dn : Bool) (nm : ByteArray) (hs : nm.size ≤ maxLen) (w : World) (h : Wk w base d lb s O v l dn) :
    Calls Tryd.prog 56 #[.pointer (some ⟨lb, 0, none⟩), .string nm] w fun r w' => ∃ q c, r = .returned (.tuple #[.slice q (fileS s nm.data.toList).1.length c, .int .i64 (fileS s nm.data.toList).2]) ∧ Rd0 w' q (fileS s nm.data.toList).1 ∧ (fileS s nm.data.toList).1.length ≤ c ∧ Below w.heap.size w w' := by
  have HR := Lib.hid (read_any base d s O nm hs w h.dk)
  have c0 := h.bk.bk.cell 0 (.pointer (some ⟨d, 0, none⟩)) rfl
  have HN := Lib.hid (readS_none s nm.data.toList)
  have HF := Lib.hid (show fileS s nm.data.toList = (if (readS s nm.data.toList).2 = 4 then ([], 0) else readS s nm.data.toList) from rfl)
  clear h hs
  generalize fileS s nm.data.toList = F at *
  generalize readS s nm.data.toList = R at *
  obtain ⟨m, e⟩ := R
  by_cases h4 : e = 4
  · subst h4
    have HF2 := Lib.hid (show F = ([], 0) by rw [HF.out]; simp)
    rw [HF2.out]
    clear HF HF2
    go_enter Tryd.func56, Tryd.ntmps56
    go_wp2_with (go_at_call 22; refine HR.out.mono ?_; rintro r w1 ⟨v1, rfl, ha, hb⟩; have HB := Lib.hid hb; clear ha hb)
    exact bodyPost_ret (results_tmp2 rfl _ _ _) rfl ⟨none, 0, rfl, .inl rfl, Nat.le_refl _, HB.out⟩
  · have HF2 := Lib.hid (show F = (m, e) by rw [HF.out]; simp [h4])
    rw [HF2.out]
    have z4 : (e == 4) = false := by simpa using h4
    clear HF HF2 h4
    go_enter Tryd.func56, Tryd.ntmps56
    go_wp2_with (go_at_call 22; refine HR.out.mono ?_; rintro r w1 ⟨v1, rfl, ha, hb⟩; obtain ⟨q1, c1, rfl, hc1, hr1⟩ := ha.rd; have HB := Lib.hid hb; have HA := Lib.hid (And.intro hr1 hc1); clear ha hb hr1 hc1)
    exact bodyPost_ret (results_tmp2 rfl _ _ _) rfl ⟨q1, c1, rfl, HA.out.1, HA.out.2, HB.out⟩
set_option maxRecDepth 100000 in
theorem takeSnap_any (base d lb : Nat) (s : DS) (O : Nat → Prop) (w : World) (h : Wk w base d lb s O (.slice none 0 0) [] false) (hE : Env w) (hz : (fileS s snapN).1.length ≤ 2000000) :
    Calls Tryd.prog 36 #[.pointer (some ⟨lb, 0, none⟩)] w fun r w' => r = .returned (.int .i64 (fileS s snapN).2) ∧ ∃ v' l', Wk w' base d lb s O v' l' false ∧ l'.map (·.m) = snapS s ∧ Fr w w' (OwnW O lb (.slice none 0 0)) (OwnW O lb v') := by
  have HR := Lib.hid (wread_any base d lb s O _ _ _ snapB (by decide) w h)
  have HW := Lib.hid h
  have HE := Lib.hid hE
  have HZ := Lib.hid hz
  have HS := Lib.hid (show snapS s = (let x := scanG (fileS s snapN).1 0 [] 0; if x.1 = 1 then x.2.1 else []) from rfl)
  clear h hE hz
  rw [show snapB.data.toList = snapN from rfl] at HR
  generalize fileS s snapN = F at *
  generalize snapS s = S at *
  obtain ⟨b, e⟩ := F
  simp only at HR HZ HS
  have HC := Lib.hid (fun (q : Option Addr) (c : Nat) X (h1 : Rd0 X q b) (h2 : b.length ≤ c) (h3 : Env X) => scan_low q b.length c b rfl X h1 h2 h3 HZ.out)
  generalize scanG b 0 [] 0 = G at *
  obtain ⟨f, ps, en⟩ := G
  simp only at HC HS
  go_enter Tryd.func36, Tryd.ntmps36
  go_upto_region 3 with (first
    | (go_at_call 12; refine (HC.out q1 c1 _ HA1.out.1 HA1.out.2 (HE.out.on HB1.out HE.out.size)).mono ?_; rintro r w2 ⟨⟨v2, l2, rfl, hp, hl, hlo⟩, hb⟩; have HP2 := Lib.hid (And.intro hp (And.intro hl hlo)); have HB12 := Lib.hid hb; have HB2 := Lib.hid (HB1.out.trans (hb.mono HB1.out.size)); clear hp hl hlo hb)
    | (go_at_call 56; refine HR.out.mono ?_; rintro r w1 ⟨q1, c1, rfl, hr, hc, hb⟩; have HA1 := Lib.hid (And.intro hr hc); have HB1 := Lib.hid hb; clear hr hc hb))
  by_cases h1 : f = 1
  · subst h1
    rw [if_pos rfl] at HS
    have hF := Wk.payed (HW.out.on HB1.out) (X' := w2) (v' := v2) (l' := l2) ⟨HB12.out.os, HB12.out.tape, HB12.out.output, HB12.out.size, fun k hk _ => HB12.out.block k hk⟩ (HP2.out.1.low (by have := HW.out.bk.bk.lt; have := HW.out.hlb; have := HB1.out.size; omega)) (fun g hg => .inr (HP2.out.1.own.lt g hg).1) (fun x hx => .inr ((HP2.out.2.2 x hx).imp id (fun h a ha => by
      have h1 := h a ha
      exact ⟨fun ho => by have := (HW.out.dk.lt _ ho).1; have := HB1.out.size; omega, fun e => by have := HW.out.bk.bk.lt; have := HB1.out.size; omega⟩)))
    have HF := Lib.hid (show Wk _ base d lb s O v2 l2 false ∧ Fr w _ _ _ from ⟨hF.1, (Fr.of (OwnW O lb (.slice none 0 0)) HB1.out).trans hF.2⟩)
    have c1 := (HW.out.on HB2.out).bk.bk.cell 1 _ rfl
    have s1 := (HW.out.on HB2.out).bk.bk.soft 1
    have HPS := Lib.hid HP2.out.2.1
    obtain ⟨p2, d2, he2, hd2⟩ := HP2.out.1.form
    subst he2
    clear hF hd2 HP2 HC HR HB2
    go_wp2_with fail
    go_ret
    exact ⟨by rfl, _, l2, HF.out.1, by rw [HPS.out, HS.out], HF.out.2⟩
  · have z1 : ((f : Int) == 1) = false := by rw [beq_eq_false_iff_ne]; omega
    rw [if_neg h1] at HS
    have HA := Lib.hid (HW.out.on HB2.out)
    have HFR := Lib.hid (Fr.of (OwnW O lb (.slice none 0 0)) HB2.out)
    clear h1
    go_wp2_with fail
    go_ret
    exact ⟨by rfl, _, [], HA.out, by rw [HS.out]; rfl, HFR.out⟩
end
section
set_option linter.unusedVariables false
set_option linter.unusedSimpArgs false
open Go.Maps Go.RowKit

theorem run_append_zeroP {P : Program} (w : World) (t ty e : TypeId) (i : TypeInfo) (ht : P.underlying t = some (.slice e)) (hi : P.info? e = some i) (p q : Option Addr) (n d c : Nat) (hn : n ≤ d) : (Builtin.append_ #[t, t] ty #[.slice p n d, .slice q 0 c]).run P w = .ok (.slice p n d) w := by
  cases p <;> cases q <;> simp [Builtin.append_, run_underlying ht, sizeOf, typeInfo, hi, Builtin.lenOf, Builtin.firstCells, loadCells, loadCellsFrom, storeCells, Result.andThen, hn]
theorem run_plN (w : World) (base : Nat) (v : Value) (l : List SlA) (hP : Pl w base v l) (q : Option Addr) (ys : List SlA) (c : Nat) {B0 : Nat} (hR : Rd encS 1 w B0 q ys) (hY : ∀ y ∈ ys, (Rd0 w y.q y.m ∧ y.m.length ≤ y.c) ∧ ∀ g, v.ownBlock = some g → y.m = [] ∨ ∀ b, y.q = some b → b.block ≠ g)
    (hl : l.length + ys.length ≤ 1000000) (hbase : base ≤ w.heap.size) (ty : TypeId) :
    ∃ p' c' w', (Builtin.append_ #[30, 30] ty #[v, .slice q ys.length c]).run Tryd.prog w = .ok (.slice p' (l.length + ys.length) c') w' ∧ Pl w' base (.slice p' (l.length + ys.length) c') (l ++ ys) ∧ w.grownBy w' v.ownBlock ∧ ∀ g, (Value.slice p' (l.length + ys.length) c').ownBlock = some g → v.ownBlock = some g ∨ w.heap.size ≤ g := by
  obtain ⟨i, hi, hz0, hz1, hz2⟩ := info_parts infoSl
  by_cases h0 : ys = []
  · subst h0
    obtain ⟨p, d, rfl, hd⟩ := id hP.form
    refine ⟨p, d, w, run_append_zeroP w _ _ 22 i Tryd.underlying30 hi p q _ d c hd, ?_, ⟨rfl, rfl, rfl, Nat.le_refl _, fun _ _ _ => rfl⟩, fun g hg => .inl hg⟩
    rw [List.append_nil]; exact hP
  · have hpos : 0 < ys.length := List.length_pos_iff.2 h0
    obtain ⟨b, off, rfl, _, _⟩ := hR.at 0 hpos
    obtain ⟨g, cap, w', hr, how, hg, hat, hlt⟩ := run_append_lies (P := Tryd.prog) (w := w) 30 ty base 22 i _ 1 24 Tryd.underlying30 hi hz0 hz1 hz2 rfl (by decide) v l.length (flatE encS l) hP.own ⟨b, off, none⟩ ys.length c (flatE encS ys) (flatE_length ESx ys)
      (flatE_cells ESx hpos hR) (flatE_one ESx ys) hpos (by unfold maxLen; omega) (by omega) hbase w.heap.size rfl
    have hmem : ∀ x ∈ l ++ ys, (Rd0 w x.q x.m ∧ x.m.length ≤ x.c) ∧ ∀ g, v.ownBlock = some g → x.m = [] ∨ ∀ b, x.q = some b → b.block ≠ g := by
      intro x hx
      rcases List.mem_append.1 hx with hx | hx
      · exact ⟨hP.ok x hx, hP.far x hx⟩
      · exact hY x hx
    have hfl : flatE encS (l ++ ys) = flatE encS l ++ flatE encS ys := by simp [flatE]
    refine ⟨_, cap, w', hr, ⟨⟨_, cap, by rw [List.length_append], ?_⟩, by rw [List.length_append, hfl]; exact how, fun x hx => ⟨(hmem x hx).1.1.grown hg (hmem x hx).2, (hmem x hx).1.2⟩, fun x hx g' hg' => ?_⟩, hg, fun g' hg' => ?_⟩
    · rcases how.2 with ⟨h, _⟩ | ⟨_, _, _, h1, _, _, h2, _⟩
      · cases h
      · cases h1; rw [List.length_append]; exact h2
    · obtain rfl : g = g' := by simpa [Value.ownBlock] using hg'
      rcases hat with hat | hat
      · exact (hmem x hx).2 g hat
      · rcases (hmem x hx).1.1 with h0 | ⟨b, off, h1, h2, _⟩
        · exact .inl h0
        · refine .inr fun b' hb' => ?_
          rw [h1] at hb'; cases hb'
          show b ≠ g
          omega
    · obtain rfl : g = g' := by simpa [Value.ownBlock] using hg'
      rcases hat with hat | hat
      · exact .inl hat
      · exact .inr (by omega)
theorem step_plN {w : World} {ops : Array Oper} {o : Oper} {a : Act} {K : Act → World → Prop} {Q : Exit → Act → World → Prop} {R : Prop} (hgd : o.guard = none) (s x : Operand)
    (ho : o.op = .call { callee := .builtin .append, args := #[s, x], argTypes := #[30, 30] })
    (base : Nat) (v : Value) (l : List SlA) (hs : a.eval s = v) (hP : Pl w base v l) (q : Option Addr) (ys : List SlA) (n c : Nat) (hx : a.eval x = .slice q n c) (hn : n = ys.length) {B0 : Nat} (hR : Rd encS 1 w B0 q ys) (hY : ∀ y ∈ ys, (Rd0 w y.q y.m ∧ y.m.length ≤ y.c) ∧ ∀ g, v.ownBlock = some g → y.m = [] ∨ ∀ b, y.q = some b → b.block ≠ g)
    (hl : l.length + ys.length ≤ 1000000) (hbase : base ≤ w.heap.size)
    (h : ∀ p' c' w', Pl w' base (.slice p' (l.length + ys.length) c') (l ++ ys) → w.grownBy w' v.ownBlock → (∀ g, (Value.slice p' (l.length + ys.length) c').ownBlock = some g → v.ownBlock = some g ∨ w.heap.size ≤ g) → K (a.put o.dst (.slice p' (l.length + ys.length) c')) w') : if Region.wanted o (yielded ops a.tmps) = true then Oper.wp Tryd.prog o a w K Q else R := by
  subst hn
  obtain ⟨p', c', w', hr, h1, h2, h3⟩ := run_plN w base v l hP q ys c hR hY hl hbase o.type
  have hw : Region.wanted o (yielded ops a.tmps) = true := by simp [Region.wanted, hgd]
  rw [if_pos hw]
  unfold Oper.wp execOp
  simp only [ho, resolve, invoke, builtin, Sem.run_bind, Sem.run_pure, Result.andThen_ok, List.map_toArray, List.map_cons, List.map_nil, hs, hx, hr]
  exact h p' c' w' h1 h2 h3
/-- a list of bytes, as its slice reads -/
theorem Pl.rd {w : World} {base : Nat} {v : Value} {l : List SlA} (h : Pl w base v l) : ∃ p d, v = .slice p l.length d ∧ l.length ≤ d ∧ Rd encS 1 w w.heap.size p l := by
  obtain ⟨p, d, rfl, hd⟩ := h.form
  refine ⟨p, d, rfl, hd, ?_⟩
  by_cases h0 : l = []
  · exact .inl h0
  · obtain ⟨g, cap, he, _, hg⟩ := h.own.form (List.length_pos_iff.2 h0)
    cases he
    exact rd_of_owns ESx hg h.own
def fromE1 (p : Option Addr) (c n : Nat) : Option Addr := if c = n then p else p.map (·.add (n * 1))
theorem run_slice_fromE1 {P : Program} (t e : TypeId) (hu : P.underlying t = some (.slice e)) (hs : (P.info? e).map (·.size) = some 1) (p : Option Addr) (len cap : Nat) (k : IntKind) (i : Int) (n : Nat) (hi : i = (n : Int)) (hn : n ≤ len) (w : World) :
    (Instr.sliceAt t (.slice p len cap) (some (.int k i)) none none).run P w = .ok (.slice (fromE1 p cap n) (len - n) (cap - n)) w := run_slice_fromQ t e hu hs p len cap k i n hi hn w
theorem rd_fromE1 {w : World} {B : Nat} {p : Option Addr} {l : List SlA} (h : Rd encS 1 w B p l) (n c : Nat) (hc : l.length ≤ c) : Rd encS 1 w B (fromE1 p c n) (l.drop n) := by
  rcases h with h | ⟨b, off, rfl, hb, hcl⟩
  · subst h; exact .inl (by simp)
  · by_cases hn : l.length ≤ n
    · exact .inl (List.drop_eq_nil_of_le hn)
    · refine .inr ⟨b, off + n * 1, ?_, hb, fun i hi r u hu => ?_⟩
      · unfold fromE1
        rw [if_neg (by omega)]
        show some ((⟨b, off, none⟩ : Addr).add (n * 1)) = some _
        rw [Addr.add_lit]
      · rw [List.getElem_drop] at hu
        have := hcl (n + i) (by rw [List.length_drop] at hi; omega) r u hu
        rw [show off + n * 1 + i * 1 + r = off + (n + i) * 1 + r by omega]
        exact this
theorem scanG_first (b : List UInt8) : ∀ (k first e : Nat) (out : List (List UInt8)), b.length - e ≤ k → first ≤ 1099511627776 → 17 * out.length ≤ e → (scanG b first out e).1 ≤ 1099511627776 ∧ 17 * (scanG b first out e).2.1.length ≤ (scanG b first out e).2.2 ∧ (e ≤ b.length → (scanG b first out e).2.2 ≤ b.length)
  | k, first, e, out, hk, hf, ho => by
    cases hw : wholeS (b.drop e) with
    | none => rw [scanG_none hw]; exact ⟨hf, ho, id⟩
    | some m =>
      have hm := wholeS_len hw
      rw [List.length_drop] at hm
      cases hok : okN (beS (m.take 8)) first out.length with
      | false => rw [scanG_bad hw hok]; exact ⟨hf, ho, id⟩
      | true =>
        rw [scanG_step hw hok]
        match k with
        | 0 => omega
        | k + 1 =>
          have h1 : (if out.length = 0 then beS (m.take 8) else first) ≤ 1099511627776 := by
            split
            · rename_i h0
              unfold okN at hok
              rw [if_pos h0] at hok
              simp at hok
              exact hok.2
            · exact hf
          obtain ⟨r1, r2, r3⟩ := scanG_first b k (if out.length = 0 then beS (m.take 8) else first) (e + (m.length + 9)) (out ++ [m.drop 8]) (by omega) h1 (by simp; omega)
          exact ⟨r1, r2, fun _ => r3 (by omega)⟩
end
section
set_option linter.unusedVariables false
set_option linter.unusedSimpArgs false
open Go.Maps Go.RowKit

/-- the act of takeLog -/
theorem cut_do (base d lb : Nat) (s : DS) (O : Nat → Prop) (v : Value) (l : List SlA) (w : World) (hw : Wk w base d lb s O v l false) (k : Int) (X : World) (hX : Below w.heap.size w X) (b0 b1 b2 T0 T1 T2 ab ca T : Nat) (lo : w.heap.size ≤ b0 ∧ w.heap.size ≤ b1 ∧ w.heap.size ≤ b2 ∧ w.heap.size ≤ ab)
    (k0 : Bk X b0 T0 #[fnV 44 d]) (k1 : Bk X b1 T1 #[.string logB]) (k2 : Bk X b2 T2 #[.int .i64 k]) (k3 : Bk X ab T #[.func (.func 63) #[] #[ptrV b0, ptrV b1, ptrV b2]]) :
    Calls Tryd.prog 32 #[.pointer (some ⟨lb, 0, none⟩), .slice (some ⟨ab, 0, none⟩) 1 ca] X fun r w' => ∃ e, r = .returned (.int .i64 e) ∧ e = (cutS s logN k).2 ∧ ∃ O', Wk w' base d lb (cutS s logN k).1 O' v l ((cutS s logN k).2 == 20) ∧ Fr w w' (OwnW O lb v) (OwnW O' lb v) := by
  have hno : ∀ b, w.heap.size ≤ b → ¬ O b := fun b hb e => by have := (hw.dk.lt b e).1; omega
  have hC : Cx w base d lb O v l [(b0, T0, #[fnV 44 d]), (b1, T1, #[.string logB]), (b2, T2, #[.int .i64 k]), (ab, T, #[.func (.func 63) #[] #[ptrV b0, ptrV b1, ptrV b2]])] [] false X s := by
    refine ⟨⟨O, hw.on hX, Fr.of _ hX, ?_, fun y hy => by cases hy⟩⟩
    intro x hx
    simp only [List.mem_cons, List.not_mem_nil, or_false] at hx
    rcases hx with rfl | rfl | rfl | rfl
    · exact ⟨k0, hno _ lo.1⟩
    · exact ⟨k1, hno _ lo.2.1⟩
    · exact ⟨k2, hno _ lo.2.2.1⟩
    · exact ⟨k3, hno _ lo.2.2.2⟩
  refine (do_chain w base d lb O v l _ _ false (fun i => match i with | 0 => s | _ => (cutS s logN k).1) (fun _ => (cutS s logN k).2) 1 ca ab (by omega) T #[.func (.func 63) #[] #[ptrV b0, ptrV b1, ptrV b2]]
    (fun _ => 63) (fun _ => #[]) (fun _ => #[ptrV b0, ptrV b1, ptrV b2]) (by simp) ?_ ?_ ?_ X hC).mono ?_
  · intro i hi
    obtain rfl : i = 0 := by omega
    rfl
  · intro i hi
    exact cal_withI
  · intro i Y hi hY
    obtain rfl : i = 0 := by omega
    exact hY.cut b0 b1 b2 T0 T1 T2 logB (by decide) k (by simp) (by simp) (by simp)
  · rintro r w' ⟨e, rfl, ⟨rfl, h1, h2⟩ | ⟨h1, i, hi, h2, h3, O', h4, h5⟩⟩
    · obtain ⟨O', h4, h5, _⟩ := h2.ex
      have e0 := h1 0 (by omega)
      exact ⟨0, rfl, e0.symm, O', by rw [e0]; exact h4, h5⟩
    · obtain rfl : i = 0 := by omega
      rw [Bool.false_or] at h4
      exact ⟨e, rfl, h3.symm, O', by rw [h3]; exact h4, h5⟩

set_option maxRecDepth 100000 in
set_option maxHeartbeats 8000000 in
theorem takeLog_any (base d lb : Nat) (s : DS) (O : Nat → Prop) (v : Value) (l : List SlA) (w : World) (h : Wk w base d lb s O v l false) (hE : Env w) (hl : l.length ≤ 100000) (hz : (fileS s logN).1.length ≤ 1500000) :
    Calls Tryd.prog 37 #[.pointer (some ⟨lb, 0, none⟩)] w fun r w' => r = .returned (.int .i64 (takeS s (l.map (·.m))).2) ∧ AfterW w' w base d lb O v (takeS s (l.map (·.m))).1 := by
  have HR := Lib.hid (wread_any base d lb s O _ _ _ logB (by decide) w h)
  have HW := Lib.hid h
  have HE := Lib.hid hE
  have HZ := Lib.hid hz
  have HL := Lib.hid hl
  have HT := Lib.hid (show takeS s (l.map (·.m)) = (let lg := fileS s logN; if lg.2 ≠ 0 then (⟨s, l.map (·.m), false⟩, lg.2) else
    let x := scanG lg.1 0 [] 0
    let t := takesB x.1 x.2.1.length l.length
    let ps := if t = true then l.map (·.m) ++ x.2.1.drop (l.length + 1 - x.1) else l.map (·.m)
    let en := if t = true then x.2.2 else 0
    if lg.1.length ≤ en then (⟨s, ps, false⟩, 0) else
    let c := cutS s logN (en : Int)
    (⟨c.1, ps, c.2 == 20⟩, c.2)) by
    unfold takeS; simp only [List.length_map])
  clear h hE hz hl
  rw [show logB.data.toList = logN from rfl] at HR
  generalize fileS s logN = F at *
  obtain ⟨b, e⟩ := F
  simp only at HR HZ HT
  by_cases he : e ≠ 0
  · have HT2 := Lib.hid (show takeS s (l.map (·.m)) = (⟨s, l.map (·.m), false⟩, e) by rw [HT.out, if_pos he])
    have z0 : (e != 0) = true := by simpa [bne_iff_ne] using he
    clear HT he
    go_enter Tryd.func37, Tryd.ntmps37
    go_wp2_with (go_at_call 56; refine HR.out.mono ?_; rintro r w1 ⟨q1, c1, rfl, hr, hc, hb⟩; have HB1 := Lib.hid hb; clear hr hc hb)
    go_ret
    rw [HT2.out]
    exact ⟨by rfl, HW.out.after HB1.out⟩
  · obtain rfl : e = 0 := by simpa using he
    have HT1 := Lib.hid (HT.out.trans (if_neg he))
    clear HT he
    have HT := HT1
    clear HT1
    have HG := Lib.hid (scanG_first b b.length 0 0 [] (by omega) (by omega) (by simp))
    have HC := Lib.hid (fun (q : Option Addr) (c : Nat) X (h1 : Rd0 X q b) (h2 : b.length ≤ c) (h3 : Env X) => scan_low q b.length c b rfl X h1 h2 h3 (by have := HZ.out; omega))
    generalize scanG b 0 [] 0 = G at *
    obtain ⟨f, ps, en⟩ := G
    simp only at HC HT HG
    go_enter Tryd.func37, Tryd.ntmps37
    go_upto_region 5 with (first
      | (go_at_call 12; refine (HC.out q1 c1 _ HA1.out.1 HA1.out.2 (HE.out.on HB1.out HE.out.size)).mono ?_; rintro r w2 ⟨⟨v2, l2, rfl, hp, hl, hlo⟩, hb⟩; have HP2 := Lib.hid (And.intro hp (And.intro hl hlo)); have HB12 := Lib.hid hb; have HB2 := Lib.hid (HB1.out.trans (hb.mono HB1.out.size)); clear hp hl hlo hb)
      | (go_at_call 56; refine HR.out.mono ?_; rintro r w1 ⟨q1, c1, rfl, hr, hc, hb⟩; have HA1 := Lib.hid (And.intro hr hc); have HB1 := Lib.hid hb; clear hr hc hb))
    obtain ⟨p2, d2, he2, hd2, hr2⟩ := HP2.out.1.rd
    subst he2
    have HR2 := Lib.hid (And.intro hr2 hd2)
    obtain ⟨p, dd, rfl, hd⟩ := HW.out.pl.form
    have c1x := (HW.out.on HB2.out).bk.bk.cell 1 (.slice p l.length dd) rfl
    have HM2 := Lib.hid (show ps.length = l2.length by rw [← HP2.out.2.1, List.length_map])
    clear hr2 hd2 hd HC HR
    have e1 : IntKind.i64.wrap ((f : Int) + (l2.length : Int)) = (f : Int) + (l2.length : Int) := IntWalk.i64_in _ (by have := HG.out.1; have := HG.out.2.1; have := HG.out.2.2 (Nat.zero_le _); have := HM2.out; have := HZ.out; omega)
    have e2 : IntKind.i64.wrap ((f : Int) + (l2.length : Int) - 1) = (f : Int) + (l2.length : Int) - 1 := IntWalk.i64_in _ (by have := HG.out.1; have := HG.out.2.1; have := HG.out.2.2 (Nat.zero_le _); have := HM2.out; have := HZ.out; omega)
    have e3 : IntKind.i64.wrap ((l.length : Int) + 1) = (l.length : Int) + 1 := IntWalk.i64_in _ (by have := HL.out; omega)
    rw [HM2.out] at HT
    go_upto_region 6 with fail
    clear c1x HA1
    generalize b.length = NB at *
    by_cases ht : takesB f l2.length l.length = true
    · rw [if_pos ht, if_pos ht] at HT
      have hc : ((1 : Int) ≤ (f : Int) ∧ (f : Int) ≤ (l.length : Int) + 1) ∧ (l.length : Int) ≤ (f : Int) + (l2.length : Int) - 1 := by
        simp only [takesB, Bool.and_eq_true, decide_eq_true_eq] at ht
        omega
      obtain ⟨⟨h1, h2⟩, h3⟩ := hc
      clear ht
      obtain ⟨J, hJ⟩ : ∃ J, J = l.length + 1 - f := ⟨_, rfl⟩
      have e4 : IntKind.i64.wrap ((l.length : Int) + 1 - (f : Int)) = (J : Int) := by rw [IntWalk.i64_in _ (by have := HL.out; omega)]; omega
      have e5 : wrap64 ((l.length : Int) + 1) = (l.length : Int) + 1 := IntWalk.wrap64_in _ (by have := HL.out; omega)
      have e6 : wrap64 ((l.length : Int) + 1 - (f : Int)) = (J : Int) := by rw [IntWalk.wrap64_in _ (by have := HL.out; omega)]; omega
      have HJ := Lib.hid (show J ≤ l2.length by omega)
      have hsl := fun wx => run_slice_fromE1 (P := Tryd.prog) 30 22 Tryd.underlying30 (by kernel_rfl) p2 l2.length d2 .i64 (J : Int) J rfl HJ.out wx
      rw [← hJ] at HT
      clear hJ
      go_upto_region 7 with fail
      have HDR := Lib.hid (show Below w.heap.size w w2.drew from HB2.out.drew)
      have HLX := Lib.hid (show lb < w2.heap.size from Nat.lt_of_lt_of_le HW.out.bk.bk.lt HB2.out.size)
      have HNX := Lib.hid (show some lb ≠ (Value.slice p l.length dd).ownBlock from fun e => (HW.out.nv lb e.symm).2 rfl)
      have c1 : w2.cell? ⟨lb, 1, none⟩ = some (.slice p l.length dd) := (HW.out.on HB2.out).bk.bk.cell 1 _ rfl
      have s1 : w2.frozen? ⟨lb, 1, none⟩ = false := (HW.out.on HB2.out).bk.bk.soft 1
      have HPS := Lib.hid (show (l2.drop J).map (·.m) = ps.drop J by rw [List.map_drop, HP2.out.2.1])
      have HY := Lib.hid (show ∀ y ∈ l2.drop J, (y.m = [] ∨ ∀ a, y.q = some a → w1.heap.size ≤ a.block) ∧ Rd0 w2.drew y.q y.m ∧ y.m.length ≤ y.c from fun y hy => ⟨HP2.out.2.2 y (List.mem_of_mem_drop hy), (HP2.out.1.ok y (List.mem_of_mem_drop hy)).1.on (Below.refl _ _).drew, (HP2.out.1.ok y (List.mem_of_mem_drop hy)).2⟩)
      have HLN := Lib.hid (show l.length + (l2.drop J).length ≤ 1000000 by rw [List.length_drop]; have := HG.out.2.1; have := HG.out.2.2 (Nat.zero_le _); have := HM2.out; have := HZ.out; have := HL.out; omega)
      have HRD := Lib.hid (rd_fromE1 (HR2.out.1.grow (Below.refl _ _).drew) J d2 HR2.out.2)
      have HLY := Lib.hid (show l2.length - J = (l2.drop J).length by rw [List.length_drop])
      generalize l2.drop J = ys at *
      go_cut [] (fun wx => Hid (∃ v' l', Wk wx base d lb s O v' l' false ∧ l'.map (·.m) = l.map (·.m) ++ ps.drop J ∧ Fr w wx (OwnW O lb (.slice p l.length dd)) (OwnW O lb v')))
      case first =>
        go_region_law (refine step_plN rfl _ _ rfl base (.slice p l.length dd) l rfl (HW.out.on HDR.out).pl (fromE1 p2 d2 J) ys _ _ rfl HLY.out HRD.out (fun y hy => ⟨(HY.out y hy).2, fun g hg => (HY.out y hy).1.imp id (fun h b hb e => by have h1 := h b hb; have h2 := (HW.out.pl.own.lt g hg).2; have h3 := HB1.out.size; omega)⟩) HLN.out (Nat.le_trans (Nat.le_of_lt (Nat.lt_of_le_of_lt HW.out.hlb HW.out.bk.bk.lt)) HDR.out.size) ?_; intro p9 c9 w9 hp hg hv; have HP9 := Lib.hid hp; have HG9 := Lib.hid hg; have HV9 := Lib.hid hv; have q1 := (hg.cell_far ⟨lb, 1, none⟩ (by simpa using HLX.out) HNX.out).trans (((Below.refl w2.heap.size w2).drew.cell (p := ⟨lb, 1, none⟩) HLX.out).trans c1); have q2 := (hg.frozen_far ⟨lb, 1, none⟩ (by simpa using HLX.out) HNX.out).trans (((Below.refl w2.heap.size w2).drew.frozen (p := ⟨lb, 1, none⟩) HLX.out).trans s1); clear hp hg hv)
        all_goals
          have hF := (HW.out.on HDR.out).payed HG9.out HP9.out HV9.out (fun x hx => (List.mem_append.1 hx).imp id (fun h => (HY.out x h).1.imp id (fun h a ha => by
            have h1 := h a ha
            exact ⟨fun ho => by have h2 := (HW.out.dk.lt _ ho).1; have h3 := HB1.out.size; omega, fun e => by have h2 := HW.out.bk.bk.lt; have h3 := HB1.out.size; omega⟩)))
          have HF := Lib.hid (show ∃ v' l', Wk _ base d lb s O v' l' false ∧ l'.map (·.m) = l.map (·.m) ++ ps.drop J ∧ Fr w _ (OwnW O lb (.slice p l.length dd)) (OwnW O lb v') from ⟨_, _, hF.1, by rw [List.map_append, HPS.out], (Fr.of _ HDR.out).trans hF.2⟩)
          clear hF
          go_wp2_with fail
          go_meet
          exact HF
      obtain ⟨v', l', hq1, hmq, hq2⟩ := hcut.out
      have HQ := Lib.hid (And.intro hq1 hq2)
      have HMQ := Lib.hid hmq
      clear hcut hq1 hmq hq2 c1 s1 HLX HNX HY HR2 hsl
      go_upto_region 9 with fail
      by_cases hle : NB ≤ en
      · have hi : (NB : Int) ≤ (en : Int) := by omega
        have HT2 := Lib.hid (show takeS s (l.map (·.m)) = (⟨s, l.map (·.m) ++ ps.drop J, false⟩, 0) by rw [HT.out, if_pos hle])
        clear hle HT
        go_wp2_with fail
        go_ret
        rw [HT2.out]
        exact ⟨by rfl, _, _, _, HQ.out.1, HMQ.out, HQ.out.2⟩
      · have HT2 := Lib.hid (show takeS s (l.map (·.m)) = (⟨(cutS s logN (en : Int)).1, l.map (·.m) ++ ps.drop J, (cutS s logN (en : Int)).2 == 20⟩, (cutS s logN (en : Int)).2) by rw [HT.out, if_neg hle])
        have hi1 : ¬ ((NB : Int) ≤ (en : Int)) := by omega
        have hi2 : (en : Int) < (NB : Int) := by omega
        have c0 := HQ.out.1.bk.bk.cell 0 (.pointer (some ⟨d, 0, none⟩)) rfl
        clear hle HT
        go_upto_region 11 with fail
        go_wp2_with (first
          | (go_at_call 32; refine (cut_do base d lb s O _ _ wc HQ.out.1 (en : Int) (w7.alloc (.cells #[.func (.func 63) #[] #[ptrV b0, ptrV b1, ptrV b2]] 48)) (HB7.out.trans ((below1 _ _).mono HB7.out.size)) b0 b1 b2 B0 B1 B2 w7.heap.size _ 48 ⟨HK7.out.2.1, HK7.out.2.2.1, HK7.out.2.2.2, HB7.out.size⟩ (HK7.out.1.1.on (below1 _ _)) (HK7.out.1.2.1.on (below1 _ _)) (HK7.out.1.2.2.on (below1 _ _)) (Bk.new _ _ _)).mono ?_; rintro r w8 ⟨e8, rfl, rfl, O8, hw8, hf8⟩; have HD := Lib.hid (And.intro hw8 hf8); clear hw8 hf8)
          | (go_at_call 43; refine (withI_mk _ _ _ logB _ _).mono ?_; rintro r w7 ⟨b0, b1, b2, B0, B1, B2, rfl, hb0, hb1, hb2, kb0, kb1, kb2, hb⟩; have HB7 := Lib.hid hb; have HK7 := Lib.hid (And.intro (And.intro kb0 (And.intro kb1 kb2)) (And.intro hb0 (And.intro hb1 hb2))); clear hb0 hb1 hb2 kb0 kb1 kb2 hb))
        go_ret
        rw [HT2.out]
        exact ⟨by rfl, O8, _, _, HD.out.1, HMQ.out, HQ.out.2.trans HD.out.2⟩
    · rw [if_neg ht, if_neg ht] at HT
      have hc : (¬ (1 : Int) ≤ (f : Int)) ∨ ((1 : Int) ≤ (f : Int) ∧ ¬ (f : Int) ≤ (l.length : Int) + 1) ∨ ((1 : Int) ≤ (f : Int) ∧ (f : Int) ≤ (l.length : Int) + 1 ∧ ¬ (l.length : Int) ≤ (f : Int) + (l2.length : Int) - 1) := by
        simp only [takesB, Bool.and_eq_true, decide_eq_true_eq] at ht
        omega
      have HQ := Lib.hid (show Wk w2 base d lb s O (.slice p l.length dd) l false ∧ Fr w w2 (OwnW O lb (.slice p l.length dd)) (OwnW O lb (.slice p l.length dd)) from ⟨HW.out.on HB2.out, Fr.of _ HB2.out⟩)
      clear ht
      rcases hc with h1 | ⟨h1, h2⟩ | ⟨h1, h2, h3⟩
      · go_upto_region 9 with fail
        by_cases hle : NB = 0
        · have HT2 := Lib.hid (show takeS s (l.map (·.m)) = (⟨s, l.map (·.m), false⟩, 0) by rw [HT.out, if_pos (by omega)])
          subst hle
          clear HT
          go_wp2_with fail
          go_ret
          rw [HT2.out]
          exact ⟨by rfl, _, _, l, HQ.out.1, rfl, HQ.out.2⟩
        · have HT2 := Lib.hid (show takeS s (l.map (·.m)) = (⟨(cutS s logN 0).1, l.map (·.m), (cutS s logN 0).2 == 20⟩, (cutS s logN 0).2) by rw [HT.out, if_neg (by omega)]; rfl)
          have hi1 : ¬ ((NB : Int) ≤ 0) := by omega
          have hi2 : (0 : Int) < (NB : Int) := by omega
          have c0 := HQ.out.1.bk.bk.cell 0 (.pointer (some ⟨d, 0, none⟩)) rfl
          clear HT
          go_upto_region 11 with fail
          go_wp2_with (first
            | (go_at_call 32; refine (cut_do base d lb s O _ _ w2 HQ.out.1 0 (w7.alloc (.cells #[.func (.func 63) #[] #[ptrV b0, ptrV b1, ptrV b2]] 48)) (HB7.out.trans ((below1 _ _).mono HB7.out.size)) b0 b1 b2 B0 B1 B2 w7.heap.size _ 48 ⟨HK7.out.2.1, HK7.out.2.2.1, HK7.out.2.2.2, HB7.out.size⟩ (HK7.out.1.1.on (below1 _ _)) (HK7.out.1.2.1.on (below1 _ _)) (HK7.out.1.2.2.on (below1 _ _)) (Bk.new _ _ _)).mono ?_; rintro r w8 ⟨e8, rfl, rfl, O8, hw8, hf8⟩; have HD := Lib.hid (And.intro hw8 hf8); clear hw8 hf8)
            | (go_at_call 43; refine (withI_mk _ _ _ logB _ _).mono ?_; rintro r w7 ⟨b0, b1, b2, B0, B1, B2, rfl, hb0, hb1, hb2, kb0, kb1, kb2, hb⟩; have HB7 := Lib.hid hb; have HK7 := Lib.hid (And.intro (And.intro kb0 (And.intro kb1 kb2)) (And.intro hb0 (And.intro hb1 hb2))); clear hb0 hb1 hb2 kb0 kb1 kb2 hb))
          go_ret
          rw [HT2.out]
          exact ⟨by rfl, O8, _, _, HD.out.1, rfl, HQ.out.2.trans HD.out.2⟩
      · go_upto_region 9 with fail
        by_cases hle : NB = 0
        · have HT2 := Lib.hid (show takeS s (l.map (·.m)) = (⟨s, l.map (·.m), false⟩, 0) by rw [HT.out, if_pos (by omega)])
          subst hle
          clear HT
          go_wp2_with fail
          go_ret
          rw [HT2.out]
          exact ⟨by rfl, _, _, l, HQ.out.1, rfl, HQ.out.2⟩
        · have HT2 := Lib.hid (show takeS s (l.map (·.m)) = (⟨(cutS s logN 0).1, l.map (·.m), (cutS s logN 0).2 == 20⟩, (cutS s logN 0).2) by rw [HT.out, if_neg (by omega)]; rfl)
          have hi1 : ¬ ((NB : Int) ≤ 0) := by omega
          have hi2 : (0 : Int) < (NB : Int) := by omega
          have c0 := HQ.out.1.bk.bk.cell 0 (.pointer (some ⟨d, 0, none⟩)) rfl
          clear HT
          go_upto_region 11 with fail
          go_wp2_with (first
            | (go_at_call 32; refine (cut_do base d lb s O _ _ w2 HQ.out.1 0 (w7.alloc (.cells #[.func (.func 63) #[] #[ptrV b0, ptrV b1, ptrV b2]] 48)) (HB7.out.trans ((below1 _ _).mono HB7.out.size)) b0 b1 b2 B0 B1 B2 w7.heap.size _ 48 ⟨HK7.out.2.1, HK7.out.2.2.1, HK7.out.2.2.2, HB7.out.size⟩ (HK7.out.1.1.on (below1 _ _)) (HK7.out.1.2.1.on (below1 _ _)) (HK7.out.1.2.2.on (below1 _ _)) (Bk.new _ _ _)).mono ?_; rintro r w8 ⟨e8, rfl, rfl, O8, hw8, hf8⟩; have HD := Lib.hid (And.intro hw8 hf8); clear hw8 hf8)
            | (go_at_call 43; refine (withI_mk _ _ _ logB _ _).mono ?_; rintro r w7 ⟨b0, b1, b2, B0, B1, B2, rfl, hb0, hb1, hb2, kb0, kb1, kb2, hb⟩; have HB7 := Lib.hid hb; have HK7 := Lib.hid (And.intro (And.intro kb0 (And.intro kb1 kb2)) (And.intro hb0 (And.intro hb1 hb2))); clear hb0 hb1 hb2 kb0 kb1 kb2 hb))
          go_ret
          rw [HT2.out]
          exact ⟨by rfl, O8, _, _, HD.out.1, rfl, HQ.out.2.trans HD.out.2⟩
      · go_upto_region 9 with fail
        by_cases hle : NB = 0
        · have HT2 := Lib.hid (show takeS s (l.map (·.m)) = (⟨s, l.map (·.m), false⟩, 0) by rw [HT.out, if_pos (by omega)])
          subst hle
          clear HT
          go_wp2_with fail
          go_ret
          rw [HT2.out]
          exact ⟨by rfl, _, _, l, HQ.out.1, rfl, HQ.out.2⟩
        · have HT2 := Lib.hid (show takeS s (l.map (·.m)) = (⟨(cutS s logN 0).1, l.map (·.m), (cutS s logN 0).2 == 20⟩, (cutS s logN 0).2) by rw [HT.out, if_neg (by omega)]; rfl)
          have hi1 : ¬ ((NB : Int) ≤ 0) := by omega
          have hi2 : (0 : Int) < (NB : Int) := by omega
          have c0 := HQ.out.1.bk.bk.cell 0 (.pointer (some ⟨d, 0, none⟩)) rfl
          clear HT
          go_upto_region 11 with fail
          go_wp2_with (first
            | (go_at_call 32; refine (cut_do base d lb s O _ _ w2 HQ.out.1 0 (w7.alloc (.cells #[.func (.func 63) #[] #[ptrV b0, ptrV b1, ptrV b2]] 48)) (HB7.out.trans ((below1 _ _).mono HB7.out.size)) b0 b1 b2 B0 B1 B2 w7.heap.size _ 48 ⟨HK7.out.2.1, HK7.out.2.2.1, HK7.out.2.2.2, HB7.out.size⟩ (HK7.out.1.1.on (below1 _ _)) (HK7.out.1.2.1.on (below1 _ _)) (HK7.out.1.2.2.on (below1 _ _)) (Bk.new _ _ _)).mono ?_; rintro r w8 ⟨e8, rfl, rfl, O8, hw8, hf8⟩; have HD := Lib.hid (And.intro hw8 hf8); clear hw8 hf8)
            | (go_at_call 43; refine (withI_mk _ _ _ logB _ _).mono ?_; rintro r w7 ⟨b0, b1, b2, B0, B1, B2, rfl, hb0, hb1, hb2, kb0, kb1, kb2, hb⟩; have HB7 := Lib.hid hb; have HK7 := Lib.hid (And.intro (And.intro kb0 (And.intro kb1 kb2)) (And.intro hb0 (And.intro hb1 hb2))); clear hb0 hb1 hb2 kb0 kb1 kb2 hb))
          go_ret
          rw [HT2.out]
          exact ⟨by rfl, O8, _, _, HD.out.1, rfl, HQ.out.2.trans HD.out.2⟩
end
section
set_option linter.unusedVariables false
set_option linter.unusedSimpArgs false
open Go.Maps Go.RowKit

theorem cal_takeSnap : Cal Tryd.prog 36 := cal_of Tryd.func36 (by kernel_rfl) (by kernel_rfl)
theorem cal_takeLog : Cal Tryd.prog 37 := cal_of Tryd.func37 (by kernel_rfl) (by kernel_rfl)
theorem AfterW.trans {a b c : World} {base d lb : Nat} {O O' : Nat → Prop} {v v' : Value} {s : LS} (hf : Fr a b (OwnW O lb v) (OwnW O' lb v')) (h : AfterW c b base d lb O' v' s) : AfterW c a base d lb O v s := by
  obtain ⟨O2, v2, l2, h1, h2, h3⟩ := h
  exact ⟨O2, v2, l2, h1, h2, hf.trans h3⟩
/-- an end with an error: the disk is as it says -/
def OpenJ (w0 : World) (base d lb : Nat) (s : DS) (O : Nat → Prop) (e : Int) (X : World) : Prop := (wOpenS s).2 = e ∧ ∃ ls', AfterW X w0 base d lb O (.slice none 0 0) ls' ∧ ls'.d = (wOpenS s).1.d
theorem snapS_len (s : DS) : 17 * (snapS s).length ≤ (fileS s snapN).1.length := by
  have h := scanG_first (fileS s snapN).1 (fileS s snapN).1.length 0 0 [] (by omega) (by omega) (by simp)
  unfold snapS
  simp only
  split
  · have := h.2.1; have := h.2.2 (Nat.zero_le _); omega
  · simp
theorem wopen_do (base d lb : Nat) (s : DS) (O : Nat → Prop) (w0 : World) (hw : Wk w0 base d lb s O (.slice none 0 0) [] false) (hE : Env w0) (hE0 : 0 + 1 + 1 ≤ base) (X : World) (hX : Below w0.heap.size w0 X) (b0 b1 f0 T0 T1 F0 ab ca T : Nat) (lo : w0.heap.size ≤ b0 ∧ w0.heap.size ≤ b1 ∧ w0.heap.size ≤ f0 ∧ w0.heap.size ≤ ab)
    (k0 : Bk X b0 T0 #[fnV 35 d]) (k1 : Bk X b1 T1 #[.string nextB]) (k2 : Bk X f0 F0 #[.func (.func 53) #[] #[ptrV b0, ptrV b1]])
    (k3 : Bk X ab T #[.func (.func 52) #[] #[ptrV f0], .func (.func 36) #[ptrV lb] #[], .func (.func 37) #[ptrV lb] #[]])
    (hz1 : (fileS (remS s nextN).1 snapN).1.length ≤ 1500000) (hz2 : (fileS (remS s nextN).1 logN).1.length ≤ 1500000) :
    Calls Tryd.prog 32 #[.pointer (some ⟨lb, 0, none⟩), .slice (some ⟨ab, 0, none⟩) 3 ca] X fun r w' => ∃ e, r = .returned (.int .i64 e) ∧ (wOpenS s).2 = e ∧
      ((e = 0 ∧ AfterW w' w0 base d lb O (.slice none 0 0) (wOpenS s).1) ∨ (e ≠ 0 ∧ OpenJ w0 base d lb s O e w')) := by
  have hno : ∀ b, w0.heap.size ≤ b → ¬ O b := fun b hb e => by have := (hw.dk.lt b e).1; omega
  obtain ⟨acts, hacts⟩ : ∃ acts : Array Value, acts = #[.func (.func 52) #[] #[ptrV f0], .func (.func 36) #[ptrV lb] #[], .func (.func 37) #[ptrV lb] #[]] := ⟨_, rfl⟩
  rw [← hacts] at k3
  obtain ⟨ks, hks⟩ : ∃ ks : List (Nat × TypeId × Array Value), ks = [(b0, T0, #[fnV 35 d]), (b1, T1, #[.string nextB]), (f0, F0, #[.func (.func 53) #[] #[ptrV b0, ptrV b1]]), (ab, T, acts)] := ⟨_, rfl⟩
  have hC : Cx w0 base d lb O (.slice none 0 0) [] ks [] false X s := by
    refine ⟨⟨O, hw.on hX, Fr.of _ hX, ?_, fun y hy => by cases hy⟩⟩
    intro x hx
    rw [hks] at hx
    simp only [List.mem_cons, List.not_mem_nil, or_false] at hx
    rcases hx with rfl | rfl | rfl | rfl
    · exact ⟨k0, hno _ lo.1⟩
    · exact ⟨k1, hno _ lo.2.1⟩
    · exact ⟨k2, hno _ lo.2.2.1⟩
    · exact ⟨k3, hno _ lo.2.2.2⟩
  have m0 : (b0, T0, #[fnV 35 d]) ∈ ks := by rw [hks]; simp
  have m1 : (b1, T1, #[.string nextB]) ∈ ks := by rw [hks]; simp
  have m2 : (f0, F0, #[.func (.func 53) #[] #[ptrV b0, ptrV b1]]) ∈ ks := by rw [hks]; simp
  have m3 : (ab, T, acts) ∈ ks := by rw [hks]; simp
  have hab : ab ≠ lb := by have := hw.bk.bk.lt; omega
  have HO := Lib.hid (show wOpenS s = (if thereE (remS s nextN).2 ≠ 0 then (⟨(remS s nextN).1, [], thereE (remS s nextN).2 == 20⟩, thereE (remS s nextN).2) else if (fileS (remS s nextN).1 snapN).2 ≠ 0 then (⟨(remS s nextN).1, snapS (remS s nextN).1, (fileS (remS s nextN).1 snapN).2 == 20⟩, (fileS (remS s nextN).1 snapN).2) else takeS (remS s nextN).1 (snapS (remS s nextN).1)) from rfl)
  obtain ⟨A, hA⟩ : ∃ A, A = remS s nextN := ⟨_, rfl⟩
  rw [← hA] at hz1 hz2 HO
  have hsl := snapS_len A.1
  refine (do_any lb ab 0 ca 3 (by omega) (fun i => match i with | 0 => 52 | 1 => 36 | _ => 37) (fun i => match i with | 0 => #[] | _ => #[ptrV lb]) (fun i => match i with | 0 => #[ptrV f0] | _ => #[]) 70
    (fun i Y => match i with
      | 0 => Cx w0 base d lb O (.slice none 0 0) [] ks [] false Y s
      | 1 => thereE A.2 = 0 ∧ Cx w0 base d lb O (.slice none 0 0) [] ks [] false Y A.1
      | 2 => thereE A.2 = 0 ∧ (fileS A.1 snapN).2 = 0 ∧ ∃ O' v' l', Wk Y base d lb A.1 O' v' l' false ∧ l'.map (·.m) = snapS A.1 ∧ Fr w0 Y (OwnW O lb (.slice none 0 0)) (OwnW O' lb v') ∧ Kc Y (OwnW O' lb v') ab T acts
      | _ => (wOpenS s).2 = 0 ∧ AfterW Y w0 base d lb O (.slice none 0 0) (wOpenS s).1)
    (OpenJ w0 base d lb s O) ?_ ?_ ?_ X hC).mono ?_
  · intro i hi
    match i, hi with
    | 0, _ => exact cal_ifThere
    | 1, _ => exact cal_takeSnap
    | 2, _ => exact cal_takeLog
  · intro i Y hI hi
    rw [Nat.zero_add]
    match i, hi with
    | 0, _ => exact Cx.cell hI ab T acts m3 0 _ (by rw [hacts]; rfl)
    | 1, _ => exact Cx.cell hI.2 ab T acts m3 1 _ (by rw [hacts]; rfl)
    | 2, _ =>
      obtain ⟨_, _, O', v', l', _, _, _, hk⟩ := hI
      exact hk.bk.cell 2 _ (by rw [hacts]; rfl)
  · intro i Y hI hi
    match i, hi with
    | 0, _ =>
      have hI' : Cx w0 base d lb O (.slice none 0 0) [] ks [] false Y s := hI
      refine (hI'.ifThere f0 F0 53 #[] #[ptrV b0, ptrV b1] cal_on m2 A.2 A.1 (by rw [hA]; exact hI'.remove b0 b1 T0 T1 nextB (by decide) m0 m1)).mono ?_
      rintro r Y' ⟨e, rfl, rfl, hY⟩
      refine ⟨_, rfl, ?_⟩
      by_cases h : thereE A.2 = 0
      · exact .inl ⟨h, h, hY⟩
      · obtain ⟨O', h1, h2⟩ := hY.down (false || thereE A.2 == 20)
        obtain ⟨O3, h3, _, _⟩ := hY.ex
        refine .inr ⟨h, _, _, _, h3.bk.bk, ?_, ⟨A.1, [], false || thereE A.2 == 20⟩, ⟨O', _, [], h1, rfl, h2⟩, ?_⟩
        · rw [HO.out, if_pos h]
        · rw [HO.out, if_pos h]
    | 1, _ =>
      obtain ⟨ht, hI'⟩ := hI
      obtain ⟨O', h1, h2, h3⟩ := hI'.ex
      have hkc := h3.1 _ m3
      have hEY : Env Y := hE.on (h2.below (fun b hb => (hw.low b hb).2) (by have := hw.bk.bk.lt; have := hw.hlb; omega)) hE0
      · refine (takeSnap_any base d lb A.1 O' Y h1 hEY (by omega)).mono ?_
        rintro r Y' ⟨rfl, v', l', g1, g2, g3⟩
        refine ⟨_, rfl, ?_⟩
        by_cases h : (fileS A.1 snapN).2 = 0
        · refine .inl ⟨h, ht, h, O', v', l', g1, g2, h2.trans g3, Kc.fr ⟨hkc.bk, ?_⟩ g3⟩
          rintro (e | e | e)
          · exact hkc.no e
          · exact hab e
          · cases e
        · refine .inr ⟨h, _, _, _, g1.bk.bk, ?_, ⟨A.1, snapS A.1, false || (fileS A.1 snapN).2 == 20⟩, ⟨O', v', l', g1.setDown _, g2, (h2.trans g3).trans (g1.frDown 2 _)⟩, ?_⟩
          · rw [HO.out, if_neg (by rw [ht]; simp), if_pos h]
          · rw [HO.out, if_neg (by rw [ht]; simp), if_pos h]
    | 2, _ =>
      obtain ⟨ht, hs, O', v', l', g1, g2, g3, g4⟩ := hI
      have hEY : Env Y := hE.on (g3.below (fun b hb => (hw.low b hb).2) (by have := hw.bk.bk.lt; have := hw.hlb; omega)) hE0
      have hll : l'.length ≤ 100000 := by
        have : l'.length = (snapS A.1).length := by rw [← g2, List.length_map]
        omega
      refine (takeLog_any base d lb A.1 O' v' l' Y g1 hEY hll hz2).mono ?_
      rw [g2]
      rintro r Y' ⟨rfl, ha⟩
      have hO : wOpenS s = takeS A.1 (snapS A.1) := by rw [HO.out, if_neg (by rw [ht]; simp), if_neg (by rw [hs]; simp)]
      have ha' := AfterW.trans g3 ha
      rw [← hO] at ha' ⊢
      refine ⟨_, rfl, ?_⟩
      by_cases h : (wOpenS s).2 = 0
      · exact .inl ⟨h, h, ha'⟩
      · obtain ⟨O2, v2, l2, q1, q2, q3⟩ := ha'
        exact .inr ⟨h, _, _, _, q1.bk.bk, rfl, ⟨(wOpenS s).1.d, (wOpenS s).1.ps, (wOpenS s).1.dn || (wOpenS s).2 == 20⟩, ⟨O2, v2, l2, q1.setDown _, q2, q3.trans (q1.frDown 2 _)⟩, rfl⟩
  · rintro r w' ⟨e, rfl, ⟨rfl, h1, h2⟩ | ⟨h1, h2⟩⟩
    · exact ⟨0, rfl, h1, .inl ⟨rfl, h2⟩⟩
    · exact ⟨e, rfl, h2.1, .inr ⟨h1, h2⟩⟩
end
section
set_option linter.unusedVariables false
set_option linter.unusedSimpArgs false
open Go.Maps Go.RowKit

theorem wk_new {w : World} {base d : Nat} {s : DS} {O : Nat → Prop} (h : Dk w base d s O) (hb : base ≤ w.heap.size) : Wk (w.alloc (.cells (logCells d (.slice none 0 0) false) 70)) base d w.heap.size s O (.slice none 0 0) [] false :=
  ⟨h.on_ (below1 _ _), ⟨Bk.new _ _ _, fun e => by have := (h.lt _ e).1; omega⟩, pl_nil _ _, hb, (fun g hg => by cases hg), (fun x hx => by cases hx)⟩
/-- behind Open -/
def OpnW (w w' : World) (base d : Nat) (s : DS) (O : Nat → Prop) (r : Ending) : Prop :=
  ((wOpenS s).2 = 0 ∧ ∃ lb O' v' l', r = .returned (.tuple #[.pointer (some ⟨lb, 0, none⟩), .int .i64 0]) ∧ Wk w' base d lb (wOpenS s).1.d O' v' l' (wOpenS s).1.dn ∧ l'.map (·.m) = (wOpenS s).1.ps ∧ Fr w w' O (OwnW O' lb v')) ∨
  ((wOpenS s).2 ≠ 0 ∧ r = .returned (.tuple #[.pointer none, .int .i64 (wOpenS s).2]) ∧ ∃ O', Dk w' base d (wOpenS s).1.d O' ∧ Fr w w' O O')
theorem fr_new {w w0 w' : World} {lb : Nat} {O O' : Nat → Prop} (hb : Below w.heap.size w w0) (hl : w.heap.size ≤ lb) (hf : Fr w0 w' (OwnW O lb (.slice none 0 0)) O') : Fr w w' O O' := by
  refine ⟨hf.os.trans hb.os, hf.tape.trans hb.tape, hf.output.trans hb.output, Nat.le_trans hb.size hf.size, fun b h1 h2 => (hf.block b (Nat.lt_of_lt_of_le h1 hb.size) ?_).trans (hb.block b h1), fun b h => ?_⟩
  · rintro (e | e | e)
    · exact h2 e
    · omega
    · cases e
  · rcases hf.own b h with (e | e | e) | e
    · exact .inl e
    · exact .inr (by omega)
    · cases e
    · exact .inr (Nat.le_trans hb.size e)
theorem open_end {w w0 w3 : World} {base d lb : Nat} {s : DS} {O : Nat → Prop} {e : Int} (hb : Below w.heap.size w w0) (hl : w.heap.size ≤ lb) (he : (wOpenS s).2 = e) (h : (e = 0 ∧ AfterW w3 w0 base d lb O (.slice none 0 0) (wOpenS s).1) ∨ (e ≠ 0 ∧ OpenJ w0 base d lb s O e w3)) :
    (e = 0 ∧ OpnW w w3 base d s O (.returned (.tuple #[.pointer (some ⟨lb, 0, none⟩), .int .i64 0]))) ∨ (e ≠ 0 ∧ OpnW w w3 base d s O (.returned (.tuple #[.pointer none, .int .i64 e]))) := by
  rcases h with ⟨rfl, O', v', l', q1, q2, q3⟩ | ⟨h0, _, ls, ⟨O', v', l', q1, q2, q3⟩, hd⟩
  · exact .inl ⟨rfl, .inl ⟨he, lb, O', v', l', rfl, q1, q2, fr_new hb hl q3⟩⟩
  · refine .inr ⟨h0, .inr ⟨by rw [he]; exact h0, by rw [he], O', by rw [← hd]; exact q1.dk, (fr_new hb hl q3).sub (fun b hb => .inl (.inl hb))⟩⟩
set_option maxRecDepth 100000 in
set_option maxHeartbeats 4000000 in
theorem wopen_any (base d : Nat) (s : DS) (O : Nat → Prop) (w : World) (hD : Dk w base d s O) (hb : base ≤ w.heap.size) (hE : Env w) (hE0 : 0 + 1 + 1 ≤ base) (hz1 : (fileS (remS s nextN).1 snapN).1.length ≤ 1500000) (hz2 : (fileS (remS s nextN).1 logN).1.length ≤ 1500000) :
    Calls Tryd.prog 16 #[.pointer (some ⟨d, 0, none⟩)] w fun r w' => OpnW w w' base d s O r := by
  have HW0 := Lib.hid (wk_new hD hb)
  have HB0 := Lib.hid (below1 w (.cells (logCells d (.slice none 0 0) false) 70))
  have HE := Lib.hid (hE.on HB0.out hE.size)
  have HE0 := Lib.hid hE0
  have HZ := Lib.hid (And.intro hz1 hz2)
  clear hD hb hE hE0 hz1 hz2
  go_enter Tryd.func16, Tryd.ntmps16
  go_upto_region 2 with fail
  generalize w.alloc (.cells #[.pointer (some ⟨d, 0, none⟩), .slice none 0 0, .bool false] 70) = w0 at *
  have HLB := Lib.hid (show w.heap.size ≤ w.heap.size from Nat.le_refl _)
  have HBA := Lib.hid (show Below w.heap.size w w0 from HB0.out)
  clear HB0
  obtain ⟨lb, hlb⟩ : ∃ lb, lb = w.heap.size := ⟨_, rfl⟩
  have HLL := Lib.hid (show w.heap.size ≤ lb by omega)
  rw [← hlb] at HW0 ⊢
  clear hlb HLB
  go_upto_region 3 with (first
    | (go_at_call 32; refine (wopen_do base d lb s O w0 HW0.out HE.out HE0.out (w2.alloc (.cells #[.func (.func 52) #[] #[ptrV f0], .func (.func 36) #[ptrV lb] #[], .func (.func 37) #[ptrV lb] #[]] 48)) (HB2.out.trans ((below1 _ _).mono HB2.out.size)) b0 b1 f0 T0 T1 F0 w2.heap.size _ 48 ⟨HK1.out.2.1, HK1.out.2.2, HK2.out.2, HB2.out.size⟩ ((HK1.out.1.1.on HN2.out).on (below1 _ _)) ((HK1.out.1.2.on HN2.out).on (below1 _ _)) (HK2.out.1.on (below1 _ _)) (Bk.new _ _ _) HZ.out.1 HZ.out.2).mono ?_; rintro r w3 ⟨e, rfl, he, h3⟩; have HD := Lib.hid (And.intro he h3); clear he h3)
    | (go_at_call 33; refine (ifThere_mk _ _ _ _).mono ?_; rintro r w2 ⟨f0, F0, rfl, hf0, kf0, hb⟩; have HN2 := Lib.hid hb; have HB2 := Lib.hid (HB1.out.trans (hb.mono HB1.out.size)); have HK2 := Lib.hid (And.intro kf0 (show w0.heap.size ≤ f0 from Nat.le_trans HB1.out.size hf0)); clear hf0 kf0 hb)
    | (go_at_call 34; refine (on_mk _ _ _ nextB _).mono ?_; rintro r w1 ⟨b0, b1, T0, T1, rfl, hb0, hb1, kb0, kb1, hb⟩; have HB1 := Lib.hid hb; have HK1 := Lib.hid (And.intro (And.intro kb0 kb1) (And.intro hb0 hb1)); clear hb0 hb1 kb0 kb1 hb))
  have HP := Lib.hid (open_end HBA.out HLL.out HD.out.1 HD.out.2)
  have HEE := Lib.hid HD.out.1
  clear HD
  rcases HP.out with ⟨rfl, h3⟩ | ⟨h0, h3⟩
  · have HF := Lib.hid h3
    clear h3 HP
    go_wp2_with fail
    refine bodyPost_ret (results_tmp2 rfl _ _ _) rfl ?_
    exact HF.out
  · have z0 : (e != 0) = true := by simpa [bne_iff_ne] using h0
    have HF := Lib.hid h3
    clear h3 HP h0
    go_wp2_with fail
    refine bodyPost_ret (results_tmp2 rfl _ _ _) rfl ?_
    exact HF.out
set_option maxRecDepth 100000 in
theorem wlen_any (base d lb : Nat) (s : DS) (O : Nat → Prop) (v : Value) (l : List SlA) (dn : Bool) (w : World) (h : Wk w base d lb s O v l dn) :
    Calls Tryd.prog 23 #[.pointer (some ⟨lb, 0, none⟩)] w fun r w' => r = .returned (.int .i64 (l.length : Int)) ∧ w = w' := by
  obtain ⟨p, dd, rfl, hd⟩ := h.pl.form
  have c1 := h.bk.bk.cell 1 (.slice p l.length dd) rfl
  clear h hd
  go_enter Tryd.func23, Tryd.ntmps23
  go_wp2_with fail
  go_ret
  exact ⟨by rfl, rfl⟩
set_option maxRecDepth 100000 in
set_option maxHeartbeats 4000000 in
theorem wall_any (base d lb : Nat) (s : DS) (O : Nat → Prop) (v : Value) (l : List SlA) (dn : Bool) (w : World) (h : Wk w base d lb s O v l dn) (hl : l.length ≤ 1000000) (hz : ∀ x ∈ l, x.m.length ≤ 1000000000) :
    Calls Tryd.prog 21 #[.pointer (some ⟨lb, 0, none⟩)] w fun r w' => ∃ v' l', r = .returned v' ∧ Pl w' w.heap.size v' l' ∧ l'.map (·.m) = l.map (·.m) ∧ Below w.heap.size w w' := by
  have HW := Lib.hid h
  have HL := Lib.hid hl
  have HZ := Lib.hid hz
  obtain ⟨p, dd, rfl, hd⟩ := h.pl.form
  have c1 := h.bk.bk.cell 1 (.slice p l.length dd) rfl
  clear h hd hl hz
  go_enter Tryd.func21, Tryd.ntmps21
  go_wp2_with fail
  go_loopw [3, 13] (fun a i wr => ∃ (k : Nat) (l2 : List SlA), k ≤ l.length ∧ i = .int .i64 (k : Int) ∧ Hid (Pl wr w.heap.size a l2 ∧ l2.map (·.m) = (l.map (·.m)).take k ∧ Below w.heap.size w wr)) (fun _ i _ => l.length - (intOf i).toNat)
  case atStart => exact ⟨0, [], Nat.zero_le _, rfl, Lib.hid ⟨pl_nil _ _, by simp, Below.refl _ _⟩⟩
  case round =>
    obtain ⟨k, l2, hk, rfl, HI⟩ := hrel
    have k0 : (0 : Int) ≤ (k : Int) := by omega
    by_cases hlt : k < l.length
    · have k1 : (k : Int) < (l.length : Int) := by omega
      have k6 : IntKind.i64.wrap ((k : Int) + 1) = ((k + 1 : Nat) : Int) := by rw [IntWalk.i64_in _ (by have := HL.out; omega)]; simp
      have hWr := HW.out.on HI.out.2.2
      obtain ⟨g, cap, he, hge, hgl⟩ := hWr.pl.own.form (by omega)
      cases he
      have hcell : wr.cell? ⟨g, k, none⟩ = some (.slice l[k].q l[k].m.length l[k].c) := by
        have := hWr.pl.own.cells (g := g) rfl k (.slice l[k].q l[k].m.length l[k].c) (by have h := flatE_get ESx l k hlt 0 (by decide); simpa [encS] using h)
        rwa [Addr.add_mid, Nat.zero_add] at this
      obtain ⟨hx1, hx2⟩ := hWr.pl.ok l[k] (List.getElem_mem hlt)
      have HT := Lib.hid (show (l.map (·.m)).take (k + 1) = (l.map (·.m)).take k ++ [l[k].m] by rw [List.take_succ_eq_append_getElem (by simpa using hlt)]; simp)
      have HX := Lib.hid (And.intro (And.intro hx1 hx2) (HZ.out l[k] (List.getElem_mem hlt)))
      have HLN := Lib.hid (show l2.length = k by have := congrArg List.length HI.out.2.1; rw [List.length_map, List.length_take, List.length_map, Nat.min_eq_left (Nat.le_of_lt hlt)] at this; exact this)
      generalize l[k] = x at *
      clear hWr hx1 hx2 c1
      go_wp2_with (first
        | (refine wpList_pl rfl _ _ rfl w.heap.size _ l2 rfl (HI.out.1.on (HB3.out.trans ((below1 w3 _).mono HB3.out.size))) ⟨q3, c3, x.m⟩ w3.heap.size 1 1 rfl rfl ((Bk.new w3 22 #[.slice q3 x.m.length c3]).cell 0 _ rfl) (HR3.out.1.on (below1 _ _)) HR3.out.2.1 (fun g hg => HR3.out.2.2.imp id (fun h b hb e => by have h1 := h b hb; have h2 := (HI.out.1.own.lt g hg).2; omega)) (by have := HLN.out; have := HL.out; omega) (by have h1 := HI.out.2.2.size; have h2 := HB3.out.size; simp only [World.size_alloc]; omega) ?_; intro v4 w4 hP4 hb4; have HP4 := Lib.hid hP4; have HB4 := Lib.hid (HI.out.2.2.trans ((HB3.out.mono HI.out.2.2.size).trans (((below1 w3 _).mono (Nat.le_trans HI.out.2.2.size HB3.out.size)).trans hb4))); clear hP4 hb4)
        | (go_at_call 30; refine (cloneX _ _ _ x.m rfl _ HX.out.1.1 HX.out.2).mono ?_; rintro r w3 ⟨v3, rfl, hA3, hb3⟩; obtain ⟨q3, c3, rfl, hd3, hr3⟩ := hA3.rd; have HB3 := Lib.hid hb3; have HR3 := Lib.hid (And.intro hr3 (And.intro hd3 (acc_off hA3))); clear hA3 hb3 hd3 hr3))
      go_roundw
      case rel => exact ⟨k + 1, _, by omega, by go_num, Lib.hid ⟨HP4.out, by rw [List.map_append, HI.out.2.1, HT.out]; rfl, HB4.out⟩⟩
      case measure => simp [intOf]; try omega
    · obtain rfl : k = l.length := by omega
      obtain ⟨wq, rfl⟩ : ∃ wq : World, wq = wr := ⟨_, rfl⟩
      have HF := Lib.hid (show Pl wq w.heap.size u3 l2 ∧ l2.map (·.m) = l.map (·.m) ∧ Below w.heap.size w wq from ⟨HI.out.1, by rw [HI.out.2.1, List.take_of_length_le (by simp)], HI.out.2.2⟩)
      clear HI c1
      go_wp2_with fail
      go_ret
      exact ⟨_, rfl, l2, HF.out⟩
end
end Go.Proofs.YtooiaadnhglifaaDoor
