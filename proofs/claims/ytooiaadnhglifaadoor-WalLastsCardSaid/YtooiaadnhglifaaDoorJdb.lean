/-
  Dap, Dac, Dcl, Dop, Dct, Drd, Dcr, joined.
-/
import Derived.Test.YtooiaadnhglifaaDoorJda
import Derived.Test.YtooiaadnhglifaaDoorWsh
import Derived.Maps.RangeWalk
import Derived.Sort.KeysCollected
namespace Go.Proofs.YtooiaadnhglifaaDoor
section
set_option linter.unusedVariables false
set_option linter.unusedSimpArgs false
open Go.Maps Go.RowKit

/-- bytes are appended to a file's bytes: of what was there its row alone turns -/
theorem run_appF (w : World) (base : Nat) (v : Value) (xs : List UInt8) (hA : Fb w base v xs) (q : Option Addr) (m : List UInt8) (n c : Nat) (hn : n = m.length) (hR : Rd0 w q m) (hz : xs.length + m.length ≤ 100000000000000) (hbase : base ≤ w.heap.size) :
    ∃ v' w', (Builtin.append_ #[22, 22] 22 #[v, .slice q n c]).run Tryd.prog w = .ok v' w' ∧ Fb w' base v' (xs ++ m) ∧ w.grownBy w' v.ownBlock ∧ ∀ b, v'.ownBlock = some b → v.ownBlock = some b ∨ w.heap.size ≤ b := by
  subst hn
  obtain ⟨i, hi, hz0, hz1, hz2⟩ := info_parts info8
  have hzero : ∀ q, m = [] → ∃ v' w', (Builtin.append_ #[22, 22] 22 #[v, .slice q m.length c]).run Tryd.prog w = .ok v' w' ∧ Fb w' base v' (xs ++ m) ∧ w.grownBy w' v.ownBlock ∧ ∀ b, v'.ownBlock = some b → v.ownBlock = some b ∨ w.heap.size ≤ b := by
    intro q h0
    subst h0
    obtain ⟨⟨p, d, hv, hd⟩, hg⟩ := id hA
    rw [hv]
    refine ⟨_, w, run_append_zero w _ _ 5 i Tryd.underlying22 hi p q _ d c hd, ?_, ⟨rfl, rfl, rfl, Nat.le_refl _, fun _ _ _ => rfl⟩, fun b hb => .inl hb⟩
    rw [← hv, List.append_nil]; exact hA
  rcases hR with h0 | ⟨b, off, rfl, hbl, hc⟩
  · exact hzero q h0
  · by_cases h0 : m = []
    · exact hzero _ h0
    · have hpos : 0 < m.length := List.length_pos_iff.2 h0
      obtain ⟨g, cap, w', hr, how, hg, hat, hlt⟩ := run_append_lies (P := Tryd.prog) (w := w) 22 22 base 5 i _ 1 1 Tryd.underlying22 hi hz0 hz1 hz2 rfl (by decide) v xs.length (cells8 xs) hA.2 ⟨b, off, none⟩ m.length c (cells8 m) (by rw [cells8_len, Nat.mul_one]) (fun j u hu => by rw [Addr.add_mid]; exact hc j u hu) (by intro u hu; obtain ⟨x, _, rfl⟩ := List.mem_map.1 hu; rfl) hpos (by unfold maxLen; omega) (by omega) hbase w.heap.size rfl
      refine ⟨_, w', hr, ⟨⟨_, cap, by rw [List.length_append], ?_⟩, ?_⟩, hg, fun b' hb' => ?_⟩
      · rcases how.2 with ⟨h, _⟩ | ⟨_, _, _, h1, _, _, h2, _⟩
        · cases h
        · cases h1; rw [List.length_append]; exact h2
      · have e : cells8 (xs ++ m) = cells8 xs ++ cells8 m := by simp [cells8]
        rw [List.length_append, e]; exact how
      · obtain rfl : g = b' := by simpa [Value.ownBlock] using hb'
        rcases hat with h | h
        · exact .inl h
        · exact .inr (by omega)
theorem step_appF {w : World} {ops : Array Oper} {o : Oper} {a : Act} {K : Act → World → Prop} {Q : Exit → Act → World → Prop} {E : Prop} (hgd : o.guard = none) (s x : Operand)
    (ho : o.op = .call { callee := .builtin .append, args := #[s, x], argTypes := #[22, 22] }) (hty : o.type = 22)
    (base : Nat) (v : Value) (xs : List UInt8) (hs : a.eval s = v) (hA : Fb w base v xs) (q : Option Addr) (m : List UInt8) (n c : Nat) (hx : a.eval x = .slice q n c) (hn : n = m.length) (hR : Rd0 w q m) (hz : xs.length + m.length ≤ 100000000000000) (hbase : base ≤ w.heap.size)
    (h : ∀ v' w', Fb w' base v' (xs ++ m) → w.grownBy w' v.ownBlock → (∀ b, v'.ownBlock = some b → v.ownBlock = some b ∨ w.heap.size ≤ b) → K (a.put o.dst v') w') :
    if Region.wanted o (yielded ops a.tmps) = true then Oper.wp Tryd.prog o a w K Q else E := by
  obtain ⟨v', w', hr, h1, h2, h3⟩ := run_appF w base v xs hA q m n c hn hR hz hbase
  have hw : Region.wanted o (yielded ops a.tmps) = true := by simp [Region.wanted, hgd]
  rw [if_pos hw]
  unfold Oper.wp execOp
  simp only [ho, hty, resolve, invoke, builtin, Sem.run_bind, Sem.run_pure, Result.andThen_ok, List.map_toArray, List.map_cons, List.map_nil, hs, hx, hr]
  exact h v' w' h1 h2 h3
theorem Rd0.fr {w w' : World} {q : Option Addr} {m : List UInt8} {O O' : Nat → Prop} (h : Rd0 w q m) (hq : ∀ a, q = some a → m = [] ∨ ¬ O a.block) (hf : Fr w w' O O') : Rd0 w' q m := by
  rcases h with h | ⟨b, off, rfl, h2, h3⟩
  · exact .inl h
  · rcases hq _ rfl with h0 | h0
    · exact .inl h0
    · exact .inr ⟨b, off, rfl, Nat.lt_of_lt_of_le h2 hf.size, fun i v hv => by rw [World.cell?_of_block (w := w) (hf.block b h2 h0)]; exact h3 i v hv⟩
theorem bytesOf_list (s : ByteArray) : bytesOf s.data.toList = s := by cases s; rfl
theorem Only.fr {d : Nat} {w w' : World} {O : Nat → Prop} (h : Only d w w') (hd : O d) : Fr w w' O O := ⟨h.os, h.tape, h.output, h.size, fun b hb hn => h.block b hb (fun e => hn (e ▸ hd)), fun _ h => .inl h⟩

/-- what Append leaves, by the list of files -/
def AppR (w w' : World) (base d mb : Nat) (l : List Fil) (on : Bool) (left : Int) (nm m : List UInt8) (e : Int) : Prop :=
  ∃ l' on' left', appS ⟨l.map absF, on, left⟩ nm m = (⟨l'.map absF, on', left'⟩, e) ∧ Dl w' base d mb l' on' left' ∧ Fr w w' (OwnD d mb l) (OwnD d mb l')

set_option maxRecDepth 100000 in
theorem append_off (base d mb : Nat) (l : List Fil) (left : Int) (nm : ByteArray) (hs : nm.size ≤ maxLen) (q : Option Addr) (m : List UInt8) (n c : Nat) (w : World) (h : Dl w base d mb l false left) :
    Calls Tryd.prog 39 #[.pointer (some ⟨d, 0, none⟩), .string nm, .slice q n c] w fun r w' => r = .returned (.int .i64 20) ∧ AppR w w' base d mb l false left nm.data.toList m 20 := by
  have HD := Lib.hid h
  have HF := Lib.hid (find_any base d mb l false left nm hs w h)
  clear h hs
  go_enter Tryd.func39, Tryd.ntmps39
  go_wp2_with (go_at_call 46; refine HF.out.mono ?_; rintro r w1 ⟨rfl, rfl⟩; rw [show findP false (getF nm.data.toList l) = .pointer none from rfl, show findE false (getF nm.data.toList l) = 20 from rfl])
  go_ret
  exact ⟨rfl, l, false, left, rfl, HD.out, Fr.refl _ _⟩
set_option maxRecDepth 100000 in
theorem append_arg (base d mb : Nat) (l : List Fil) (left : Int) (nm : ByteArray) (hs : nm.size ≤ maxLen) (hb : Nm.nameB nm = false) (q : Option Addr) (m : List UInt8) (n c : Nat) (w : World) (h : Dl w base d mb l true left) :
    Calls Tryd.prog 39 #[.pointer (some ⟨d, 0, none⟩), .string nm, .slice q n c] w fun r w' => r = .returned (.int .i64 1) ∧ AppR w w' base d mb l true left nm.data.toList m 1 := by
  have HD := Lib.hid h
  have HF := Lib.hid (find_any base d mb l true left nm hs w h)
  have HN := Lib.hid (fun X => Nm.name_any nm X hs)
  rw [hb] at HN
  have HS := Lib.hid (show appS ⟨l.map absF, true, left⟩ nm.data.toList m = (⟨l.map absF, true, left⟩, 1) by
    unfold appS; rw [if_neg (by simp), if_pos (by rw [okName, bytesOf_list]; exact hb)])
  clear h hs hb
  generalize getF nm.data.toList l = o at HF
  cases o with
  | none =>
    go_enter Tryd.func39, Tryd.ntmps39
    go_wp2_with (first
      | (go_at_call 46; refine HF.out.mono ?_; rintro r w1 ⟨rfl, rfl⟩; rw [show findP true none = .pointer none from rfl, show findE true none = 4 from rfl])
      | (go_at_call 58; refine (HN.out _).mono ?_; rintro r w1 ⟨rfl, rfl⟩))
    go_ret
    exact ⟨rfl, l, true, left, HS.out, HD.out, Fr.refl _ _⟩
  | some f =>
    go_enter Tryd.func39, Tryd.ntmps39
    go_wp2_with (first
      | (go_at_call 46; refine HF.out.mono ?_; rintro r w1 ⟨rfl, rfl⟩; rw [show findP true (some f) = .pointer (some ⟨f.blk, 0, none⟩) from rfl, show findE true (some f) = 0 from rfl])
      | (go_at_call 58; refine (HN.out _).mono ?_; rintro r w1 ⟨rfl, rfl⟩))
    go_ret
    exact ⟨rfl, l, true, left, HS.out, HD.out, Fr.refl _ _⟩

theorem putF_twice (f g : Fil) (l : List Fil) (h : f.nm = g.nm) : putF f (putF g l) = putF f l := by
  unfold putF
  have : delF f.nm (insF g (delF g.nm l)) = delF f.nm l := by
    rw [h]
    have aux : ∀ l : List Fil, (∀ x ∈ l, x.nm ≠ g.nm) → delF g.nm (insF g l) = l := by
      intro l hl
      induction l with
      | nil => simp [insF, delF]
      | cons y r ih =>
        unfold insF
        split
        · unfold delF
          rw [List.filter_cons_of_neg (by simp), List.filter_eq_self.2 (fun x hx => by simpa using hl x hx)]
        · have := ih (fun x hx => hl x (by simp [hx]))
          unfold delF at this ⊢
          rw [List.filter_cons_of_pos (by simpa using hl y (by simp)), this]
    exact aux _ (fun x hx => (mem_delF.1 hx).2)
  rw [this]
theorem putF_self {f : Fil} {l : List Fil} (hs : Srt l) (hf : f ∈ l) : putF f l = l := by
  rw [putF_mod hs ⟨f, hf, rfl⟩]
  conv => rhs; rw [← List.map_id l]
  refine List.map_congr_left fun g hg => ?_
  split
  · rename_i h
    exact (srt_inj hs hg hf (by simpa using h)).symm
  · rfl
theorem useS_le (left : Int) (n : Nat) : (useS left n).1 ≤ n := by
  unfold useS
  split
  · exact Nat.le_refl _
  · split
    · exact Nat.le_refl _
    · simp; omega
/-- the cells of a file -/
theorem Dl.fcells {w : World} {base d mb : Nat} {l : List Fil} {on : Bool} {left : Int} (h : Dl w base d mb l on left) {f : Fil} (hf : f ∈ l) :
    w.cell? ⟨f.blk, 0, none⟩ = some f.v ∧ w.cell? ⟨f.blk, 1, none⟩ = some (.int .i64 f.sure) ∧ w.frozen? ⟨f.blk, 0, none⟩ = false ∧ w.frozen? ⟨f.blk, 1, none⟩ = false ∧ f.blk < w.heap.size :=
  ⟨(h.fil f hf).cell 0 _ rfl, (h.fil f hf).cell 1 _ rfl, (h.fil f hf).soft 0, (h.fil f hf).soft 1, (h.fil f hf).lt⟩

/-- a file's bytes have grown, and its cell says so -/
theorem append_done {w3 w4 : World} {base d mb : Nat} {l : List Fil} {on : Bool} {left : Int} (hD : Dl w3 base d mb l on left) {f : Fil} (hf : f ∈ l) (v' : Value) (xs' : List UInt8) (hfb : Fb w4 base v' xs') (hgr : w3.grownBy w4 f.v.ownBlock)
    (hown : ∀ b, v'.ownBlock = some b → f.v.ownBlock = some b ∨ w3.heap.size ≤ b) (hz : f.sure ≤ xs'.length ∧ xs'.length ≤ 1048576) :
    Dl (w4.setCell ⟨f.blk, 0, none⟩ v') base d mb (putF ⟨f.nm, f.blk, v', xs', f.sure⟩ l) on left ∧ Fr w3 (w4.setCell ⟨f.blk, 0, none⟩ v') (OwnD d mb l) (OwnD d mb (putF ⟨f.nm, f.blk, v', xs', f.sure⟩ l)) := by
  have hot : ∀ b, b ≠ f.blk → (w4.setCell ⟨f.blk, 0, none⟩ v').heap[b]? = w4.heap[b]? := fun b hb => Below.heap_setCell w4 ⟨f.blk, 0, none⟩ v' b hb
  have hsz : (w4.setCell ⟨f.blk, 0, none⟩ v').heap.size = w4.heap.size := by simp [World.setCell]
  have hlt := (hD.fil f hf).lt
  have hrow : f.v.ownBlock ≠ some f.blk := fun e => (hD.row_ne hf e).2.2 f hf rfl
  have hb4 : Bk w4 f.blk 83 #[f.v, .int .i64 f.sure] := (hgr.block f.blk hlt (fun e => hrow e.symm)).trans (hD.fil f hf)
  refine ⟨hD.write hf v' xs' f.sure (fun b hb hn hr => (hot b hn).trans (hgr.block b hb (fun e => hr e.symm))) (by rw [hsz]; exact hgr.size) (hb4.set 0 v') (hfb.kept fun b hb => hot b fun e => ?_) hz hown,
    ⟨hgr.os, hgr.tape, hgr.output, by rw [hsz]; exact hgr.size, fun b hb hn => (hot b fun e => hn (.inr (.inr ⟨f, hf, .inl e⟩))).trans (hgr.block b hb fun e => hn (.inr (.inr ⟨f, hf, .inr e.symm⟩))), fun b hb => ?_⟩⟩
  · subst e
    rcases hown _ hb with h | h
    · exact hrow h
    · omega
  · rcases own_put hb with h | rfl | h
    · exact .inl h
    · exact .inl (.inr (.inr ⟨f, hf, .inl rfl⟩))
    · rcases hown b h with h | h
      · exact .inl (.inr (.inr ⟨f, hf, .inr h⟩))
      · exact .inr h

set_option maxRecDepth 100000 in
set_option maxHeartbeats 4000000 in
theorem append_old (base d mb : Nat) (l : List Fil) (left : Int) (nm : ByteArray) (hs : nm.size ≤ maxLen) (hb : Nm.nameB nm = true) (f : Fil) (hg : getF nm.data.toList l = some f) (q : Option Addr) (m : List UInt8) (n c : Nat) (hn : n = m.length) (hc : m.length ≤ c) (hz : n ≤ 1000000000000) (w : World) (h : Dl w base d mb l true left) (hbase : base ≤ w.heap.size) (hR : Rd0 w q m) (hq : ∀ a, q = some a → m = [] ∨ ¬ OwnD d mb l a.block) :
    Calls Tryd.prog 39 #[.pointer (some ⟨d, 0, none⟩), .string nm, .slice q n c] w fun r w' => ∃ e, r = .returned (.int .i64 e) ∧ AppR w w' base d mb l true left nm.data.toList m e := by
  obtain ⟨hf, hfn⟩ := getF_mem hg
  have HF := Lib.hid (find_any base d mb l true left nm hs w h)
  have HN := Lib.hid (fun X => Nm.name_any nm X hs)
  rw [hb] at HN
  rw [hg, show findP true (some f) = .pointer (some ⟨f.blk, 0, none⟩) from rfl, show findE true (some f) = 0 from rfl] at HF
  have HD := Lib.hid h
  have HS := Lib.hid (show appS ⟨l.map absF, true, left⟩ nm.data.toList m = if 1048576 < f.xs.length + m.length then (⟨l.map absF, true, left⟩, 3) else
      (⟨putF (mkF nm.data.toList (f.xs ++ m.take (useS left m.length).1) f.sure) (l.map absF), (useS left m.length).2.2, (useS left m.length).2.1⟩, okE (useS left m.length).2.2) by
    unfold appS; rw [if_neg (by simp), if_neg (by rw [okName, bytesOf_list, hb]; simp), abs_get, hg]; rfl)
  obtain ⟨fc0, fc1, fs0, fs1, flt⟩ := h.fcells hf
  obtain ⟨c0, c1, c2, s0, s1, s2⟩ := h.cells
  have HFN := Lib.hid hfn
  have HFM := Lib.hid hf
  have HSZ := Lib.hid (h.sz f hf)
  have HK := Lib.hid hn
  have HC := Lib.hid hc
  have HZ := Lib.hid hz
  have HRD := Lib.hid hR
  have HQ := Lib.hid hq
  have HBA := Lib.hid hbase
  obtain ⟨p0, d0, hv0, hd0⟩ := (h.row f hf).1
  obtain ⟨L0, hL0⟩ : ∃ L0, f.xs.length = L0 := ⟨_, rfl⟩
  have HL0 := Lib.hid hL0
  rw [hL0] at hv0
  have HV0 := Lib.hid hv0
  rw [hv0] at fc0
  have hw1 : IntKind.i64.wrap (1048576 - (L0 : Int)) = 1048576 - (L0 : Int) := IntWalk.i64_in _ (by have := (h.sz f hf).2.1; omega)
  obtain ⟨w2, hst, hm2, hgr⟩ := h.map.store Tryd.underlying9 Tryd.underlying66 (by have := h.le; omega) nm hs f hfn
  rw [putF_self h.srt hf] at hm2
  have HM2 := Lib.hid hm2
  have HG2 := Lib.hid hgr
  clear h hs hb hg hf hfn hn hc hz hR hq hbase hd0 hL0 hv0 hm2 hgr
  by_cases hbig : 1048576 < L0 + n
  · have w1 : (1048576 : Int) - (L0 : Int) < (n : Int) := by omega
    have HS2 := Lib.hid (show appS ⟨l.map absF, true, left⟩ nm.data.toList m = (⟨l.map absF, true, left⟩, 3) by rw [HS.out, if_pos (by rw [HL0.out, ← HK.out]; exact hbig)])
    clear hbig HS
    go_enter Tryd.func39, Tryd.ntmps39
    go_wp2_with (first
      | (go_at_call 46; refine HF.out.mono ?_; rintro r w1 ⟨rfl, rfl⟩)
      | (go_at_call 58; refine (HN.out _).mono ?_; rintro r w1 ⟨rfl, rfl⟩))
    go_ret
    exact ⟨3, rfl, l, true, left, HS2.out, HD.out, Fr.refl _ _⟩
  have w1 : ¬ (1048576 : Int) - (L0 : Int) < (n : Int) := by omega
  have w1' : (n : Int) ≤ (1048576 : Int) - (L0 : Int) := by omega
  have HSM := Lib.hid (show L0 + n ≤ 1048576 by omega)
  have HS2 := HS.out
  rw [if_neg (by rw [HL0.out, ← HK.out]; exact hbig)] at HS2
  have HS3 := Lib.hid HS2
  have HD2 := Lib.hid (HD.out.remap HG2.out HM2.out)
  have HB2 := Lib.hid (Nat.le_trans HBA.out HG2.out.size)
  have HR2 := Lib.hid (HRD.out.fr HQ.out (Fr.grown (O := OwnD d mb l) HG2.out (fun b e => by cases e; exact .inr (.inl rfl))))
  have HFR2 := Lib.hid (Fr.grown (O := OwnD d mb l) HG2.out (fun b e => by cases e; exact .inr (.inl rfl)))
  clear hbig HS2 HS fs0 fs1
  go_enter Tryd.func39, Tryd.ntmps39
  go_upto_region 12 with (first
    | (go_at_call 46; refine HF.out.mono ?_; rintro r w1 ⟨rfl, rfl⟩)
    | (go_at_call 58; refine (HN.out _).mono ?_; rintro r w1 ⟨rfl, rfl⟩))
  have HTK := Lib.hid (fun X (hX : Dl X base d mb l true left) => take_any base d mb l left n (by have := HZ.out; omega) X hX)
  rw [← HK.out] at HS3
  have HU := Lib.hid (useS_le left n)
  generalize useS left n = U at *
  obtain ⟨u, left', ok⟩ := U
  simp only at HTK HS3 HU
  go_upto_region 14 with (go_at_call 59; refine (HTK.out _ HD2.out).mono ?_; rintro r w3 ⟨rfl, hD3, hO3⟩; have HD3 := Lib.hid hD3; have HFR3 := Lib.hid (HFR2.out.trans (Only.fr hO3 (.inl rfl))); have HR3 := Lib.hid (HR2.out.fr HQ.out (Only.fr hO3 (.inl rfl))); have HB3 := Lib.hid (Nat.le_trans HB2.out hO3.size); clear hD3 hO3)
  clear fc0 fc1 flt c0 c1 c2 s0 s1 s2 hst
  obtain ⟨fc0, fc1, fs0, fs1, flt⟩ := HD3.out.fcells HFM.out
  rw [HV0.out] at fc0
  have hsl := fun wx => run_slice_to (P := Tryd.prog) 22 5 Tryd.underlying22 (by kernel_rfl) q n c .i64 (u : Int) u rfl (by have := HU.out; have := HK.out; have := HC.out; omega) wx
  have HLU := Lib.hid (show u = (m.take u).length by rw [List.length_take, ← HK.out]; have := HU.out; omega)
  have HFB := Lib.hid (show Fb w3 base (.slice p0 L0 d0) f.xs from HV0.out ▸ HD3.out.row f HFM.out)
  have HNX := Lib.hid (show some f.blk ≠ (Value.slice p0 L0 d0).ownBlock from fun e => (HD3.out.row_ne HFM.out (b := f.blk) (by rw [HV0.out]; exact e.symm)).2.2 f HFM.out rfl)
  have HLX := Lib.hid flt
  obtain ⟨L9, hL9⟩ : ∃ L9, (f.xs ++ m.take u).length = L9 := ⟨_, rfl⟩
  have HL9 := Lib.hid hL9
  have HSZ9 := Lib.hid (show f.sure ≤ (f.xs ++ m.take u).length ∧ (f.xs ++ m.take u).length ≤ 1048576 by rw [List.length_append, ← HLU.out]; have := HSZ.out.1; have := HSM.out; have := HL0.out; have := HU.out; omega)
  have HDX := Lib.hid (HD3.out.on_ (Below.drew (Below.refl _ _)))
  have HFX := Lib.hid (HFR3.out.trans (Fr.of (OwnD d mb l) (Below.drew (Below.refl w3.heap.size w3))))
  clear hL9
  go_region_law (refine step_appF rfl _ _ rfl rfl base (.slice p0 L0 d0) f.xs rfl (HFB.out) q (m.take u) u c rfl HLU.out (HR3.out.take u) (by have := HSM.out; have := HL0.out; have := HLU.out; have := HU.out; omega) HB3.out ?_; intro v4 w4 hfb' hgr' hown'; obtain ⟨p4, d4, he4, hd4⟩ := hfb'.1; rw [HL9.out] at he4; subst he4; have hfb := Lib.hid hfb'; have hgr := Lib.hid hgr'; have hown := Lib.hid hown'; have q1 := hgr'.cell_far ⟨f.blk, 0, none⟩ HLX.out HNX.out; have q2 := hgr'.frozen_far ⟨f.blk, 0, none⟩ HLX.out HNX.out; simp [go_sem, fc0, fs0] at q1 q2; clear hfb' hgr' hown' hd4)
  all_goals
    clear q1 q2 hsl fc0 fc1 fs0 fs1 flt
    go_wp2_with fail
    go_ret
    have hfin := append_done HDX.out HFM.out (.slice p4 L9 d4) (f.xs ++ m.take u) hfb.out (by rw [HV0.out]; exact hgr.out) (by rw [HV0.out]; exact hown.out) HSZ9.out
    refine ⟨okE ok, rfl, _, ok, left', ?_, hfin.1, HFX.out.trans hfin.2⟩
    rw [HS3.out, abs_put]
    show _ = ((⟨putF (mkF f.nm (f.xs ++ m.take u) f.sure) (l.map absF), ok, left'⟩ : DS), okE ok)
    rw [HFN.out]

set_option maxRecDepth 100000 in
set_option maxHeartbeats 4000000 in
/-- no file of that name, and there are as many as may be -/
theorem append_many (base d mb : Nat) (l : List Fil) (left : Int) (nm : ByteArray) (hs : nm.size ≤ maxLen) (hb : Nm.nameB nm = true) (hg : getF nm.data.toList l = none) (hl : 8 ≤ l.length) (q : Option Addr) (m : List UInt8) (n c : Nat) (w : World) (h : Dl w base d mb l true left) :
    Calls Tryd.prog 39 #[.pointer (some ⟨d, 0, none⟩), .string nm, .slice q n c] w fun r w' => ∃ e, r = .returned (.int .i64 e) ∧ AppR w w' base d mb l true left nm.data.toList m e := by
  have HF := Lib.hid (find_any base d mb l true left nm hs w h)
  have HN := Lib.hid (fun X => Nm.name_any nm X hs)
  rw [hb] at HN
  rw [hg, show findP true none = .pointer none from rfl, show findE true none = 4 from rfl] at HF
  have HD := Lib.hid h
  have HS := Lib.hid (show appS ⟨l.map absF, true, left⟩ nm.data.toList m = (⟨l.map absF, true, left⟩, 3) by
    unfold appS; rw [if_neg (by simp), if_neg (by rw [okName, bytesOf_list, hb]; simp), abs_get, hg]
    show (if 8 ≤ (l.map absF).length then _ else _) = _
    rw [if_pos (by rw [List.length_map]; exact hl)])
  obtain ⟨c0, c1, c2, s0, s1, s2⟩ := h.cells
  have hln := h.map.len Tryd.underlying66 3
  have w1 : (8 : Int) ≤ (l.length : Int) := by omega
  have w2 : ¬ (l.length : Int) < 8 := by omega
  clear h hs hb hg hl
  go_enter Tryd.func39, Tryd.ntmps39
  go_wp2_with (first
    | (go_at_call 46; refine HF.out.mono ?_; rintro r w1 ⟨rfl, rfl⟩)
    | (go_at_call 58; refine (HN.out _).mono ?_; rintro r w1 ⟨rfl, rfl⟩))
  go_ret
  exact ⟨3, rfl, l, true, left, HS.out, HD.out, Fr.refl _ _⟩

set_option maxRecDepth 100000 in
set_option maxHeartbeats 4000000 in
/-- a file more -/
theorem append_new (base d mb : Nat) (l : List Fil) (left : Int) (nm : ByteArray) (hs : nm.size ≤ maxLen) (hb : Nm.nameB nm = true) (hg : getF nm.data.toList l = none) (hl : l.length < 8) (q : Option Addr) (m : List UInt8) (n c : Nat) (hn : n = m.length) (hc : m.length ≤ c) (hz : n ≤ 1000000000000) (w : World) (h : Dl w base d mb l true left) (hbase : base ≤ w.heap.size) (hR : Rd0 w q m) (hq : ∀ a, q = some a → m = [] ∨ ¬ OwnD d mb l a.block) :
    Calls Tryd.prog 39 #[.pointer (some ⟨d, 0, none⟩), .string nm, .slice q n c] w fun r w' => ∃ e, r = .returned (.int .i64 e) ∧ AppR w w' base d mb l true left nm.data.toList m e := by
  have HF := Lib.hid (find_any base d mb l true left nm hs w h)
  have HN := Lib.hid (fun X => Nm.name_any nm X hs)
  have hok : okName nm.data.toList = true := by rw [okName, bytesOf_list, hb]
  rw [hb] at HN
  have hnone := getF_none hg
  rw [hg, show findP true none = .pointer none from rfl, show findE true none = 4 from rfl] at HF
  have HD := Lib.hid h
  have HS := Lib.hid (show appS ⟨l.map absF, true, left⟩ nm.data.toList m = if 1048576 < m.length then (⟨l.map absF, true, left⟩, 3) else
      (⟨putF (mkF nm.data.toList (m.take (useS left m.length).1) 0) (l.map absF), (useS left m.length).2.2, (useS left m.length).2.1⟩, okE (useS left m.length).2.2) by
    unfold appS; rw [if_neg (by simp), if_neg (by rw [hok]; simp), abs_get, hg]
    show (if 8 ≤ (l.map absF).length then _ else _) = _
    rw [if_neg (by rw [List.length_map]; omega)])
  obtain ⟨c0, c1, c2, s0, s1, s2⟩ := h.cells
  have hln := h.map.len Tryd.underlying66 3
  have w1 : (l.length : Int) < 8 := by omega
  have w2 : ¬ (8 : Int) ≤ (l.length : Int) := by omega
  have HK := Lib.hid hn
  have HC := Lib.hid hc
  have HZ := Lib.hid hz
  have HBA := Lib.hid hbase
  have hw1 : IntKind.i64.wrap (1048576 - (0 : Int)) = 1048576 - (0 : Int) := rfl
  have hdlt : d < w.heap.size := h.dsk.lt
  obtain ⟨W1, hW1⟩ : ∃ W1, W1 = w.alloc (.cells #[.slice none 0 0, .int .i64 0] 83) := ⟨_, rfl⟩
  have hb1 : Below w.heap.size w W1 := hW1 ▸ below1 w _
  have h1 := h.on_ hb1
  have HB1 := Lib.hid hb1
  have HD1 := Lib.hid h1
  have hlt1 : w.heap.size < W1.heap.size := by rw [hW1]; simp
  by_cases hbig : 1048576 < n
  · have w3 : (1048576 : Int) < (n : Int) := by omega
    have HS2 := Lib.hid (show appS ⟨l.map absF, true, left⟩ nm.data.toList m = (⟨l.map absF, true, left⟩, 3) by rw [HS.out, if_pos (by rw [← HK.out]; exact hbig)])
    have HW1 := Lib.hid hW1
    clear hbig HS h h1 hs hb hg hl hn hc hz hR hq hbase hnone hok hlt1 hb1 hW1
    go_enter Tryd.func39, Tryd.ntmps39
    go_wp2_with (first
      | (go_at_call 46; refine HF.out.mono ?_; rintro r w1 ⟨rfl, rfl⟩)
      | (go_at_call 58; refine (HN.out _).mono ?_; rintro r w1 ⟨rfl, rfl⟩))
    go_ret
    exact ⟨3, rfl, l, true, left, HS2.out, HW1.out ▸ HD1.out, HW1.out ▸ Fr.of _ HB1.out⟩
  have w3 : ¬ (1048576 : Int) < (n : Int) := by omega
  have w3' : (n : Int) ≤ (1048576 : Int) := by omega
  have HSM := Lib.hid (show 0 + n ≤ 1048576 by omega)
  obtain ⟨f, hf⟩ : ∃ f : Fil, f = ⟨nm.data.toList, w.heap.size, .slice none 0 0, [], 0⟩ := ⟨_, rfl⟩
  obtain ⟨w2, hst, hm2, hgr⟩ := h1.map.store Tryd.underlying9 Tryd.underlying66 (by omega) nm hs f (by rw [hf])
  rw [show (Value.pointer (some ⟨f.blk, 0, none⟩)) = .pointer (some ⟨w.heap.size, 0, none⟩) by rw [hf]] at hst
  have hsz2 : W1.heap.size ≤ w2.heap.size := hgr.size
  have hmbl : mb < w.heap.size := h.map.lt
  have hbk2 : Bk w2 w.heap.size 83 #[.slice none 0 0, .int .i64 0] := by
    refine (hgr.block _ hlt1 (fun e => by have := Option.some.inj e; omega)).trans ?_
    rw [hW1]; exact Bk.new w _ _
  have hd2 : Dl w2 base d mb (putF f l) true left := by
    refine h1.put (f' := f) (hgr.block d h1.dsk.lt (fun e => h1.ne_map (Option.some.inj e).symm)) (fun g hg' hn' => ⟨hgr.block g.blk (h1.fil g hg').lt (fun e => (h1.fil_ne hg').2 (Option.some.inj e)), fun b hb' => hgr.block b (h1.lt b (.inr (.inr ⟨g, hg', .inr hb'⟩))).1 (fun e => (h1.row_ne hg' hb').2.1 (Option.some.inj e))⟩) hm2 (by rw [hf]; exact hbk2) (by rw [hf]; exact fb_nil _ _) (by rw [hf]; exact ⟨Nat.le_refl _, by simp, hok⟩) (fun g hg' hn' => ⟨?_, fun b hb' => ?_⟩) ?_ (by rw [hf]; exact hbase)
    · have := (h.fil g hg').lt
      rw [hf]; show w.heap.size ≠ g.blk; omega
    · rw [hf] at hb'; cases hb'
    · rw [putF_new (by rw [hf]; exact hnone), insF_len]; omega
  have hfr2 : Fr w w2 (OwnD d mb l) (OwnD d mb (putF f l)) := by
    refine ((Fr.of (OwnD d mb l) hb1).trans (Fr.grown (O := OwnD d mb l) hgr (fun b e => by cases e; exact .inr (.inl rfl)))).sub fun b hb' => ?_
    rcases own_put hb' with h' | h' | h'
    · exact .inl h'
    · rw [hf] at h'; exact .inr (by rw [h']; exact Nat.le_refl _)
    · rw [hf] at h'; cases h'
  have hq2 : ∀ a, q = some a → m = [] ∨ ¬ OwnD d mb (putF f l) a.block := by
    intro a ha
    rcases hq a ha with h0 | h0
    · exact .inl h0
    · rcases hR with h1' | ⟨b, off, e1, e2, _⟩
      · exact .inl h1'
      · refine .inr fun ho => ?_
        rw [ha] at e1
        obtain rfl := Option.some.inj e1
        rcases own_put ho with h' | h' | h'
        · exact h0 h'
        · rw [hf] at h'; exact absurd e2 (by show ¬ b < w.heap.size; have : b = w.heap.size := h'; omega)
        · rw [hf] at h'; cases h'
  have HR2 := Lib.hid (hR.fr hq hfr2)
  have HFM := Lib.hid (show f ∈ putF f l from mem_putF.2 (.inl rfl))
  have HTW := Lib.hid (fun v xs => putF_twice ⟨f.nm, w.heap.size, v, xs, f.sure⟩ f l rfl)
  have HFN := Lib.hid (show f.nm = nm.data.toList by rw [hf])
  have HV0 := Lib.hid (show f.v = .slice none 0 0 by rw [hf])
  have HXS := Lib.hid (show f.xs = [] by rw [hf])
  have HFB0 := Lib.hid (show f.blk = w.heap.size by rw [hf])
  have HSU := Lib.hid (show f.sure = 0 by rw [hf])
  generalize putF f l = l2 at *
  have HD2 := Lib.hid hd2
  have HFR2 := Lib.hid hfr2
  have HQ := Lib.hid hq2
  have HB2 := Lib.hid (show base ≤ w2.heap.size by omega)
  have HSZ := Lib.hid (hd2.sz f HFM.out)
  have HL0 := Lib.hid (show f.xs.length = 0 by rw [HXS.out]; rfl)
  have HS2 := HS.out
  rw [if_neg (by rw [← HK.out]; exact hbig)] at HS2
  have HS3 := Lib.hid HS2
  have HTK := Lib.hid (fun X (hX : Dl X base d mb l2 true left) => take_any base d mb l2 left n (by have := HZ.out; omega) X hX)
  rw [← HK.out] at HS3
  have HU := Lib.hid (useS_le left n)
  subst hW1
  clear hbig HS HS2 h h1 hs hb hg hl hn hc hz hR hq hbase hnone hok hlt1 hb1 hd2 hfr2 hq2 hbk2 hm2 hgr hsz2 hmbl hf
  generalize useS left n = U at *
  obtain ⟨u, left', ok⟩ := U
  simp only at HTK HS3 HU
  go_enter Tryd.func39, Tryd.ntmps39
  go_upto_region 13 with (first
    | (go_at_call 46; refine HF.out.mono ?_; rintro r w1 ⟨rfl, rfl⟩)
    | (go_at_call 58; refine (HN.out _).mono ?_; rintro r w1 ⟨rfl, rfl⟩))
  go_upto_region 14 with (go_at_call 59; refine (HTK.out _ HD2.out).mono ?_; rintro r w3 ⟨rfl, hD3, hO3⟩; have HD3 := Lib.hid hD3; have HFR3 := Lib.hid (HFR2.out.trans (Only.fr hO3 (.inl rfl))); have HR3 := Lib.hid (HR2.out.fr HQ.out (Only.fr hO3 (.inl rfl))); have HB3 := Lib.hid (Nat.le_trans HB2.out hO3.size); clear hD3 hO3)
  clear c0 c1 c2 s0 s1 s2 hst hdlt
  obtain ⟨fc0, fc1, fs0, fs1, flt⟩ := HD3.out.fcells HFM.out
  rw [HV0.out] at fc0
  rw [HFB0.out] at fc0 fc1 fs0 fs1 flt
  have hsl := fun wx => run_slice_to (P := Tryd.prog) 22 5 Tryd.underlying22 (by kernel_rfl) q n c .i64 (u : Int) u rfl (by have := HU.out; have := HK.out; have := HC.out; omega) wx
  have HLU := Lib.hid (show u = (m.take u).length by rw [List.length_take, ← HK.out]; have := HU.out; omega)
  have HFB := Lib.hid (show Fb w3 base (.slice none 0 0) f.xs from HV0.out ▸ HD3.out.row f HFM.out)
  have HNX := Lib.hid (show some w.heap.size ≠ (Value.slice none 0 0).ownBlock from fun e => by cases e)
  have HLX := Lib.hid flt
  obtain ⟨L9, hL9⟩ : ∃ L9, (m.take u).length = L9 := ⟨_, rfl⟩
  have HL9 := Lib.hid hL9
  have HSZ9 := Lib.hid (show f.sure ≤ (m.take u).length ∧ (m.take u).length ≤ 1048576 by rw [HSU.out, ← HLU.out]; have := HSM.out; have := HU.out; omega)
  have HDX := Lib.hid (HD3.out.on_ (Below.drew (Below.refl _ _)))
  have HFX := Lib.hid (HFR3.out.trans (Fr.of (OwnD d mb l2) (Below.drew (Below.refl w3.heap.size w3))))
  clear hL9
  go_region_law (refine step_appF rfl _ _ rfl rfl base (.slice none 0 0) [] rfl (HXS.out ▸ HFB.out) q (m.take u) u c rfl HLU.out (HR3.out.take u) (by rw [List.length_nil]; have := HSM.out; have := HLU.out; have := HU.out; omega) HB3.out ?_; intro v4 w4 hfb' hgr' hown'; rw [List.nil_append] at hfb'; obtain ⟨p4, d4, he4, hd4⟩ := hfb'.1; rw [HL9.out] at he4; subst he4; have hfb := Lib.hid hfb'; have hgr := Lib.hid hgr'; have hown := Lib.hid hown'; have q1 := hgr'.cell_far ⟨w.heap.size, 0, none⟩ HLX.out HNX.out; have q2 := hgr'.frozen_far ⟨w.heap.size, 0, none⟩ HLX.out HNX.out; simp [go_sem, fc0, fs0] at q1 q2; clear hfb' hgr' hown' hd4)
  all_goals
    clear q1 q2 hsl fc0 fc1 fs0 fs1 flt
    go_wp2_with fail
    go_ret
    have hfin := append_done HDX.out HFM.out (.slice p4 L9 d4) (m.take u) hfb.out (by rw [HV0.out]; exact hgr.out) (by rw [HV0.out]; exact hown.out) HSZ9.out
    rw [HFB0.out] at hfin
    refine ⟨okE ok, rfl, _, ok, left', ?_, hfin.1, HFX.out.trans hfin.2⟩
    rw [HS3.out, HTW.out, abs_put]
    show _ = ((⟨putF (mkF f.nm (m.take u) f.sure) (l.map absF), ok, left'⟩ : DS), okE ok)
    rw [HFN.out, HSU.out]

/-- behind an act: what its plain form says -/
def After (w' w : World) (base d : Nat) (O : Nat → Prop) (s' : DS) : Prop := ∃ O', Dk w' base d s' O' ∧ Fr w w' O O'
theorem Dk.lt {w : World} {base d : Nat} {s : DS} {O : Nat → Prop} (h : Dk w base d s O) : ∀ b, O b → b < w.heap.size ∧ base ≤ b := by
  obtain ⟨mb, l, hD, hs, rfl⟩ := h
  exact hD.lt
theorem Dk.kept {w w' : World} {base d : Nat} {s : DS} {O : Nat → Prop} (h : Dk w base d s O) (hk : ∀ b, O b → w'.heap[b]? = w.heap[b]?) : Dk w' base d s O := by
  obtain ⟨mb, l, hD, hs, rfl⟩ := h
  exact ⟨mb, l, hD.kept hk, hs, rfl⟩
theorem Dk.on_ {w w' : World} {base d : Nat} {s : DS} {O : Nat → Prop} (h : Dk w base d s O) (hb : Below w.heap.size w w') : Dk w' base d s O := h.kept fun b ho => hb.block b (h.lt b ho).1
theorem append_any (base d : Nat) (s : DS) (O : Nat → Prop) (nm : ByteArray) (hs : nm.size ≤ maxLen) (q : Option Addr) (m : List UInt8) (n c : Nat) (hn : n = m.length) (hc : m.length ≤ c) (hz : n ≤ 1000000000000) (w : World) (h : Dk w base d s O) (hbase : base ≤ w.heap.size) (hR : Rd0 w q m) (hq : ∀ a, q = some a → m = [] ∨ ¬ O a.block) :
    Calls Tryd.prog 39 #[.pointer (some ⟨d, 0, none⟩), .string nm, .slice q n c] w fun r w' => r = .returned (.int .i64 (appS s nm.data.toList m).2) ∧ After w' w base d O (appS s nm.data.toList m).1 := by
  obtain ⟨mb, l, hD, hfs, rfl⟩ := h
  obtain ⟨fs, on, left⟩ := s
  simp only at hD hfs
  subst hfs
  have fin : ∀ (r : Ending) (w' : World), (∃ e, r = .returned (.int .i64 e) ∧ AppR w w' base d mb l on left nm.data.toList m e) → r = .returned (.int .i64 (appS ⟨l.map absF, on, left⟩ nm.data.toList m).2) ∧ After w' w base d (OwnD d mb l) (appS ⟨l.map absF, on, left⟩ nm.data.toList m).1 := by
    rintro r w' ⟨e, rfl, l', on', left', h1, h2, h3⟩
    rw [h1]
    exact ⟨rfl, _, ⟨mb, l', h2, rfl, rfl⟩, h3⟩
  cases on with
  | false => exact (append_off base d mb l left nm hs q m n c w hD).mono fun r w' ⟨e, h⟩ => fin r w' ⟨20, e, h⟩
  | true =>
    cases hb : Nm.nameB nm with
    | false => exact (append_arg base d mb l left nm hs hb q m n c w hD).mono fun r w' ⟨e, h⟩ => fin r w' ⟨1, e, h⟩
    | true =>
      cases hg : getF nm.data.toList l with
      | some f => exact (append_old base d mb l left nm hs hb f hg q m n c hn hc hz w hD hbase hR hq).mono fin
      | none =>
        by_cases hl : 8 ≤ l.length
        · exact (append_many base d mb l left nm hs hb hg hl q m n c w hD).mono fin
        · exact (append_new base d mb l left nm hs hb hg (by omega) q m n c hn hc hz w hD hbase hR hq).mono fin
end
section
set_option linter.unusedVariables false
set_option linter.unusedSimpArgs false
open Go.Maps Go.RowKit

set_option maxRecDepth 100000 in
theorem do_sync (base d mb : Nat) (l : List Fil) (left : Int) (b0 : Nat) (w : World) (h : Dl w base d mb l true left) (R : World → Prop)
    (HC : ∀ X, Dl X base d mb l true (useS left 1).2.1 → Only d w X → Calls Tryd.prog 60 #[.pointer (some ⟨b0, 0, none⟩)] X fun r w' => r = .returned (.tuple #[]) ∧ R w') :
    Calls Tryd.prog 54 #[.pointer (some ⟨d, 0, none⟩), .func (.func 60) #[] #[.pointer (some ⟨b0, 0, none⟩)]] w fun r w' => r = .returned (.int .i64 (okE (useS left 1).2.2)) ∧ ((useS left 1).2.2 = true → R w') ∧ ((useS left 1).2.2 = false → Dl w' base d mb l false (useS left 1).2.1 ∧ Only d w w') := by
  have HT := Lib.hid (fun X (hX : Dl X base d mb l true left) => take_any base d mb l left 1 (by omega) X hX)
  have HD := Lib.hid h
  have HC1 := Lib.hid HC
  clear h HC
  cases hu : (useS left 1).2.2 with
  | true =>
    rw [hu] at HT
    clear hu
    go_enter Tryd.func54, Tryd.ntmps54
    go_wp2_with (first
      | (go_at_call 59; refine (HT.out _ HD.out).mono ?_; rintro r w3 ⟨rfl, hD3, hO3⟩; rw [show okE true = 0 from rfl]; have HD3 := Lib.hid hD3; have HO3 := Lib.hid hO3; clear hD3 hO3)
      | (go_at_call 60; refine (HC1.out _ HD3.out HO3.out).mono ?_; rintro r w4 ⟨rfl, hR4⟩; have HR4 := Lib.hid hR4; clear hR4))
    go_ret
    exact ⟨rfl, (fun _ => HR4.out), (fun h => by cases h)⟩
  | false =>
    rw [hu] at HT
    clear hu
    go_enter Tryd.func54, Tryd.ntmps54
    go_wp2_with (first
      | (go_at_call 59; refine (HT.out _ HD.out).mono ?_; rintro r w3 ⟨rfl, hD3, hO3⟩; rw [show okE false = 20 from rfl]; have HD3 := Lib.hid hD3; have HO3 := Lib.hid hO3; clear hD3 hO3))
    go_ret
    exact ⟨rfl, (fun h => by cases h), (fun _ => ⟨HD3.out, HO3.out⟩)⟩

set_option maxRecDepth 100000 in
theorem do_rename (base d mb : Nat) (l : List Fil) (left : Int) (b0 b1 b2 b3 : Nat) (w : World) (h : Dl w base d mb l true left) (R : World → Prop)
    (HC : ∀ X, Dl X base d mb l true (useS left 1).2.1 → Only d w X → Calls Tryd.prog 62 #[.pointer (some ⟨b0, 0, none⟩), .pointer (some ⟨b1, 0, none⟩), .pointer (some ⟨b2, 0, none⟩), .pointer (some ⟨b3, 0, none⟩)] X fun r w' => r = .returned (.tuple #[]) ∧ R w') :
    Calls Tryd.prog 54 #[.pointer (some ⟨d, 0, none⟩), .func (.func 62) #[] #[.pointer (some ⟨b0, 0, none⟩), .pointer (some ⟨b1, 0, none⟩), .pointer (some ⟨b2, 0, none⟩), .pointer (some ⟨b3, 0, none⟩)]] w fun r w' => r = .returned (.int .i64 (okE (useS left 1).2.2)) ∧ ((useS left 1).2.2 = true → R w') ∧ ((useS left 1).2.2 = false → Dl w' base d mb l false (useS left 1).2.1 ∧ Only d w w') := by
  have HT := Lib.hid (fun X (hX : Dl X base d mb l true left) => take_any base d mb l left 1 (by omega) X hX)
  have HD := Lib.hid h
  have HC1 := Lib.hid HC
  clear h HC
  cases hu : (useS left 1).2.2 with
  | true =>
    rw [hu] at HT
    clear hu
    go_enter Tryd.func54, Tryd.ntmps54
    go_wp2_with (first
      | (go_at_call 59; refine (HT.out _ HD.out).mono ?_; rintro r w3 ⟨rfl, hD3, hO3⟩; rw [show okE true = 0 from rfl]; have HD3 := Lib.hid hD3; have HO3 := Lib.hid hO3; clear hD3 hO3)
      | (go_at_call 62; refine (HC1.out _ HD3.out HO3.out).mono ?_; rintro r w4 ⟨rfl, hR4⟩; have HR4 := Lib.hid hR4; clear hR4))
    go_ret
    exact ⟨rfl, (fun _ => HR4.out), (fun h => by cases h)⟩
  | false =>
    rw [hu] at HT
    clear hu
    go_enter Tryd.func54, Tryd.ntmps54
    go_wp2_with (first
      | (go_at_call 59; refine (HT.out _ HD.out).mono ?_; rintro r w3 ⟨rfl, hD3, hO3⟩; rw [show okE false = 20 from rfl]; have HD3 := Lib.hid hD3; have HO3 := Lib.hid hO3; clear hD3 hO3))
    go_ret
    exact ⟨rfl, (fun h => by cases h), (fun _ => ⟨HD3.out, HO3.out⟩)⟩

set_option maxRecDepth 100000 in
theorem do_cut (base d mb : Nat) (l : List Fil) (left : Int) (b0 b1 : Nat) (w : World) (h : Dl w base d mb l true left) (R : World → Prop)
    (HC : ∀ X, Dl X base d mb l true (useS left 1).2.1 → Only d w X → Calls Tryd.prog 64 #[.pointer (some ⟨b0, 0, none⟩), .pointer (some ⟨b1, 0, none⟩)] X fun r w' => r = .returned (.tuple #[]) ∧ R w') :
    Calls Tryd.prog 54 #[.pointer (some ⟨d, 0, none⟩), .func (.func 64) #[] #[.pointer (some ⟨b0, 0, none⟩), .pointer (some ⟨b1, 0, none⟩)]] w fun r w' => r = .returned (.int .i64 (okE (useS left 1).2.2)) ∧ ((useS left 1).2.2 = true → R w') ∧ ((useS left 1).2.2 = false → Dl w' base d mb l false (useS left 1).2.1 ∧ Only d w w') := by
  have HT := Lib.hid (fun X (hX : Dl X base d mb l true left) => take_any base d mb l left 1 (by omega) X hX)
  have HD := Lib.hid h
  have HC1 := Lib.hid HC
  clear h HC
  cases hu : (useS left 1).2.2 with
  | true =>
    rw [hu] at HT
    clear hu
    go_enter Tryd.func54, Tryd.ntmps54
    go_wp2_with (first
      | (go_at_call 59; refine (HT.out _ HD.out).mono ?_; rintro r w3 ⟨rfl, hD3, hO3⟩; rw [show okE true = 0 from rfl]; have HD3 := Lib.hid hD3; have HO3 := Lib.hid hO3; clear hD3 hO3)
      | (go_at_call 64; refine (HC1.out _ HD3.out HO3.out).mono ?_; rintro r w4 ⟨rfl, hR4⟩; have HR4 := Lib.hid hR4; clear hR4))
    go_ret
    exact ⟨rfl, (fun _ => HR4.out), (fun h => by cases h)⟩
  | false =>
    rw [hu] at HT
    clear hu
    go_enter Tryd.func54, Tryd.ntmps54
    go_wp2_with (first
      | (go_at_call 59; refine (HT.out _ HD.out).mono ?_; rintro r w3 ⟨rfl, hD3, hO3⟩; rw [show okE false = 20 from rfl]; have HD3 := Lib.hid hD3; have HO3 := Lib.hid hO3; clear hD3 hO3))
    go_ret
    exact ⟨rfl, (fun h => by cases h), (fun _ => ⟨HD3.out, HO3.out⟩)⟩

set_option maxRecDepth 100000 in
theorem do_remove (base d mb : Nat) (l : List Fil) (left : Int) (b0 b1 : Nat) (w : World) (h : Dl w base d mb l true left) (R : World → Prop)
    (HC : ∀ X, Dl X base d mb l true (useS left 1).2.1 → Only d w X → Calls Tryd.prog 55 #[.pointer (some ⟨b0, 0, none⟩), .pointer (some ⟨b1, 0, none⟩)] X fun r w' => r = .returned (.tuple #[]) ∧ R w') :
    Calls Tryd.prog 54 #[.pointer (some ⟨d, 0, none⟩), .func (.func 55) #[] #[.pointer (some ⟨b0, 0, none⟩), .pointer (some ⟨b1, 0, none⟩)]] w fun r w' => r = .returned (.int .i64 (okE (useS left 1).2.2)) ∧ ((useS left 1).2.2 = true → R w') ∧ ((useS left 1).2.2 = false → Dl w' base d mb l false (useS left 1).2.1 ∧ Only d w w') := by
  have HT := Lib.hid (fun X (hX : Dl X base d mb l true left) => take_any base d mb l left 1 (by omega) X hX)
  have HD := Lib.hid h
  have HC1 := Lib.hid HC
  clear h HC
  cases hu : (useS left 1).2.2 with
  | true =>
    rw [hu] at HT
    clear hu
    go_enter Tryd.func54, Tryd.ntmps54
    go_wp2_with (first
      | (go_at_call 59; refine (HT.out _ HD.out).mono ?_; rintro r w3 ⟨rfl, hD3, hO3⟩; rw [show okE true = 0 from rfl]; have HD3 := Lib.hid hD3; have HO3 := Lib.hid hO3; clear hD3 hO3)
      | (go_at_call 55; refine (HC1.out _ HD3.out HO3.out).mono ?_; rintro r w4 ⟨rfl, hR4⟩; have HR4 := Lib.hid hR4; clear hR4))
    go_ret
    exact ⟨rfl, (fun _ => HR4.out), (fun h => by cases h)⟩
  | false =>
    rw [hu] at HT
    clear hu
    go_enter Tryd.func54, Tryd.ntmps54
    go_wp2_with (first
      | (go_at_call 59; refine (HT.out _ HD.out).mono ?_; rintro r w3 ⟨rfl, hD3, hO3⟩; rw [show okE false = 20 from rfl]; have HD3 := Lib.hid hD3; have HO3 := Lib.hid hO3; clear hD3 hO3))
    go_ret
    exact ⟨rfl, (fun h => by cases h), (fun _ => ⟨HD3.out, HO3.out⟩)⟩

end
section
set_option linter.unusedVariables false
set_option linter.unusedSimpArgs false
open Go.Maps Go.RowKit

theorem only_drew (b : Nat) (w : World) : Only b w w.drew := Only.of (Below.drew (Below.refl _ _))
/-- what an act leaves, by the list of files -/
def Left (w w' : World) (base d mb : Nat) (l : List Fil) (on : Bool) (left : Int) (fs : List Fil) : Prop := ∃ l', Dl w' base d mb l' on left ∧ l'.map absF = fs ∧ Fr w w' (OwnD d mb l) (OwnD d mb l')
/-- a file's two cells hold something else; its row is as it was -/
theorem cells_done {w w' : World} {base d mb : Nat} {l : List Fil} {on : Bool} {left : Int} (hD : Dl w base d mb l on left) {f : Fil} (hf : f ∈ l) (v' : Value) (xs' : List UInt8) (k : Nat)
    (hO : Only f.blk w w') (hb : Bk w' f.blk 83 #[v', .int .i64 k]) (hv : v'.ownBlock = f.v.ownBlock) (hr : Fb w base v' xs') (hz : k ≤ xs'.length ∧ xs'.length ≤ 1048576) :
    Left w w' base d mb l on left (putF (mkF f.nm xs' k) (l.map absF)) := by
  refine ⟨_, hD.write hf v' xs' k (fun b hb hn hr => hO.block b hb hn) hO.size hb (hr.kept fun b hb => hO.block b ?_ ?_) hz (fun b h => .inl (by rw [← hv]; exact h)), by rw [abs_put]; rfl, ⟨hO.os, hO.tape, hO.output, hO.size, fun b hb hn => hO.block b hb (fun e => hn (.inr (.inr ⟨f, hf, .inl e⟩))), fun b hb => ?_⟩⟩
  · rw [hv] at hb; exact (hD.lt b (.inr (.inr ⟨f, hf, .inr hb⟩))).1
  · rw [hv] at hb; exact (hD.row_ne hf hb).2.2 f hf
  · rcases own_put hb with h | rfl | h
    · exact .inl h
    · exact .inl (.inr (.inr ⟨f, hf, .inl rfl⟩))
    · exact .inl (.inr (.inr ⟨f, hf, .inr (by rw [← hv]; exact h)⟩))

set_option maxRecDepth 100000 in
theorem sync1_any (base d mb : Nat) (l : List Fil) (on : Bool) (left : Int) (f : Fil) (hf : f ∈ l) (b0 : Nat) (w : World) (h : Dl w base d mb l on left) (hx : w.cell? ⟨b0, 0, none⟩ = some (.pointer (some ⟨f.blk, 0, none⟩))) :
    Calls Tryd.prog 60 #[.pointer (some ⟨b0, 0, none⟩)] w fun r w' => r = .returned (.tuple #[]) ∧ Left w w' base d mb l on left (putF (mkF f.nm f.xs f.xs.length) (l.map absF)) := by
  obtain ⟨c0, c1, s0, s1, flt⟩ := h.fcells hf
  obtain ⟨p0, d0, hv0, hd0⟩ := (h.row f hf).1
  obtain ⟨L0, hL0⟩ : ∃ L0, f.xs.length = L0 := ⟨_, rfl⟩
  rw [hL0] at hv0
  rw [hv0] at c0
  have HD := Lib.hid h
  have HF := Lib.hid hf
  have HV := Lib.hid hv0
  have HL := Lib.hid hL0
  have HDX := Lib.hid (h.on_ (Below.drew (Below.refl _ _)))
  clear h hf hd0 hL0 hv0
  go_enter Tryd.func60, Tryd.ntmps60
  go_wp2_with fail
  go_region
  go_end0
  refine ⟨rfl, ?_⟩
  have hbk := (HD.out.fil f HF.out).set 1 (.int .i64 (L0 : Int))
  rw [HL.out]
  exact cells_done HD.out HF.out f.v f.xs L0 ((Only.set f.blk w 1 _).trans (only_drew f.blk _)) hbk rfl (HD.out.row f HF.out) ⟨by rw [HL.out]; exact Nat.le_refl _, (HD.out.sz f HF.out).2.1⟩

/-- a text in a block -/
def TxtAt (w : World) (b : Nat) (s : ByteArray) : Prop := w.cell? ⟨b, 0, none⟩ = some (.string s)
theorem run_slice_txt (w : World) (p : Option Addr) (len cap n : Nat) (h : n ≤ cap) : (Instr.sliceAt 22 (.slice p len cap) none (some (.int .i64 (n : Int))) none).run Tryd.prog w = .ok (.slice p n cap) w :=
  run_slice_to (P := Tryd.prog) 22 5 Tryd.underlying22 (by kernel_rfl) p len cap .i64 (n : Int) n rfl h w

set_option maxRecDepth 100000 in
theorem cut1_any (base d mb : Nat) (l : List Fil) (on : Bool) (left : Int) (f : Fil) (hf : f ∈ l) (b0 b1 : Nat) (n : Nat) (hn : n ≤ f.xs.length) (w : World) (h : Dl w base d mb l on left) (hx : w.cell? ⟨b0, 0, none⟩ = some (.pointer (some ⟨f.blk, 0, none⟩))) (hy : w.cell? ⟨b1, 0, none⟩ = some (.int .i64 (n : Int))) (h0 : ¬ OwnD d mb l b0) (h1 : ¬ OwnD d mb l b1) :
    Calls Tryd.prog 64 #[.pointer (some ⟨b0, 0, none⟩), .pointer (some ⟨b1, 0, none⟩)] w fun r w' => r = .returned (.tuple #[]) ∧ Left w w' base d mb l on left (putF (mkF f.nm (f.xs.take n) (min f.sure n)) (l.map absF)) := by
  obtain ⟨c0, c1, s0, s1, flt⟩ := h.fcells hf
  obtain ⟨p0, d0, hv0, hd0⟩ := (h.row f hf).1
  obtain ⟨L0, hL0⟩ : ∃ L0, f.xs.length = L0 := ⟨_, rfl⟩
  rw [hL0] at hv0
  rw [hv0] at c0
  have hsl := fun wx => run_slice_txt wx p0 L0 d0 n (by omega)
  have n0 : b0 ≠ f.blk := fun e => h0 (.inr (.inr ⟨f, hf, .inl e⟩))
  have n1 : b1 ≠ f.blk := fun e => h1 (.inr (.inr ⟨f, hf, .inl e⟩))
  have HD := Lib.hid h
  have HF := Lib.hid hf
  have HV := Lib.hid hv0
  have HL := Lib.hid hL0
  have HN := Lib.hid hn
  clear h hf hd0 hL0 hv0 hn h0 h1
  go_enter Tryd.func64, Tryd.ntmps64
  go_wp2_with fail
  go_region
  go_wp2_with fail
  go_region
  all_goals
    go_end0
    refine ⟨rfl, ?_⟩
    have hbk := ((HD.out.fil f HF.out).set 0 (.slice p0 n d0)).set 1 (.int .i64 ((min f.sure n : Nat) : Int))
    have e1 : (if (n : Int) < (f.sure : Int) then (n : Int) else (f.sure : Int)) = ((min f.sure n : Nat) : Int) := by split <;> omega
    have hfin := cells_done (w' := ((w.setCell ⟨f.blk, 0, none⟩ (.slice p0 n d0)).setCell ⟨f.blk, 1, none⟩ (.int .i64 ((min f.sure n : Nat) : Int))).drew.drew) HD.out HF.out (.slice p0 n d0) (f.xs.take n) (min f.sure n) ((((Only.set f.blk w 0 _).trans (Only.set f.blk _ 1 _)).trans (only_drew f.blk _)).trans (only_drew f.blk _)) hbk (by rw [HV.out]; cases p0 <;> rfl) ((HV.out ▸ HD.out.row f HF.out : Fb w base (.slice p0 L0 d0) f.xs).cut n HN.out) ⟨by rw [List.length_take]; have := HN.out; omega, by rw [List.length_take]; have := (HD.out.sz f HF.out).2.1; omega⟩
    rw [← e1] at hfin
    first
      | exact hfin
      | (simp only [Int.ofNat_lt] at hfin; exact hfin)

set_option maxRecDepth 100000 in
theorem remove1_any (base d mb : Nat) (l : List Fil) (on : Bool) (left : Int) (nm : ByteArray) (hs : nm.size ≤ maxLen) (b0 b1 : Nat) (w : World) (h : Dl w base d mb l on left) (hx : w.cell? ⟨b0, 0, none⟩ = some (.pointer (some ⟨d, 0, none⟩))) (hy : w.cell? ⟨b1, 0, none⟩ = some (.string nm)) :
    Calls Tryd.prog 55 #[.pointer (some ⟨b0, 0, none⟩), .pointer (some ⟨b1, 0, none⟩)] w fun r w' => r = .returned (.tuple #[]) ∧ Left w w' base d mb l on left (delF nm.data.toList (l.map absF)) := by
  obtain ⟨c0, c1, c2, s0, s1, s2⟩ := h.cells
  obtain ⟨w2, hdr, hm2, hgr⟩ := (h.on_ (Below.drew (Below.refl w.heap.size w))).map.drop Tryd.underlying9 Tryd.underlying66 nm hs 0
  have HD := Lib.hid h
  have HM := Lib.hid hm2
  have hgr' : w.grownBy w2 (some mb) := ⟨hgr.os, hgr.tape, hgr.output, hgr.size, hgr.block⟩
  have HG := Lib.hid hgr'
  clear h hm2 hgr hgr' hs
  go_enter Tryd.func55, Tryd.ntmps55
  go_wp2_with fail
  go_region
  go_end0
  refine ⟨rfl, delF nm.data.toList l, HD.out.del nm.data.toList (fun b hb ho => HG.out.block b (HD.out.lt b ho).1 (fun e => hb (Option.some.inj e))) HM.out, abs_del _ _, (Fr.grown (w := w) (O := OwnD d mb l) HG.out (fun b e => by cases e; exact .inr (.inl rfl))).sub (fun b hb => .inl (own_del hb))⟩

set_option maxRecDepth 100000 in
set_option maxHeartbeats 1000000 in
theorem rename1_any (base d mb : Nat) (l : List Fil) (on : Bool) (left : Int) (f : Fil) (hf : f ∈ l) (nm tn : ByteArray) (hs : nm.size ≤ maxLen) (hs2 : tn.size ≤ maxLen) (hnm : f.nm = nm.data.toList) (hok : okName tn.data.toList = true) (b0 b1 b2 b3 : Nat) (w : World) (h : Dl w base d mb l on left)
    (hx0 : w.cell? ⟨b0, 0, none⟩ = some (.pointer (some ⟨d, 0, none⟩))) (hx1 : w.cell? ⟨b1, 0, none⟩ = some (.string nm)) (hx2 : w.cell? ⟨b2, 0, none⟩ = some (.pointer (some ⟨f.blk, 0, none⟩))) (hx3 : w.cell? ⟨b3, 0, none⟩ = some (.string tn)) (h0 : b0 ≠ mb) (h2 : b2 ≠ mb) (h3 : b3 ≠ mb) :
    Calls Tryd.prog 62 #[.pointer (some ⟨b0, 0, none⟩), .pointer (some ⟨b1, 0, none⟩), .pointer (some ⟨b2, 0, none⟩), .pointer (some ⟨b3, 0, none⟩)] w fun r w' => r = .returned (.tuple #[]) ∧ Left w w' base d mb l on left (putF (mkF tn.data.toList f.xs f.sure) (delF nm.data.toList (l.map absF))) := by
  obtain ⟨c0, c1, c2, s0, s1, s2⟩ := h.cells
  obtain ⟨w2, hdr, hm2, hgr⟩ := (h.on_ (Below.drew (Below.refl w.heap.size w))).map.drop Tryd.underlying9 Tryd.underlying66 nm hs 0
  replace hgr : w.grownBy w2 (some mb) := ⟨hgr.os, hgr.tape, hgr.output, hgr.size, hgr.block⟩
  obtain ⟨g, hg⟩ : ∃ g : Fil, g = ⟨tn.data.toList, f.blk, f.v, f.xs, f.sure⟩ := ⟨_, rfl⟩
  have hm2' : MapF w2.drew Tryd.prog 9 mb (delF nm.data.toList l) := hm2.kept rfl
  obtain ⟨w3, hst, hm3, hgr3⟩ := hm2'.store Tryd.underlying9 Tryd.underlying66 (by have := List.length_filter_le (fun g : Fil => !(g.nm == nm.data.toList)) l; have := h.le; unfold delF; omega) tn hs2 g (by rw [hg])
  rw [show (Value.pointer (some ⟨g.blk, 0, none⟩)) = .pointer (some ⟨f.blk, 0, none⟩) by rw [hg]] at hst
  have lt_of : ∀ {b u}, w.cell? ⟨b, 0, none⟩ = some u → b < w.heap.size := fun h => lt_of_cell h
  have y0 : w2.cell? ⟨b0, 0, none⟩ = some (.pointer (some ⟨d, 0, none⟩)) := (World.cell?_of_block (w := w) (a := ⟨b0, 0, none⟩) (hgr.block b0 (lt_of hx0) (fun e => h0 (Option.some.inj e)))).trans hx0
  have y2 : w2.cell? ⟨b2, 0, none⟩ = some (.pointer (some ⟨f.blk, 0, none⟩)) := (World.cell?_of_block (w := w) (a := ⟨b2, 0, none⟩) (hgr.block b2 (lt_of hx2) (fun e => h2 (Option.some.inj e)))).trans hx2
  have y3 : w2.cell? ⟨b3, 0, none⟩ = some (.string tn) := (World.cell?_of_block (w := w) (a := ⟨b3, 0, none⟩) (hgr.block b3 (lt_of hx3) (fun e => h3 (Option.some.inj e)))).trans hx3
  have z0 : w2.cell? ⟨d, 0, none⟩ = some (.map (some mb)) := (World.cell?_of_block (w := w) (a := ⟨d, 0, none⟩) (hgr.block d h.dsk.lt (fun e => h.ne_map (Option.some.inj e).symm))).trans c0
  have hd2 : Dl w2 base d mb (delF nm.data.toList l) on left := h.del nm.data.toList (fun b hb ho => hgr.block b (h.lt b ho).1 (fun e => hb (Option.some.inj e))) hm2
  have hot : ∀ b, OwnD d mb l b → b ≠ mb → w3.heap[b]? = w.heap[b]? := fun b ho hb => (hgr3.block b (Nat.lt_of_lt_of_le (h.lt b ho).1 hgr.size) (fun e => hb (Option.some.inj e))).trans (hgr.block b (h.lt b ho).1 (fun e => hb (Option.some.inj e)))
  have hfb : OwnD d mb l f.blk := .inr (.inr ⟨f, hf, .inl rfl⟩)
  have hd3 : Dl w3 base d mb (putF g (delF nm.data.toList l)) on left := by
    refine hd2.put (f' := g) (hgr3.block d hd2.dsk.lt (fun e => h.ne_map (Option.some.inj e).symm)) (fun x hx hn => ⟨hgr3.block x.blk (hd2.fil x hx).lt (fun e => (hd2.fil_ne hx).2 (Option.some.inj e)), fun b hb => hgr3.block b (hd2.lt b (.inr (.inr ⟨x, hx, .inr hb⟩))).1 (fun e => (hd2.row_ne hx hb).2.1 (Option.some.inj e))⟩) hm3 ?_ ?_ ?_ (fun x hx hn => ?_) ?_ ?_
    · rw [hg]; exact (hot f.blk hfb (h.fil_ne hf).2).trans (h.fil f hf)
    · rw [hg]; exact (h.row f hf).kept fun b hb => hot b (.inr (.inr ⟨f, hf, .inr hb⟩)) (h.row_ne hf hb).2.1
    · rw [hg]; exact ⟨(h.sz f hf).1, (h.sz f hf).2.1, hok⟩
    · have hx' := mem_delF.1 hx
      have := h.apart hf hx'.1 (fun e => hx'.2 (by rw [← e, hnm]))
      rw [hg]; exact this
    · have h1 : (putF g (delF nm.data.toList l)).length ≤ (delF nm.data.toList l).length + 1 := by
        unfold putF; rw [insF_len]
        have := List.length_filter_le (fun x : Fil => !(x.nm == g.nm)) (delF nm.data.toList l)
        show (List.filter _ _).length + 1 ≤ _
        omega
      have h2 : (delF nm.data.toList l).length < l.length := by
        unfold delF
        exact List.length_filter_lt_length_iff_exists.2 ⟨f, hf, by simp [hnm]⟩
      have := h.le
      omega
    · rw [hg]; exact h.bs.2.2 f hf
  have hmo : ∀ b, some mb = some b → OwnD d mb l b := fun b e => by cases e; exact .inr (.inl rfl)
  have hfr3 : Fr w w3 (OwnD d mb l) (OwnD d mb (putF g (delF nm.data.toList l))) := by
    refine (((Fr.grown (w := w) (O := OwnD d mb l) hgr hmo).trans (Fr.of (OwnD d mb l) (Below.drew (Below.refl w2.heap.size w2)))).trans (Fr.grown (w := w2.drew) (O := OwnD d mb l) hgr3 hmo)).sub (fun b hb => .inl ?_)
    rcases own_put hb with h' | h' | h'
    · exact own_del h'
    · rw [hg] at h'; exact .inr (.inr ⟨f, hf, .inl h'⟩)
    · rw [hg] at h'; exact .inr (.inr ⟨f, hf, .inr h'⟩)
  have HD3 := Lib.hid hd3
  have HFR := Lib.hid hfr3
  have HE := Lib.hid (show (putF g (delF nm.data.toList l)).map absF = putF (mkF tn.data.toList f.xs f.sure) (delF nm.data.toList (l.map absF)) by rw [abs_put, abs_del, hg]; rfl)
  clear hmo h hd2 hd3 hfr3 hm2 hm2' hm3 hgr hgr3 hot hfb hg hf hnm hok hs hs2 h0 h2 h3 lt_of
  go_enter Tryd.func62, Tryd.ntmps62
  go_wp2_with fail
  go_region
  go_wp2_with fail
  go_region
  go_end0
  exact ⟨rfl, _, HD3.out, HE.out, HFR.out⟩
end
section
set_option linter.unusedVariables false
set_option linter.unusedSimpArgs false
open Go.Maps Go.RowKit

theorem Left.after {w X w' : World} {base d mb : Nat} {l : List Fil} {on : Bool} {left : Int} {fs : List Fil} (h : Left X w' base d mb l on left fs) (hf : Fr w X (OwnD d mb l) (OwnD d mb l)) : Left w w' base d mb l on left fs := by
  obtain ⟨l', h1, h2, h3⟩ := h
  exact ⟨l', h1, h2, hf.trans h3⟩
theorem unit_end {W1 w w' : World} {base d mb : Nat} {l : List Fil} {left : Int} {fs : List Fil} (hB : Below w.heap.size w W1) (h1 : (useS left 1).2.2 = true → Left W1 w' base d mb l true (useS left 1).2.1 fs)
    (h2 : (useS left 1).2.2 = false → Dl w' base d mb l false (useS left 1).2.1 ∧ Only d W1 w') :
    After w' w base d (OwnD d mb l) (unitS ⟨l.map absF, true, left⟩ fs).1 ∧ (unitS ⟨l.map absF, true, left⟩ fs).2 = okE (useS left 1).2.2 := by
  unfold unitS DS.use
  cases hu : (useS left 1).2.2 with
  | true =>
    obtain ⟨l', a, b, c⟩ := h1 hu
    simp only [hu, if_true]
    exact ⟨⟨_, ⟨mb, l', a, b.symm, rfl⟩, (Fr.of _ hB).trans c⟩, rfl⟩
  | false =>
    obtain ⟨a, b⟩ := h2 hu
    simp only [hu]
    exact ⟨⟨_, ⟨mb, l, a, rfl, rfl⟩, (Fr.of _ hB).trans (Only.fr b (.inl rfl))⟩, rfl⟩
theorem after_same {w w' : World} {base d mb : Nat} {l : List Fil} {on : Bool} {left : Int} (h : Dl w base d mb l on left) (hB : Below w.heap.size w w') : After w' w base d (OwnD d mb l) ⟨l.map absF, on, left⟩ :=
  ⟨_, ⟨mb, l, h.on_ hB, rfl, rfl⟩, Fr.of _ hB⟩
theorem Only.cellAt {d b : Nat} {w X : World} (ho : Only d w X) (hb : b ≠ d) {u : Value} (h : w.cell? ⟨b, 0, none⟩ = some u) : X.cell? ⟨b, 0, none⟩ = some u :=
  (World.cell?_of_block (w := w) (a := ⟨b, 0, none⟩) (ho.block b (lt_of_cell h) hb)).trans h
theorem box0 (w : World) (T : TypeId) (u : Value) : (w.alloc (.cells #[u] T)).cell? ⟨w.heap.size, 0, none⟩ = some u := (Bk.new w T #[u]).cell 0 u rfl

set_option maxRecDepth 100000 in
set_option maxHeartbeats 1000000 in
theorem sync_any (base d : Nat) (s : DS) (O : Nat → Prop) (nm : ByteArray) (hs : nm.size ≤ maxLen) (w : World) (h : Dk w base d s O) :
    Calls Tryd.prog 40 #[.pointer (some ⟨d, 0, none⟩), .string nm] w fun r w' => r = .returned (.int .i64 (syncS s nm.data.toList).2) ∧ After w' w base d O (syncS s nm.data.toList).1 := by
  obtain ⟨mb, l, hD, hfs, rfl⟩ := h
  obtain ⟨fs, on, left⟩ := s
  simp only at hD hfs
  subst hfs
  have HF := Lib.hid (find_any base d mb l on left nm hs w hD)
  have HD := Lib.hid hD
  cases on with
  | false =>
    have HS := Lib.hid (show syncS ⟨l.map absF, false, left⟩ nm.data.toList = (⟨l.map absF, false, left⟩, 20) by rfl)
    rw [show findP false (getF nm.data.toList l) = .pointer none from rfl, show findE false (getF nm.data.toList l) = 20 from rfl] at HF
    have HB := Lib.hid (below1 w (.cells #[.pointer none] 81))
    clear hD hs
    go_enter Tryd.func40, Tryd.ntmps40
    go_wp2_with (go_at_call 46; refine HF.out.mono ?_; rintro r w1 ⟨rfl, rfl⟩)
    go_ret
    rw [HS.out]
    exact ⟨rfl, after_same HD.out HB.out⟩
  | true =>
    cases hg : getF nm.data.toList l with
    | none =>
      have HS := Lib.hid (show syncS ⟨l.map absF, true, left⟩ nm.data.toList = (⟨l.map absF, true, left⟩, 4) by
        unfold syncS; rw [if_neg (by simp), abs_get, hg]; rfl)
      rw [hg, show findP true none = .pointer none from rfl, show findE true none = 4 from rfl] at HF
      have HB := Lib.hid (below1 w (.cells #[.pointer none] 81))
      clear hD hs hg
      go_enter Tryd.func40, Tryd.ntmps40
      go_wp2_with (go_at_call 46; refine HF.out.mono ?_; rintro r w1 ⟨rfl, rfl⟩)
      go_ret
      rw [HS.out]
      exact ⟨rfl, after_same HD.out HB.out⟩
    | some f =>
      obtain ⟨hf, hfn⟩ := getF_mem hg
      have HS := Lib.hid (show syncS ⟨l.map absF, true, left⟩ nm.data.toList = unitS ⟨l.map absF, true, left⟩ (putF (mkF f.nm f.xs f.xs.length) (l.map absF)) by
        unfold syncS; rw [if_neg (by simp), abs_get, hg, hfn]; rfl)
      rw [hg, show findP true (some f) = .pointer (some ⟨f.blk, 0, none⟩) from rfl, show findE true (some f) = 0 from rfl] at HF
      have HB := Lib.hid (below1 w (.cells #[.pointer (some ⟨f.blk, 0, none⟩)] 81))
      have HD1 := Lib.hid (hD.on_ HB.out)
      have HC := Lib.hid (do_sync base d mb l left w.heap.size _ HD1.out (fun w' => Left (w.alloc (.cells #[.pointer (some ⟨f.blk, 0, none⟩)] 81)) w' base d mb l true (useS left 1).2.1 (putF (mkF f.nm f.xs f.xs.length) (l.map absF))) (fun X hX hO =>
        (sync1_any base d mb l true _ f hf w.heap.size X hX (hO.cellAt (by have := hD.dsk.lt; omega) (box0 w _ _))).mono fun r w' hr => ⟨hr.1, hr.2.after (Only.fr hO (.inl rfl))⟩))
      clear hD hs hg hf hfn
      go_enter Tryd.func40, Tryd.ntmps40
      go_wp2_with (first
        | (go_at_call 46; refine HF.out.mono ?_; rintro r w1 ⟨rfl, rfl⟩)
        | (go_at_call 54; refine HC.out.mono ?_; rintro r w1 ⟨rfl, h1, h2⟩; have HE := Lib.hid (unit_end HB.out h1 h2); clear h1 h2))
      go_ret
      rw [HS.out]
      exact ⟨by rw [HE.out.2]; rfl, HE.out.1⟩

set_option maxRecDepth 100000 in
set_option maxHeartbeats 1000000 in
theorem remove_any (base d : Nat) (s : DS) (O : Nat → Prop) (nm : ByteArray) (hs : nm.size ≤ maxLen) (w : World) (h : Dk w base d s O) :
    Calls Tryd.prog 35 #[.pointer (some ⟨d, 0, none⟩), .string nm] w fun r w' => r = .returned (.int .i64 (remS s nm.data.toList).2) ∧ After w' w base d O (remS s nm.data.toList).1 := by
  obtain ⟨mb, l, hD, hfs, rfl⟩ := h
  obtain ⟨fs, on, left⟩ := s
  simp only at hD hfs
  subst hfs
  obtain ⟨W1, hW1⟩ : ∃ W1, W1 = (w.alloc (.cells #[.pointer (some ⟨d, 0, none⟩)] 42)).alloc (.cells #[.string nm] 9) := ⟨_, rfl⟩
  have hB : Below w.heap.size w W1 := hW1 ▸ below2 w _ _
  have hD1 := hD.on_ hB
  have x0 : W1.cell? ⟨w.heap.size, 0, none⟩ = some (.pointer (some ⟨d, 0, none⟩)) := by
    rw [hW1]; exact ((Bk.new w 42 #[.pointer (some ⟨d, 0, none⟩)]).on (below1 _ _)).cell 0 _ rfl
  have x1 : W1.cell? ⟨w.heap.size + 1, 0, none⟩ = some (.string nm) := by
    rw [hW1]; exact (Bk.new' (N := w.heap.size + 1) (w.alloc (.cells #[.pointer (some ⟨d, 0, none⟩)] 42)) (by simp) 9 #[.string nm]).cell 0 _ rfl
  have HF := Lib.hid (find_any base d mb l on left nm hs W1 hD1)
  have HB := Lib.hid hB
  have HD1 := Lib.hid hD1
  have HW := Lib.hid hW1
  have hdl := hD.dsk.lt
  have fin : ∀ (w' : World) (X : World), Left X w' base d mb l true (useS left 1).2.1 (delF nm.data.toList (l.map absF)) → True := fun _ _ _ => trivial
  cases on with
  | false =>
    have HS := Lib.hid (show remS ⟨l.map absF, false, left⟩ nm.data.toList = (⟨l.map absF, false, left⟩, 20) by rfl)
    have HFIN := Lib.hid (after_same (w := w) hD hB)
    rw [show findP false (getF nm.data.toList l) = .pointer none from rfl, show findE false (getF nm.data.toList l) = 20 from rfl] at HF
    subst hW1
    clear hD hD1 hs hB x0 x1 fin hdl
    go_enter Tryd.func35, Tryd.ntmps35
    go_wp2_with (go_at_call 46; refine HF.out.mono ?_; rintro r w1 ⟨rfl, rfl⟩)
    go_ret
    rw [HS.out]
    exact ⟨rfl, HFIN.out⟩
  | true =>
    cases hg : getF nm.data.toList l with
    | none =>
      have HS := Lib.hid (show remS ⟨l.map absF, true, left⟩ nm.data.toList = (⟨l.map absF, true, left⟩, 4) by
        unfold remS; rw [if_neg (by simp), abs_get, hg]; rfl)
      have HFIN := Lib.hid (after_same (w := w) hD hB)
      rw [hg, show findP true none = .pointer none from rfl, show findE true none = 4 from rfl] at HF
      subst hW1
      clear hD hD1 hs hB x0 x1 hg fin hdl
      go_enter Tryd.func35, Tryd.ntmps35
      go_wp2_with (go_at_call 46; refine HF.out.mono ?_; rintro r w1 ⟨rfl, rfl⟩)
      go_ret
      rw [HS.out]
      exact ⟨rfl, HFIN.out⟩
    | some f =>
      have HS := Lib.hid (show remS ⟨l.map absF, true, left⟩ nm.data.toList = unitS ⟨l.map absF, true, left⟩ (delF nm.data.toList (l.map absF)) by
        unfold remS; rw [if_neg (by simp), abs_get, hg]; rfl)
      rw [hg, show findP true (some f) = .pointer (some ⟨f.blk, 0, none⟩) from rfl, show findE true (some f) = 0 from rfl] at HF
      have HC := Lib.hid (do_remove base d mb l left w.heap.size (w.heap.size + 1) _ HD1.out (fun w' => Left W1 w' base d mb l true (useS left 1).2.1 (delF nm.data.toList (l.map absF))) (fun X hX hO =>
        (remove1_any base d mb l true _ nm hs w.heap.size (w.heap.size + 1) X hX (hO.cellAt (by omega) x0) (hO.cellAt (by omega) x1)).mono fun r w' hr => ⟨hr.1, hr.2.after (Only.fr hO (.inl rfl))⟩))
      have HUN := Lib.hid (fun w' h1 h2 => unit_end (w := w) (w' := w') (l := l) (left := left) (base := base) (d := d) (mb := mb) (fs := delF nm.data.toList (l.map absF)) hB h1 h2)
      subst hW1
      clear hD hD1 hs hB x0 x1 hg fin hdl
      go_enter Tryd.func35, Tryd.ntmps35
      go_wp2_with (first
        | (go_at_call 46; refine HF.out.mono ?_; rintro r w1 ⟨rfl, rfl⟩)
        | (go_at_call 54; refine HC.out.mono ?_; rintro r w1 ⟨rfl, h1, h2⟩; have HE := Lib.hid (HUN.out _ h1 h2); clear h1 h2))
      go_ret
      rw [HS.out]
      exact ⟨by rw [HE.out.2]; rfl, HE.out.1⟩

set_option maxRecDepth 100000 in
set_option maxHeartbeats 2000000 in
theorem rename_any (base d : Nat) (s : DS) (O : Nat → Prop) (nm tn : ByteArray) (hs : nm.size ≤ maxLen) (hs2 : tn.size ≤ maxLen) (w : World) (h : Dk w base d s O) :
    Calls Tryd.prog 42 #[.pointer (some ⟨d, 0, none⟩), .string nm, .string tn] w fun r w' => r = .returned (.int .i64 (renS s nm.data.toList tn.data.toList).2) ∧ After w' w base d O (renS s nm.data.toList tn.data.toList).1 := by
  obtain ⟨mb, l, hD, hfs, rfl⟩ := h
  obtain ⟨fs, on, left⟩ := s
  simp only at hD hfs
  subst hfs
  obtain ⟨W1, hW1⟩ : ∃ W1, W1 = ((w.alloc (.cells #[.pointer (some ⟨d, 0, none⟩)] 42)).alloc (.cells #[.string nm] 9)).alloc (.cells #[.string tn] 9) := ⟨_, rfl⟩
  have hB : Below w.heap.size w W1 := hW1 ▸ (below2 w _ _).alloc (by simp; omega) _
  have hz1 : W1.heap.size = w.heap.size + 3 := by rw [hW1]; simp
  have hD1 := hD.on_ hB
  have x0 : W1.cell? ⟨w.heap.size, 0, none⟩ = some (.pointer (some ⟨d, 0, none⟩)) := by
    rw [hW1]; exact (((Bk.new w 42 #[.pointer (some ⟨d, 0, none⟩)]).on (below1 _ _)).on (below1 _ _)).cell 0 _ rfl
  have x1 : W1.cell? ⟨w.heap.size + 1, 0, none⟩ = some (.string nm) := by
    rw [hW1]; exact ((Bk.new' (N := w.heap.size + 1) (w.alloc (.cells #[.pointer (some ⟨d, 0, none⟩)] 42)) (by simp) 9 #[.string nm]).on (below1 _ _)).cell 0 _ rfl
  have x2 : W1.cell? ⟨w.heap.size + 1 + 1, 0, none⟩ = some (.string tn) := by
    rw [hW1]; exact (Bk.new' (N := w.heap.size + 1 + 1) ((w.alloc (.cells #[.pointer (some ⟨d, 0, none⟩)] 42)).alloc (.cells #[.string nm] 9)) (by simp) 9 #[.string tn]).cell 0 _ rfl
  have HF := Lib.hid (find_any base d mb l on left nm hs W1 hD1)
  have HN := Lib.hid (fun X => Nm.name_any tn X hs2)
  have hdl := hD.dsk.lt
  have hml := hD.map.lt
  have hnl : w.heap.size ≠ d ∧ w.heap.size ≠ mb := ⟨by omega, by omega⟩
  cases on with
  | false =>
    have HS := Lib.hid (show renS ⟨l.map absF, false, left⟩ nm.data.toList tn.data.toList = (⟨l.map absF, false, left⟩, 20) by rfl)
    have HFIN := Lib.hid (after_same (w := w) hD (hB.trans ((below1 W1 (.cells #[.pointer none] 81)).mono hB.size)))
    rw [show findP false (getF nm.data.toList l) = .pointer none from rfl, show findE false (getF nm.data.toList l) = 20 from rfl] at HF
    subst hW1
    clear hD hD1 hs hs2 hB x0 x1 x2 hdl hml hnl hz1 HN
    go_enter Tryd.func42, Tryd.ntmps42
    go_wp2_with (go_at_call 46; refine HF.out.mono ?_; rintro r w1 ⟨rfl, rfl⟩)
    go_ret
    rw [HS.out]
    exact ⟨rfl, HFIN.out⟩
  | true =>
    cases hg : getF nm.data.toList l with
    | none =>
      have HS := Lib.hid (show renS ⟨l.map absF, true, left⟩ nm.data.toList tn.data.toList = (⟨l.map absF, true, left⟩, 4) by
        unfold renS; rw [if_neg (by simp), abs_get, hg]; rfl)
      have HFIN := Lib.hid (after_same (w := w) hD (hB.trans ((below1 W1 (.cells #[.pointer none] 81)).mono hB.size)))
      rw [hg, show findP true none = .pointer none from rfl, show findE true none = 4 from rfl] at HF
      subst hW1
      clear hD hD1 hs hs2 hB x0 x1 x2 hg hdl hml hnl hz1 HN
      go_enter Tryd.func42, Tryd.ntmps42
      go_wp2_with (go_at_call 46; refine HF.out.mono ?_; rintro r w1 ⟨rfl, rfl⟩)
      go_ret
      rw [HS.out]
      exact ⟨rfl, HFIN.out⟩
    | some f =>
      obtain ⟨hf, hfn⟩ := getF_mem hg
      rw [hg, show findP true (some f) = .pointer (some ⟨f.blk, 0, none⟩) from rfl, show findE true (some f) = 0 from rfl] at HF
      obtain ⟨W2, hW2⟩ : ∃ W2, W2 = W1.alloc (.cells #[.pointer (some ⟨f.blk, 0, none⟩)] 81) := ⟨_, rfl⟩
      have hb2 : Below W1.heap.size W1 W2 := hW2 ▸ below1 W1 _
      have hB2 : Below w.heap.size w W2 := hB.trans (hb2.mono hB.size)
      have hD2 := hD.on_ hB2
      have y0 : W2.cell? ⟨w.heap.size, 0, none⟩ = some (.pointer (some ⟨d, 0, none⟩)) := by rw [hb2.cell (p := ⟨w.heap.size, 0, none⟩) (by show w.heap.size < W1.heap.size; omega)]; exact x0
      have y1 : W2.cell? ⟨w.heap.size + 1, 0, none⟩ = some (.string nm) := by rw [hb2.cell (p := ⟨w.heap.size + 1, 0, none⟩) (by show w.heap.size + 1 < W1.heap.size; omega)]; exact x1
      have y2 : W2.cell? ⟨w.heap.size + 1 + 1, 0, none⟩ = some (.string tn) := by rw [hb2.cell (p := ⟨w.heap.size + 1 + 1, 0, none⟩) (by show w.heap.size + 1 + 1 < W1.heap.size; omega)]; exact x2
      have y3 : W2.cell? ⟨w.heap.size + 1 + 1 + 1, 0, none⟩ = some (.pointer (some ⟨f.blk, 0, none⟩)) := by
        rw [hW2, show w.heap.size + 1 + 1 + 1 = W1.heap.size by omega]; exact box0 W1 _ _
      cases hb : Nm.nameB tn with
      | false =>
        rw [hb] at HN
        have HS := Lib.hid (show renS ⟨l.map absF, true, left⟩ nm.data.toList tn.data.toList = (⟨l.map absF, true, left⟩, 1) by
          unfold renS; rw [if_neg (by simp), abs_get, hg]
          show (if okName tn.data.toList = false then _ else _) = _
          rw [if_pos (by rw [okName, bytesOf_list]; exact hb)])
        have HFIN := Lib.hid (after_same (w := w) hD hB2)
        subst hW2
        subst hW1
        clear hD hD1 hD2 hs hs2 hB hB2 hb2 x0 x1 x2 y0 y1 y3 hg hf hfn hdl hml hnl hz1 hb
        go_enter Tryd.func42, Tryd.ntmps42
        go_wp2_with (first
          | (go_at_call 46; refine HF.out.mono ?_; rintro r w1 ⟨rfl, rfl⟩)
          | (go_at_call 58; refine (HN.out _).mono ?_; rintro r w1 ⟨rfl, rfl⟩))
        go_ret
        rw [HS.out]
        exact ⟨rfl, HFIN.out⟩
      | true =>
        rw [hb] at HN
        have hok : okName tn.data.toList = true := by rw [okName, bytesOf_list]; exact hb
        have HS := Lib.hid (show renS ⟨l.map absF, true, left⟩ nm.data.toList tn.data.toList = unitS ⟨l.map absF, true, left⟩ (putF (mkF tn.data.toList f.xs f.sure) (delF nm.data.toList (l.map absF))) by
          unfold renS; rw [if_neg (by simp), abs_get, hg]
          show (if okName tn.data.toList = false then _ else _) = _
          rw [if_neg (by rw [hok]; simp)]; rfl)
        have HC := Lib.hid (do_rename base d mb l left w.heap.size (w.heap.size + 1) (w.heap.size + 1 + 1 + 1) (w.heap.size + 1 + 1) _ hD2 (fun w' => Left W2 w' base d mb l true (useS left 1).2.1 (putF (mkF tn.data.toList f.xs f.sure) (delF nm.data.toList (l.map absF)))) (fun X hX hO =>
          (rename1_any base d mb l true _ f hf nm tn hs hs2 hfn hok w.heap.size (w.heap.size + 1) (w.heap.size + 1 + 1 + 1) (w.heap.size + 1 + 1) X hX (hO.cellAt (by omega) y0) (hO.cellAt (by omega) y1) (hO.cellAt (by omega) y3) (hO.cellAt (by omega) y2) (by omega) (by omega) (by omega)).mono fun r w' hr => ⟨hr.1, hr.2.after (Only.fr hO (.inl rfl))⟩))
        have HUN := Lib.hid (fun w' h1 h2 => unit_end (w := w) (w' := w') (l := l) (left := left) (base := base) (d := d) (mb := mb) (fs := putF (mkF tn.data.toList f.xs f.sure) (delF nm.data.toList (l.map absF))) hB2 h1 h2)
        subst hW2
        subst hW1
        clear hD hD1 hD2 hs hs2 hB hB2 hb2 x0 x1 x2 y0 y1 y3 hg hf hfn hdl hml hnl hz1 hb hok
        go_enter Tryd.func42, Tryd.ntmps42
        go_wp2_with (first
          | (go_at_call 46; refine HF.out.mono ?_; rintro r w1 ⟨rfl, rfl⟩)
          | (go_at_call 58; refine (HN.out _).mono ?_; rintro r w1 ⟨rfl, rfl⟩)
          | (go_at_call 54; refine HC.out.mono ?_; rintro r w1 ⟨rfl, h1, h2⟩; have HE := Lib.hid (HUN.out _ h1 h2); clear h1 h2))
        go_ret
        rw [HS.out]
        exact ⟨by rw [HE.out.2]; rfl, HE.out.1⟩
end
section
set_option linter.unusedVariables false
set_option linter.unusedSimpArgs false
open Go.Maps Go.RowKit

set_option maxRecDepth 100000 in
set_option maxHeartbeats 2000000 in
theorem cut_any (base d : Nat) (s : DS) (O : Nat → Prop) (nm : ByteArray) (hs : nm.size ≤ maxLen) (n : Int) (w : World) (h : Dk w base d s O) :
    Calls Tryd.prog 44 #[.pointer (some ⟨d, 0, none⟩), .string nm, .int .i64 n] w fun r w' => r = .returned (.int .i64 (cutS s nm.data.toList n).2) ∧ After w' w base d O (cutS s nm.data.toList n).1 := by
  obtain ⟨mb, l, hD, hfs, rfl⟩ := h
  obtain ⟨fs, on, left⟩ := s
  simp only at hD hfs
  subst hfs
  obtain ⟨W1, hW1⟩ : ∃ W1, W1 = w.alloc (.cells #[.int .i64 n] 3) := ⟨_, rfl⟩
  have hB : Below w.heap.size w W1 := hW1 ▸ below1 w _
  have hz1 : W1.heap.size = w.heap.size + 1 := by rw [hW1]; simp
  have hD1 := hD.on_ hB
  have x0 : W1.cell? ⟨w.heap.size, 0, none⟩ = some (.int .i64 n) := by rw [hW1]; exact box0 w _ _
  have HF := Lib.hid (find_any base d mb l on left nm hs W1 hD1)
  have hdl := hD.dsk.lt
  cases on with
  | false =>
    have HS := Lib.hid (show cutS ⟨l.map absF, false, left⟩ nm.data.toList n = (⟨l.map absF, false, left⟩, 20) by rfl)
    have HFIN := Lib.hid (after_same (w := w) hD (hB.trans ((below1 W1 (.cells #[.pointer none] 81)).mono hB.size)))
    rw [show findP false (getF nm.data.toList l) = .pointer none from rfl, show findE false (getF nm.data.toList l) = 20 from rfl] at HF
    subst hW1
    clear hD hD1 hs hB x0 hdl hz1
    go_enter Tryd.func44, Tryd.ntmps44
    go_wp2_with (go_at_call 46; refine HF.out.mono ?_; rintro r w1 ⟨rfl, rfl⟩)
    go_ret
    rw [HS.out]
    exact ⟨rfl, HFIN.out⟩
  | true =>
    cases hg : getF nm.data.toList l with
    | none =>
      have HS := Lib.hid (show cutS ⟨l.map absF, true, left⟩ nm.data.toList n = (⟨l.map absF, true, left⟩, 4) by
        unfold cutS; rw [if_neg (by simp), abs_get, hg]; rfl)
      have HFIN := Lib.hid (after_same (w := w) hD (hB.trans ((below1 W1 (.cells #[.pointer none] 81)).mono hB.size)))
      rw [hg, show findP true none = .pointer none from rfl, show findE true none = 4 from rfl] at HF
      subst hW1
      clear hD hD1 hs hB x0 hg hdl hz1
      go_enter Tryd.func44, Tryd.ntmps44
      go_wp2_with (go_at_call 46; refine HF.out.mono ?_; rintro r w1 ⟨rfl, rfl⟩)
      go_ret
      rw [HS.out]
      exact ⟨rfl, HFIN.out⟩
    | some f =>
      obtain ⟨hf, hfn⟩ := getF_mem hg
      rw [hg, show findP true (some f) = .pointer (some ⟨f.blk, 0, none⟩) from rfl, show findE true (some f) = 0 from rfl] at HF
      obtain ⟨W2, hW2⟩ : ∃ W2, W2 = W1.alloc (.cells #[.pointer (some ⟨f.blk, 0, none⟩)] 81) := ⟨_, rfl⟩
      have hb2 : Below W1.heap.size W1 W2 := hW2 ▸ below1 W1 _
      have hB2 : Below w.heap.size w W2 := hB.trans (hb2.mono hB.size)
      have hD2 := hD.on_ hB2
      have y0 : W2.cell? ⟨w.heap.size, 0, none⟩ = some (.int .i64 n) := by rw [hb2.cell (p := ⟨w.heap.size, 0, none⟩) (by show w.heap.size < W1.heap.size; omega)]; exact x0
      have y1 : W2.cell? ⟨w.heap.size + 1, 0, none⟩ = some (.pointer (some ⟨f.blk, 0, none⟩)) := by
        rw [hW2, show w.heap.size + 1 = W1.heap.size by omega]; exact box0 W1 _ _
      obtain ⟨fc0, fc1, fs0, fs1, flt⟩ := hD2.fcells hf
      obtain ⟨p0, d0, hv0, hd0⟩ := (hD.row f hf).1
      obtain ⟨L0, hL0⟩ : ∃ L0, f.xs.length = L0 := ⟨_, rfl⟩
      rw [hL0] at hv0
      rw [hv0] at fc0
      by_cases hneg : n < 0
      · have HS := Lib.hid (show cutS ⟨l.map absF, true, left⟩ nm.data.toList n = (⟨l.map absF, true, left⟩, 1) by
          unfold cutS; rw [if_neg (by simp), abs_get, hg]
          show (if n < 0 ∨ (f.xs.length : Int) < n then _ else _) = _
          rw [if_pos (.inl hneg)])
        have HFIN := Lib.hid (fun k => after_same (w := w) hD (hB2.trans ((below_drewN' (Below.refl W2.heap.size W2) k).mono hB2.size)))
        have HW2 := Lib.hid hW2
        have HW1 := Lib.hid hW1
        have HZ1 := Lib.hid hz1
        clear hD hD1 hD2 hs hB hB2 hb2 x0 hg hf hfn hdl hz1 hv0 hL0 hd0 fc1 fs0 fs1 flt hW1 hW2
        go_enter Tryd.func44, Tryd.ntmps44
        go_upto_region 4 with (go_at_call 46; rw [← HW1.out]; refine HF.out.mono ?_; rintro r w1 ⟨rfl, rfl⟩)
        rw [← HW2.out, HZ1.out]
        go_quiet (fail)
        go_wp2_with fail
        go_ret
        rw [HS.out]
        exact ⟨rfl, HFIN.out nq⟩
      · obtain ⟨n, rfl⟩ : ∃ k : Nat, n = (k : Int) := ⟨n.toNat, by omega⟩
        by_cases hgt : L0 < n
        · have HS := Lib.hid (show cutS ⟨l.map absF, true, left⟩ nm.data.toList (n : Int) = (⟨l.map absF, true, left⟩, 1) by
            unfold cutS; rw [if_neg (by simp), abs_get, hg]
            show (if (n : Int) < 0 ∨ (f.xs.length : Int) < (n : Int) then _ else _) = _
            rw [if_pos (.inr (by omega))])
          have HFIN := Lib.hid (after_same (w := w) hD (hB2.trans (Below.drew (Below.refl _ W2) |>.mono hB2.size)))
          have z0 : W2.drew.cell? ⟨w.heap.size, 0, none⟩ = some (.int .i64 n) := y0
          have z1 : W2.drew.cell? ⟨w.heap.size + 1, 0, none⟩ = some (.pointer (some ⟨f.blk, 0, none⟩)) := y1
          have z2 : W2.drew.cell? ⟨f.blk, 0, none⟩ = some (.slice p0 L0 d0) := fc0
          have k1 : ¬ (n : Int) < 0 := hneg
          have k2 : (0 : Int) ≤ (n : Int) := by omega
          have k3 : (L0 : Int) < (n : Int) := by omega
          have HW2 := Lib.hid hW2
          have HW1 := Lib.hid hW1
          have HZ1 := Lib.hid hz1
          clear hD hD1 hD2 hs hB hB2 hb2 x0 y0 y1 hg hf hfn hdl hz1 hv0 hL0 hd0 fc0 fc1 fs0 fs1 flt hW1 hW2 hneg hgt
          go_enter Tryd.func44, Tryd.ntmps44
          go_upto_region 4 with (go_at_call 46; rw [← HW1.out]; refine HF.out.mono ?_; rintro r w1 ⟨rfl, rfl⟩)
          rw [← HW2.out, HZ1.out]
          go_region_held3 (fun X => X = W2.drew) (first | rfl | go_keep) (fail)
          all_goals
            go_wp2_with fail
            go_ret
            rw [HS.out]
            exact ⟨rfl, HFIN.out⟩
        · have HS := Lib.hid (show cutS ⟨l.map absF, true, left⟩ nm.data.toList (n : Int) = unitS ⟨l.map absF, true, left⟩ (putF (mkF f.nm (f.xs.take n) (min f.sure n)) (l.map absF)) by
            unfold cutS; rw [if_neg (by simp), abs_get, hg]
            show (if (n : Int) < 0 ∨ (f.xs.length : Int) < (n : Int) then _ else _) = _
            rw [if_neg (by omega), hfn]; rfl)
          have hB3 : Below w.heap.size w W2.drew := hB2.trans (Below.drew (Below.refl _ W2) |>.mono hB2.size)
          have hD3 := hD.on_ hB3
          have z0 : W2.drew.cell? ⟨w.heap.size, 0, none⟩ = some (.int .i64 n) := y0
          have z1 : W2.drew.cell? ⟨w.heap.size + 1, 0, none⟩ = some (.pointer (some ⟨f.blk, 0, none⟩)) := y1
          have z2 : W2.drew.cell? ⟨f.blk, 0, none⟩ = some (.slice p0 L0 d0) := fc0
          have hno : ∀ b, w.heap.size ≤ b → ∀ X, Dl X base d mb l true (useS left 1).2.1 → Only d W2.drew X → ¬ OwnD d mb l b := by
            intro b hb X hX hO ho
            have := (hD.lt b ho).1
            omega
          have HC := Lib.hid (do_cut base d mb l left (w.heap.size + 1) w.heap.size _ hD3 (fun w' => Left W2.drew w' base d mb l true (useS left 1).2.1 (putF (mkF f.nm (f.xs.take n) (min f.sure n)) (l.map absF))) (fun X hX hO =>
            (cut1_any base d mb l true _ f hf (w.heap.size + 1) w.heap.size n (by omega) X hX (hO.cellAt (by omega) z1) (hO.cellAt (by omega) z0) (hno _ (by omega) X hX hO) (hno _ (Nat.le_refl _) X hX hO)).mono fun r w' hr => ⟨hr.1, hr.2.after (Only.fr hO (.inl rfl))⟩))
          have HUN := Lib.hid (fun w' h1 h2 => unit_end (w := w) (w' := w') (l := l) (left := left) (base := base) (d := d) (mb := mb) (fs := putF (mkF f.nm (f.xs.take n) (min f.sure n)) (l.map absF)) hB3 h1 h2)
          have k1 : ¬ (n : Int) < 0 := hneg
          have k2 : (0 : Int) ≤ (n : Int) := by omega
          have k3 : ¬ (L0 : Int) < (n : Int) := by omega
          have k4 : (n : Int) ≤ (L0 : Int) := by omega
          have HW2 := Lib.hid hW2
          have HW1 := Lib.hid hW1
          have HZ1 := Lib.hid hz1
          clear hD hD1 hD2 hD3 hs hB hB2 hB3 hb2 x0 y0 y1 hg hf hfn hdl hz1 hv0 hL0 hd0 fc0 fc1 fs0 fs1 flt hW1 hW2 hneg hgt hno
          go_enter Tryd.func44, Tryd.ntmps44
          go_upto_region 4 with (go_at_call 46; rw [← HW1.out]; refine HF.out.mono ?_; rintro r w1 ⟨rfl, rfl⟩)
          rw [← HW2.out, HZ1.out]
          go_region_held3 (fun X => X = W2.drew) (first | rfl | go_keep) (fail)
          all_goals
            go_wp2_with (go_at_call 54; refine HC.out.mono ?_; rintro r w1 ⟨rfl, h1, h2⟩; have HE := Lib.hid (HUN.out _ h1 h2); clear h1 h2)
            go_ret
            rw [HS.out]
            exact ⟨by rw [HE.out.2]; rfl, HE.out.1⟩
end
section
set_option linter.unusedVariables false
set_option linter.unusedSimpArgs false
open Go.Maps Go.RowKit

set_option maxRecDepth 100000 in
/-- a copy, or nil of nil -/
theorem cloneD (q : Option Addr) (n c : Nat) (m : List UInt8) (hn : n = m.length) (w : World) (hR : Rd0 w q m) (hz : m.length ≤ 1000000000) (hq : q = none ∨ ∃ b o, q = some ⟨b, o, none⟩) :
    Calls Tryd.prog 30 #[.slice q n c] w fun e w' => ∃ v', e = .returned v' ∧ Acc w' w.heap.size v' m ∧ Below w.heap.size w w' := by
  subst hn
  have HR := Lib.hid hR
  rcases hq with rfl | ⟨b, o, rfl⟩
  · have hm : m = [] := by
      rcases hR with h | ⟨_, _, h, _⟩
      · exact h
      · cases h
    subst hm
    clear hR HR
    have hcmp : ∀ wx : World, (binOp .eql 22 (.slice none ([] : List UInt8).length c) (.slice none 0 0)).run Tryd.prog wx = .ok (.bool true) wx := fun wx => by
      simp only [binOp]
      simp [run_equal_slice_nil wx 22 5 _ _ _ Tryd.underlying22]
    simp only [List.length_nil] at hcmp ⊢
    go_enter Tryd.func30, Tryd.ntmps30
    go_wp2_with fail
    go_ret
    exact ⟨_, rfl, acc_nil, Below.refl _ _⟩
  · clear hR
    have hcmp : ∀ wx : World, (binOp .eql 22 (.slice (some ⟨b, o, none⟩) m.length c) (.slice none 0 0)).run Tryd.prog wx = .ok (.bool false) wx := fun wx => by
      simp only [binOp]
      simp [run_equal_slice_nil wx 22 5 _ _ _ Tryd.underlying22]
    go_enter Tryd.func30, Tryd.ntmps30
    go_wp2_with (refine wpList_app8 rfl _ _ rfl rfl w.heap.size _ [] rfl (acc_made (w := w) (Nat.le_refl _)) _ m _ _ rfl rfl (HR.out.on (below1 _ _)) (by simp; omega) (by simp) ?_; intro v2 w2 hA hb; rw [List.nil_append] at hA; have HA := Lib.hid hA; have HB := Lib.hid ((below1 w (.cells #[] 5)).trans hb); clear hA hb)
    go_ret
    exact ⟨_, rfl, HA.out, HB.out⟩

set_option maxRecDepth 100000 in
theorem read_any (base d : Nat) (s : DS) (O : Nat → Prop) (nm : ByteArray) (hs : nm.size ≤ maxLen) (w : World) (h : Dk w base d s O) :
    Calls Tryd.prog 22 #[.pointer (some ⟨d, 0, none⟩), .string nm] w fun r w' => ∃ v, r = .returned (.tuple #[v, .int .i64 (readS s nm.data.toList).2]) ∧ Acc w' w.heap.size v (readS s nm.data.toList).1 ∧ Below w.heap.size w w' := by
  obtain ⟨mb, l, hD, hfs, rfl⟩ := h
  obtain ⟨fs, on, left⟩ := s
  simp only at hD hfs
  subst hfs
  have HF := Lib.hid (find_any base d mb l on left nm hs w hD)
  cases on with
  | false =>
    have HS := Lib.hid (show readS ⟨l.map absF, false, left⟩ nm.data.toList = ([], 20) by rfl)
    rw [show findP false (getF nm.data.toList l) = .pointer none from rfl, show findE false (getF nm.data.toList l) = 20 from rfl] at HF
    rw [HS.out]
    clear hD hs
    go_enter Tryd.func22, Tryd.ntmps22
    go_wp2_with (go_at_call 46; refine HF.out.mono ?_; rintro r w1 ⟨rfl, rfl⟩)
    exact bodyPost_ret (results_tmp2 rfl _ _ _) rfl ⟨_, rfl, acc_nil, Below.refl _ _⟩
  | true =>
    cases hg : getF nm.data.toList l with
    | none =>
      have HS := Lib.hid (show readS ⟨l.map absF, true, left⟩ nm.data.toList = ([], 4) by
        unfold readS; rw [if_neg (by simp), abs_get, hg]; rfl)
      rw [hg, show findP true none = .pointer none from rfl, show findE true none = 4 from rfl] at HF
      rw [HS.out]
      clear hD hs hg
      go_enter Tryd.func22, Tryd.ntmps22
      go_wp2_with (go_at_call 46; refine HF.out.mono ?_; rintro r w1 ⟨rfl, rfl⟩)
      exact bodyPost_ret (results_tmp2 rfl _ _ _) rfl ⟨_, rfl, acc_nil, Below.refl _ _⟩
    | some f =>
      obtain ⟨hf, hfn⟩ := getF_mem hg
      have HS := Lib.hid (show readS ⟨l.map absF, true, left⟩ nm.data.toList = (f.xs, 0) by
        unfold readS; rw [if_neg (by simp), abs_get, hg]; rfl)
      rw [hg, show findP true (some f) = .pointer (some ⟨f.blk, 0, none⟩) from rfl, show findE true (some f) = 0 from rfl] at HF
      rw [HS.out]
      obtain ⟨fc0, fc1, fs0, fs1, flt⟩ := hD.fcells hf
      have hA := (hD.row f hf).acc
      obtain ⟨p0, d0, hv0, hd0, hr0⟩ := hA.rd
      rw [hv0] at fc0
      have hform : p0 = none ∨ ∃ b o, p0 = some ⟨b, o, none⟩ := by
        rcases (hD.row f hf).2.2 with ⟨h2, _⟩ | ⟨g, cap, cur, h3, _⟩
        · rw [h2] at hv0; injection hv0 with e1; exact .inl e1.symm
        · rw [h3] at hv0; injection hv0 with e1; exact .inr ⟨g, 0, e1.symm⟩
      obtain ⟨L0, hL0⟩ : ∃ L0, f.xs.length = L0 := ⟨_, rfl⟩
      rw [hL0] at fc0
      have HC := Lib.hid (cloneD p0 L0 d0 f.xs hL0.symm w hr0 (by have := (hD.sz f hf).2.1; omega) hform)
      clear hD hs hg hf hfn hA hd0 hr0 hv0 hform hL0
      go_enter Tryd.func22, Tryd.ntmps22
      go_wp2_with (first
        | (go_at_call 46; refine HF.out.mono ?_; rintro r w1 ⟨rfl, rfl⟩)
        | (go_at_call 30; refine HC.out.mono ?_; rintro r w1 ⟨v1, rfl, hA1, hb1⟩; have HA1 := Lib.hid hA1; have HB1 := Lib.hid hb1; clear hA1 hb1))
      exact bodyPost_ret (results_tmp2 rfl _ _ _) rfl ⟨_, rfl, HA1.out, HB1.out⟩

set_option maxRecDepth 100000 in
theorem new_disk (w : World) :
    Calls Tryd.prog 15 #[] w fun r w' => r = .returned (.pointer (some ⟨w.heap.size + 1, 0, none⟩)) ∧ (∃ O, Dk w' w.heap.size (w.heap.size + 1) newS O) ∧ Below w.heap.size w w' := by
  have hmm := @run_makeMap Tryd.prog
  have hd : Dl ((w.alloc (.map #[] 0)).alloc (.cells #[.map (some w.heap.size), .bool true, .int .i64 (-1)] 68)) w.heap.size (w.heap.size + 1) w.heap.size [] true (-1) :=
    ⟨Bk.new' (N := w.heap.size + 1) (w.alloc (.map #[] 0)) (by simp) _ _, (mapF_made w Tryd.prog 9).kept (by rw [(below1 (w.alloc (.map #[] 0)) _).block w.heap.size (by simp)]),
      fun f hf => by (cases hf), fun f hf => by (cases hf), fun f hf => by (cases hf), List.Pairwise.nil, List.Pairwise.nil, ⟨by omega, Nat.le_refl _, fun f hf => by (cases hf)⟩, by omega, by simp⟩
  have HD := Lib.hid hd
  have HB := Lib.hid (below2 w (.map #[] 0) (.cells #[.map (some w.heap.size), .bool true, .int .i64 (-1)] 68))
  clear hd
  go_enter Tryd.func15, Tryd.ntmps15
  go_wp2_with fail
  go_ret
  exact ⟨rfl, ⟨_, w.heap.size, [], HD.out, rfl, rfl⟩, HB.out⟩
end
section
set_option linter.unusedVariables false
set_option linter.unusedSimpArgs false
open Go.Maps Go.RowKit

def mkPtr (o : Option Nat) : Value := .pointer (o.map fun b => ⟨b, 0, none⟩)
theorem ptrE_inv (v : Value) (y : DataW Unit × List MemPlace) (h : ptrE v = some y) : ∃ c, v = mkPtr c := by
  unfold ptrE at h
  split at h
  · rename_i b; exact ⟨some b, rfl⟩
  · exact ⟨none, rfl⟩
  · cases h
/-- a step of a loop over the files -/
theorem wpList_next_files {P : Program} (w : World) {ops : Array Oper} {rest : List Oper} {o : Oper} {a : Act} {Q : Exit → Act → World → Prop} (hg : o.guard = none) (it : Operand) (hop : o.op = Op.next it false) (k : TypeId) (hk : P.underlying k = some .string)
    (b r n : Nat) (l : List Fil) (left : Lit → Bool) (cnt : Nat) (hit : a.eval it = .pointer (some ⟨r, 0, none⟩)) (h : w.ranges P k ptrE b r n (datF l) left cnt)
    (hDone : cnt = 0 → (∀ kl, left kl = false) → wpList P ops Q rest (a.put o.dst (.tuple #[.bool false])) w)
    (hMore : ∀ (f : Fil) (w' : World) (cnt' : Nat), f ∈ l → left (.string f.nm) = true → w'.ranges P k ptrE b r n (datF l) (fun z => left z && !z.sameKey (.string f.nm)) cnt' → cnt' < cnt →
      w.grownBy w' (some r) → w'.heap.size = w.heap.size → (Instr.entry (.pointer (some ⟨r, 0, none⟩))).run P w' = .ok (.tuple #[.string ⟨f.nm.toArray⟩, .pointer (some ⟨f.blk, 0, none⟩)]) w' → wpList P ops Q rest (a.put o.dst (.tuple #[.bool true, .string ⟨f.nm.toArray⟩, .pointer (some ⟨f.blk, 0, none⟩)])) w') :
    wpList P ops Q (o :: rest) a w :=
  wpList_next_ranges w hg it hop k (string_keyed hk) ptrE (fun l : List UInt8 => .string ⟨l.toArray⟩) mkPtr (fun key kl hkey => by obtain ⟨x, hx, _⟩ := Maps.keyOf_str hk hkey; exact ⟨x, hx⟩) ptrE_inv
    b r n (datF l) left cnt hit h hDone (fun x c kl y w' cnt' hkey hlk hv hat hrg hlt hgr hsz hen => by
      obtain ⟨x', ex, rfl, _⟩ := Maps.keyOf_str hk hkey
      obtain rfl : x = x' := by
        have h1 : (⟨x.toArray⟩ : ByteArray) = ⟨x'.toArray⟩ := by injection ex
        have := congrArg (fun s : ByteArray => s.data.toList) h1
        simpa using this
      have h1 := hat .nil
      have h2 := hat (.lit (.bool true))
      rw [datF_at] at h1 h2
      cases hgf : getF x l with
      | none =>
        rw [hgf] at h1 h2
        have : (DataW.nil : DataW Unit) = .lit (.bool true) := h1.trans h2.symm
        cases this
      | some f =>
        rw [hgf] at h1
        obtain ⟨hf, hfn⟩ := getF_mem hgf
        obtain ⟨y1, y2⟩ := y
        simp only at h1
        subst h1
        have hp := ptrE_some hv
        rw [hp] at hen ⊢
        subst hfn
        exact hMore f w' cnt' hf hlk hrg hlt hgr hsz hen)

theorem grownBy_set (W : World) (b o : Nat) (v : Value) : W.grownBy (W.setCell ⟨b, o, none⟩ v) (some b) :=
  ⟨rfl, rfl, rfl, by simp [World.setCell], fun i hi hne => Below.heap_setCell W ⟨b, o, none⟩ v i (fun e => hne (by rw [e]))⟩
theorem grownBy_drew (W : World) (row : Option Nat) : W.grownBy W.drew row := ⟨rfl, rfl, rfl, Nat.le_refl _, fun _ _ _ => rfl⟩

/-- how much of a file stays -/
def keepN (keep : Int) (f : Fil) : Nat := f.sure + min keep.toNat (f.xs.length - f.sure)
def cutV (v : Value) (k : Nat) : Value := match v with | .slice p _ d => .slice p k d | v => v
/-- a file behind a crash, in memory -/
def crL (keep : Int) (f : Fil) : Fil := ⟨f.nm, f.blk, cutV f.v (keepN keep f), f.xs.take (keepN keep f), keepN keep f⟩
/-- the files while a crash goes through them -/
def crM (keep : Int) (left : Lit → Bool) (l : List Fil) : List Fil := l.map fun f => if left (.string f.nm) then f else crL keep f
theorem crM_dat (keep : Int) (left : Lit → Bool) (l : List Fil) : datF (crM keep left l) = datF l := by
  unfold datF crM
  rw [List.map_map]
  congr 1
  refine List.map_congr_left fun f _ => ?_
  show entF (if left (.string f.nm) then f else crL keep f) = entF f
  split <;> rfl
theorem crM_start (keep : Int) (l : List Fil) : crM keep (has (datF l)) l = l := by
  unfold crM
  conv => rhs; rw [← List.map_id l]
  refine List.map_congr_left fun f hf => ?_
  rw [if_pos]; rfl
  refine List.any_eq_true.2 ⟨entF f, List.mem_map.2 ⟨f, hf, rfl⟩, ?_⟩
  show (f.nm == f.nm) = true
  simp
theorem crM_end (keep : Int) {left : Lit → Bool} (h : ∀ kl, left kl = false) (l : List Fil) : crM keep left l = l.map (crL keep) := by
  unfold crM
  exact List.map_congr_left fun f _ => by rw [if_neg (by rw [h]; simp)]
theorem crM_mem {keep : Int} {left : Lit → Bool} {l : List Fil} {f : Fil} (hf : f ∈ l) (hl : left (.string f.nm) = true) : f ∈ crM keep left l :=
  List.mem_map.2 ⟨f, hf, by rw [if_pos hl]⟩
theorem crM_srt {keep : Int} {left : Lit → Bool} {l : List Fil} (h : Srt l) : Srt (crM keep left l) := by
  refine List.Pairwise.map _ (fun f g hfg => ?_) h
  have e : ∀ f : Fil, (if left (.string f.nm) then f else crL keep f).nm = f.nm := fun f => by split <;> rfl
  rw [e f, e g]; exact hfg
theorem crM_step {keep : Int} {left : Lit → Bool} {l : List Fil} {f : Fil} (hs : Srt l) (hf : f ∈ l) (hl : left (.string f.nm) = true) : putF (crL keep f) (crM keep left l) = crM keep (fun z => left z && !z.sameKey (.string f.nm)) l := by
  rw [putF_mod (f := crL keep f) (crM_srt hs) ⟨f, crM_mem hf hl, rfl⟩]
  unfold crM
  rw [List.map_map]
  refine List.map_congr_left fun g hg => ?_
  show (if (if left (.string g.nm) then g else crL keep g).nm == f.nm then crL keep f else (if left (.string g.nm) then g else crL keep g)) = if left (.string g.nm) && !(g.nm == f.nm) then g else crL keep g
  have e : (if left (.string g.nm) then g else crL keep g).nm = g.nm := by split <;> rfl
  rw [e]
  by_cases hn : g.nm = f.nm
  · have : g = f := srt_inj hs hg hf hn
    subst this
    simp
  · have hb : (g.nm == f.nm) = false := by simpa using hn
    rw [hb]
    simp
theorem cr_abs (keep : Int) (l : List Fil) : (l.map (crL keep)).map absF = (l.map absF).map (crF keep) := by
  rw [List.map_map, List.map_map]; rfl
theorem cutV_own (v : Value) (k : Nat) : (cutV v k).ownBlock = v.ownBlock := by
  cases v with
  | slice a _ _ => cases a <;> rfl
  | _ => rfl
theorem crM_own {d mb : Nat} {keep : Int} {left : Lit → Bool} {l : List Fil} {b : Nat} (h : OwnD d mb (crM keep left l) b) : OwnD d mb l b := by
  rcases h with h | h | ⟨g, hg, h⟩
  · exact .inl h
  · exact .inr (.inl h)
  · obtain ⟨f, hf, rfl⟩ := List.mem_map.1 hg
    refine .inr (.inr ⟨f, hf, ?_⟩)
    split at h
    · exact h
    · rcases h with h | h
      · exact .inl h
      · exact .inr (by rw [← cutV_own f.v (keepN keep f)]; exact h)
/-- what is kept while a crash goes through the files -/
structure CrI (wr w : World) (base d mb : Nat) (l : List Fil) (keep : Int) (r : Nat) (left : Lit → Bool) (cnt : Nat) : Prop where
  dl : Dl wr base d mb (crM keep left l) true (-1)
  rg : wr.ranges Tryd.prog 9 ptrE mb r l.length (datF l) left cnt
  fr : Fr w wr (OwnD d mb l) (OwnD d mb l)
  new : w.heap.size ≤ r
theorem rg_kept {w w' : World} {P : Program} {k : TypeId} {R : Value → Option (DataW Unit × List MemPlace)} {b r n : Nat} {D : DataW Unit} {left : Lit → Bool} {cnt : Nat} (h : w.ranges P k R b r n D left cnt) (hb : w'.heap[b]? = w.heap[b]?) (hr : w'.heap[r]? = w.heap[r]?) : w'.ranges P k R b r n D left cnt := by
  obtain ⟨es, clock, since, seen, c0, hb', F, hs, hD, hr', rest⟩ := h
  exact ⟨es, clock, since, seen, c0, hb.trans hb', F, hs, hD, hr.trans hr', rest⟩
/-- the loop's step -/
theorem CrI.next {wr w w1 : World} {base d mb r : Nat} {l : List Fil} {keep : Int} {left left' : Lit → Bool} {cnt cnt' : Nat} (h : CrI wr w base d mb l keep r left cnt) (hO : ∀ b, OwnD d mb l b → b < w.heap.size) (hg : wr.grownBy w1 (some r)) : Dl w1 base d mb (crM keep left l) true (-1) ∧ Fr w w1 (OwnD d mb l) (OwnD d mb l) := by
  have hk : ∀ b, b < w.heap.size → w1.heap[b]? = wr.heap[b]? := fun b hb => hg.block b (Nat.lt_of_lt_of_le hb h.fr.size) (fun e => by have := h.new; have := Option.some.inj e; omega)
  refine ⟨h.dl.kept fun b ho => hk b (hO b (crM_own ho)), ⟨hg.os.trans h.fr.os, hg.tape.trans h.fr.tape, hg.output.trans h.fr.output, Nat.le_trans h.fr.size hg.size, fun b hb hn => (hk b hb).trans (h.fr.block b hb hn), fun b hb => .inl hb⟩⟩
/-- a file has been cut -/
theorem CrI.cut {w1 w w2 : World} {base d mb r : Nat} {l : List Fil} {keep : Int} {left : Lit → Bool} {cnt : Nat} (hs : Srt l) (hO : ∀ b, OwnD d mb l b → b < w.heap.size) (hd : Dl w1 base d mb (crM keep left l) true (-1)) (hf1 : Fr w w1 (OwnD d mb l) (OwnD d mb l)) (hnew : w.heap.size ≤ r)
    {f : Fil} (hf : f ∈ l) (hl : left (.string f.nm) = true) (hr : w1.ranges Tryd.prog 9 ptrE mb r l.length (datF l) (fun z => left z && !z.sameKey (.string f.nm)) cnt)
    (hw : Only f.blk w1 w2) (hb : Bk w2 f.blk 83 #[cutV f.v (keepN keep f), .int .i64 (keepN keep f)]) : CrI w2 w base d mb l keep r (fun z => left z && !z.sameKey (.string f.nm)) cnt := by
  have hfm := crM_mem (keep := keep) hf hl
  have hfo : OwnD d mb l f.blk := .inr (.inr ⟨f, hf, .inl rfl⟩)
  have hne := hd.fil_ne hfm
  have hfb := hd.row f hfm
  have hsz := hd.sz f hfm
  have hkl : keepN keep f ≤ f.xs.length := by unfold keepN; omega
  obtain ⟨p0, d0, hv0, hd0⟩ := hfb.1
  have hcv : cutV f.v (keepN keep f) = .slice p0 (keepN keep f) d0 := by rw [hv0]; rfl
  have hfb2 : Fb w1 base (cutV f.v (keepN keep f)) (f.xs.take (keepN keep f)) := by
    rw [hcv]; exact Fb.cut (n := f.xs.length) (by rw [← hv0]; exact hfb) _ hkl
  have hrow : ∀ b, f.v.ownBlock = some b → b < w1.heap.size ∧ b ≠ f.blk := fun b hb => ⟨(hd.lt b (.inr (.inr ⟨f, hfm, .inr hb⟩))).1, (hd.row_ne hfm hb).2.2 f hfm⟩
  have hdl := hd.write hfm (cutV f.v (keepN keep f)) (f.xs.take (keepN keep f)) (keepN keep f) (w' := w2) (fun b hb hn _ => hw.block b hb hn) hw.size hb
    (hfb2.kept fun b hb => by rw [cutV_own] at hb; exact hw.block b (hrow b hb).1 (hrow b hb).2) ⟨by rw [List.length_take]; omega, by rw [List.length_take]; omega⟩ (fun b hb => .inl (by rw [cutV_own] at hb; exact hb))
  rw [show (⟨f.nm, f.blk, cutV f.v (keepN keep f), f.xs.take (keepN keep f), keepN keep f⟩ : Fil) = crL keep f from rfl, crM_step hs hf hl] at hdl
  refine ⟨hdl, rg_kept hr (hw.block mb hr.owns.lt (fun e => hne.2 e.symm)) (hw.block r hr.lt (fun e => ?_)), ⟨hw.os.trans hf1.os, hw.tape.trans hf1.tape, hw.output.trans hf1.output, Nat.le_trans hf1.size hw.size, fun b hb hn => (hw.block b (Nat.lt_of_lt_of_le hb hf1.size) (fun e => hn (e ▸ hfo))).trans (hf1.block b hb hn), fun b hb => .inl hb⟩, hnew⟩
  have := hO f.blk hfo
  omega

set_option maxRecDepth 100000 in
set_option maxHeartbeats 4000000 in
theorem crash_any (base d : Nat) (s : DS) (O : Nat → Prop) (keep : Int) (hk : keep ≤ 9223372036854775807) (w : World) (h : Dk w base d s O) :
    Calls Tryd.prog 20 #[.pointer (some ⟨d, 0, none⟩), .int .i64 keep] w fun r w' => r = .returned (.tuple #[]) ∧ After w' w base d O (crashS s keep) := by
  obtain ⟨mb, l, hD, hfs, rfl⟩ := h
  obtain ⟨fs, on, left0⟩ := s
  simp only at hD hfs
  subst hfs
  obtain ⟨c0, c1, c2, s0, s1, s2⟩ := hD.cells
  have HD := Lib.hid hD
  have HO := Lib.hid (fun b ho => (hD.lt b ho).1)
  have HSR := Lib.hid hD.srt
  have HMB := Lib.hid ((hD.setOn true).setLeft (-1) (by omega))
  have hmap := HMB.out.map
  clear hD
  go_enter Tryd.func20, Tryd.ntmps20
  go_upto_region 2 with fail
  have HFR1 := Lib.hid (show Fr w ((w.setCell ⟨d, 1, none⟩ (.bool true)).setCell ⟨d, 2, none⟩ (.int .i64 (-1))) (OwnD d mb l) (OwnD d mb l) from (Fr.set w d (.inl rfl) 1 _).trans (Fr.set _ d (.inl rfl) 2 _))
  have HZ1 := Lib.hid (show ((w.setCell ⟨d, 1, none⟩ (.bool true)).setCell ⟨d, 2, none⟩ (.int .i64 (-1))).heap.size = w.heap.size by simp [World.setCell])
  clear c0 c1 c2 s0 s1 s2
  generalize (w.setCell ⟨d, 1, none⟩ (.bool true)).setCell ⟨d, 2, none⟩ (.int .i64 (-1)) = W1 at *
  obtain ⟨c0, c1, c2, s0, s1, s2⟩ := HMB.out.cells
  go_wp2_with (first
    | (at_range; refine wpList_range_own _ rfl _ 66 rfl 9 81 (string_keyed Tryd.underlying9) Tryd.underlying66 ptrE mb l.length (datF l) rfl hmap ?_; intro w0 hrg0 hg0 hs0; have HRG0 := Lib.hid hrg0; have HG0 := Lib.hid hg0; have HS0 := Lib.hid hs0; clear hrg0 hg0 hs0)
    | go_in)
  go_frame
  clear c0 c1 c2 s0 s1 s2 hmap
  go_loopw [5, 6] (fun _ _ wr => ∃ (left : Lit → Bool) (cnt : Nat), CrI wr w base d mb l keep W1.heap.size left cnt) (fun _ _ wr => wr.rangeLeft mb W1.heap.size)
  case atStart =>
    refine ⟨_, _, ⟨by rw [crM_start]; exact HMB.out.kept fun b hb => HG0.out.block b (HMB.out.lt b hb).1 (by simp), HRG0.out, HFR1.out.trans (Fr.grown (HG0.out.but none) (fun b e => by cases e)), by rw [HZ1.out]; exact Nat.le_refl _⟩⟩
  case round =>
    obtain ⟨left, cnt, hI⟩ := hrel
    have HI := Lib.hid hI
    clear hI
    go_wp2_with (first
      | (at_next; refine wpList_next_files _ rfl _ rfl 9 Tryd.underlying9 mb W1.heap.size l.length l left cnt rfl HI.out.rg ?_ ?_)
      | go_in)
    · intro _ hl0
      go_wp2
      go_end0
      have hdl := HI.out.dl
      rw [crM_end keep hl0] at hdl
      refine ⟨rfl, _, ⟨mb, l.map (crL keep), hdl, (cr_abs keep l).symm, rfl⟩, HI.out.fr.sub (fun b hb => .inl ?_)⟩
      rw [← crM_end keep hl0] at hb
      exact crM_own hb
    · intro f w2 cnt2 hf hl hrg2 hlt hg2 hs2 hen
      have hnx := HI.out.next (left' := left) (cnt' := cnt) HO.out hg2
      have HD2 := Lib.hid hnx.1
      have HF2 := Lib.hid hnx.2
      have HFM := Lib.hid (crM_mem (keep := keep) hf hl)
      obtain ⟨fc0, fc1, fs0, fs1, flt⟩ := HD2.out.fcells HFM.out
      obtain ⟨p0, d0, hv0, hd0⟩ := (HD2.out.row f HFM.out).1
      obtain ⟨L0, hL0⟩ : ∃ L0, f.xs.length = L0 := ⟨_, rfl⟩
      have hsz := HD2.out.sz f HFM.out
      rw [hL0] at hv0 hd0 hsz
      rw [hv0] at fc0
      obtain ⟨wet, hwet⟩ : ∃ wet : Nat, wet = L0 - f.sure := ⟨_, rfl⟩
      have u1 : IntKind.i64.wrap ((L0 : Int) - (f.sure : Int)) = (wet : Int) := by rw [IntWalk.i64_in _ (by omega)]; omega
      obtain ⟨kp, hkp⟩ : ∃ kp : Nat, kp = min keep.toNat wet := ⟨_, rfl⟩
      obtain ⟨KN, hKN⟩ : ∃ KN : Nat, KN = f.sure + kp := ⟨_, rfl⟩
      have u2 : wrap64 ((f.sure : Int) + (kp : Int)) = (KN : Int) := by rw [IntWalk.wrap64_in _ (by omega)]; omega
      have HKN := Lib.hid (show keepN keep f = KN by rw [keepN, hL0, ← hwet, ← hkp, hKN])
      have hle1 : kp ≤ wet := by rw [hkp]; exact Nat.min_le_right _ _
      have hle2 : KN ≤ L0 := by rw [hKN]; have h1 := hsz.1; clear u1 u2; omega
      have hsl := fun wx => run_slice_txt wx p0 L0 d0 KN (Nat.le_trans hle2 hd0)
      have HH := Lib.hid (And.intro hf (And.intro hl (And.intro hrg2 hlt)))
      have HVV := Lib.hid hv0
      have HKP := Lib.hid hkp
      clear hf hl hrg2 hlt hg2 hs2 hnx hv0 hd0 hL0 hsz hwet hkp hKN hle1 hle2
      go_upto_region 5 with (fail)
      have y0 : w2.drew.cell? ⟨f.blk, 0, none⟩ = some (.slice p0 L0 d0) := fc0
      have y1 : w2.drew.cell? ⟨f.blk, 1, none⟩ = some (.int .i64 f.sure) := fc1
      have y2 : w2.drew.frozen? ⟨f.blk, 0, none⟩ = false := fs0
      have y3 : w2.drew.frozen? ⟨f.blk, 1, none⟩ = false := fs1
      have HBK := Lib.hid (show Bk w2.drew f.blk 83 #[f.v, .int .i64 f.sure] from HD2.out.fil f HFM.out)
      clear fc0 fc1 fs0 fs1 hen
      go_region_held3 (fun X => X = w2.drew) (first | rfl | go_keep) (fail)
      go_upto_region 7 with (fail)
      have hv : wrap64 ((f.sure : Int) + if (wet : Int) < if keep < 0 then 0 else keep then (wet : Int) else if keep < 0 then 0 else keep) = (KN : Int) := by
        have e : (if (wet : Int) < (if keep < 0 then 0 else keep) then (wet : Int) else if keep < 0 then 0 else keep) = (kp : Int) := by
          rw [HKP.out]
          by_cases h1 : keep < 0
          · simp only [if_pos h1]; split <;> omega
          · simp only [if_neg h1]; split <;> omega
        rw [e]; exact u2
      simp only [hv]
      clear hv u1 u2 y0 y1 y2 y3
      obtain ⟨c0, c1, s0, s1, clt⟩ := HD2.out.fcells HFM.out
      rw [HVV.out] at c0
      go_region
      have hC : CrI (((w2.setCell ⟨f.blk, 1, none⟩ (.int .i64 (KN : Int))).setCell ⟨f.blk, 0, none⟩ (.slice p0 KN d0)).drew.drew) w base d mb l keep W1.heap.size (fun z => left z && !z.sameKey (.string f.nm)) cnt2 := by
        refine CrI.cut HSR.out HO.out HD2.out HF2.out HI.out.new HH.out.1 HH.out.2.1 HH.out.2.2.1 ((((Only.set f.blk w2 1 _).trans (Only.set f.blk _ 0 _)).trans (only_drew f.blk _)).trans (only_drew f.blk _)) ?_
        rw [HKN.out, HVV.out]
        exact ((HD2.out.fil f HFM.out).set 1 (.int .i64 (KN : Int))).set 0 (.slice p0 KN d0)
      have HC := Lib.hid hC
      clear hC c0 c1 s0 s1 clt hsl
      go_wp2_with fail
      go_roundw
      case rel => exact ⟨_, cnt2, HC.out⟩
      case measure =>
        rw [HC.out.rg.left_eq, HI.out.rg.left_eq]
        exact HH.out.2.2.2
end
end Go.Proofs.YtooiaadnhglifaaDoor
