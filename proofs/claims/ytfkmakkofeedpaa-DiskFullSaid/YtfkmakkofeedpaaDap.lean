/-
  Contract: Disk.Append.
-/
import Derived.Test.YtfkmakkofeedpaaDon
set_option linter.unusedVariables false
set_option linter.unusedSimpArgs false
namespace Go.Proofs.Ytfkmakkofeedpaa
open Go.Maps Go.RowKit

/-- bytes are appended to a file's bytes: of what was there its row alone turns -/
theorem run_appF (w : World) (base : Nat) (v : Value) (xs : List UInt8) (hA : Fb w base v xs) (q : Option Addr) (m : List UInt8) (n c : Nat) (hn : n = m.length) (hR : Rd0 w q m) (hz : xs.length + m.length ≤ 100000000000000) (hbase : base ≤ w.heap.size) :
    ∃ v' w', (Builtin.append_ #[30, 30] 30 #[v, .slice q n c]).run Try.prog w = .ok v' w' ∧ Fb w' base v' (xs ++ m) ∧ w.grownBy w' v.ownBlock ∧ ∀ b, v'.ownBlock = some b → v.ownBlock = some b ∨ w.heap.size ≤ b := by
  subst hn
  obtain ⟨i, hi, hz0, hz1, hz2⟩ := info_parts info8
  have hzero : ∀ q, m = [] → ∃ v' w', (Builtin.append_ #[30, 30] 30 #[v, .slice q m.length c]).run Try.prog w = .ok v' w' ∧ Fb w' base v' (xs ++ m) ∧ w.grownBy w' v.ownBlock ∧ ∀ b, v'.ownBlock = some b → v.ownBlock = some b ∨ w.heap.size ≤ b := by
    intro q h0
    subst h0
    obtain ⟨⟨p, d, hv, hd⟩, hg⟩ := id hA
    rw [hv]
    refine ⟨_, w, run_append_zero w _ _ 5 i Try.underlying30 hi p q _ d c hd, ?_, ⟨rfl, rfl, rfl, Nat.le_refl _, fun _ _ _ => rfl⟩, fun b hb => .inl hb⟩
    rw [← hv, List.append_nil]; exact hA
  rcases hR with h0 | ⟨b, off, rfl, hbl, hc⟩
  · exact hzero q h0
  · by_cases h0 : m = []
    · exact hzero _ h0
    · have hpos : 0 < m.length := List.length_pos_iff.2 h0
      obtain ⟨g, cap, w', hr, how, hg, hat, hlt⟩ := run_append_lies (P := Try.prog) (w := w) 30 30 base 5 i _ 1 1 Try.underlying30 hi hz0 hz1 hz2 rfl (by decide) v xs.length (cells8 xs) hA.2 ⟨b, off, none⟩ m.length c (cells8 m) (by rw [cells8_len, Nat.mul_one]) (fun j u hu => by rw [Addr.add_mid]; exact hc j u hu) (by intro u hu; obtain ⟨x, _, rfl⟩ := List.mem_map.1 hu; rfl) hpos (by unfold maxLen; omega) (by omega) hbase w.heap.size rfl
      refine ⟨_, w', hr, ⟨⟨_, cap, by rw [List.length_append], ?_⟩, ?_⟩, hg, fun b' hb' => ?_⟩
      · rcases how.2 with ⟨h, _⟩ | ⟨_, _, _, h1, _, _, h2, _⟩
        · cases h
        · cases h1; rw [List.length_append]; exact h2
      · have e : cells8 (xs ++ m) = cells8 xs ++ cells8 m := by simp [cells8]
        rw [List.length_append, e]; exact how
      · obtain rfl : g = b' := by simpa [Value.ownBlock] using hb'
        rcases hat with h | h
        · exact .inl h
        · exact .inr (by omega)
theorem step_appF {w : World} {ops : Array Oper} {o : Oper} {a : Act} {K : Act → World → Prop} {Q : Exit → Act → World → Prop} {E : Prop} (hgd : o.guard = none) (s x : Operand)
    (ho : o.op = .call { callee := .builtin .append, args := #[s, x], argTypes := #[30, 30] }) (hty : o.type = 30)
    (base : Nat) (v : Value) (xs : List UInt8) (hs : a.eval s = v) (hA : Fb w base v xs) (q : Option Addr) (m : List UInt8) (n c : Nat) (hx : a.eval x = .slice q n c) (hn : n = m.length) (hR : Rd0 w q m) (hz : xs.length + m.length ≤ 100000000000000) (hbase : base ≤ w.heap.size)
    (h : ∀ v' w', Fb w' base v' (xs ++ m) → w.grownBy w' v.ownBlock → (∀ b, v'.ownBlock = some b → v.ownBlock = some b ∨ w.heap.size ≤ b) → K (a.put o.dst v') w') :
    if Region.wanted o (yielded ops a.tmps) = true then Oper.wp Try.prog o a w K Q else E := by
  obtain ⟨v', w', hr, h1, h2, h3⟩ := run_appF w base v xs hA q m n c hn hR hz hbase
  have hw : Region.wanted o (yielded ops a.tmps) = true := by simp [Region.wanted, hgd]
  rw [if_pos hw]
  unfold Oper.wp execOp
  simp only [ho, hty, resolve, invoke, builtin, Sem.run_bind, Sem.run_pure, Result.andThen_ok, List.map_toArray, List.map_cons, List.map_nil, hs, hx, hr]
  exact h v' w' h1 h2 h3
theorem Rd0.fr {w w' : World} {q : Option Addr} {m : List UInt8} {O O' : Nat → Prop} (h : Rd0 w q m) (hq : ∀ a, q = some a → m = [] ∨ ¬ O a.block) (hf : Fr w w' O O') : Rd0 w' q m := by
  rcases h with h | ⟨b, off, rfl, h2, h3⟩
  · exact .inl h
  · rcases hq _ rfl with h0 | h0
    · exact .inl h0
    · exact .inr ⟨b, off, rfl, Nat.lt_of_lt_of_le h2 hf.size, fun i v hv => by rw [World.cell?_of_block (w := w) (hf.block b h2 h0)]; exact h3 i v hv⟩
theorem bytesOf_list (s : ByteArray) : bytesOf s.data.toList = s := by cases s; rfl
theorem Only.fr {d : Nat} {w w' : World} {O : Nat → Prop} (h : Only d w w') (hd : O d) : Fr w w' O O := ⟨h.os, h.tape, h.output, h.size, fun b hb hn => h.block b hb (fun e => hn (e ▸ hd)), fun _ h => .inl h⟩

/-- what Append leaves, by the list of files -/
def AppR (w w' : World) (base d mb : Nat) (l : List Fil) (on : Bool) (left : Int) (nm m : List UInt8) (e : Int) : Prop :=
  ∃ l' on' left', appS ⟨l.map absF, on, left⟩ nm m = (⟨l'.map absF, on', left'⟩, e) ∧ Dl w' base d mb l' on' left' ∧ Fr w w' (OwnD d mb l) (OwnD d mb l')

set_option maxRecDepth 100000 in
theorem append_off (base d mb : Nat) (l : List Fil) (left : Int) (nm : ByteArray) (hs : nm.size ≤ maxLen) (q : Option Addr) (m : List UInt8) (n c : Nat) (w : World) (h : Dl w base d mb l false left) :
    Calls Try.prog 12 #[.pointer (some ⟨d, 0, none⟩), .string nm, .slice q n c] w fun r w' => r = .returned (.int .i64 20) ∧ AppR w w' base d mb l false left nm.data.toList m 20 := by
  have HD := Lib.hid h
  have HF := Lib.hid (find_any base d mb l false left nm hs w h)
  clear h hs
  go_enter Try.func12, Try.ntmps12
  go_wp2_with (go_at_call 32; refine HF.out.mono ?_; rintro r w1 ⟨rfl, rfl⟩; rw [show findP false (getF nm.data.toList l) = .pointer none from rfl, show findE false (getF nm.data.toList l) = 20 from rfl])
  go_ret
  exact ⟨rfl, l, false, left, rfl, HD.out, Fr.refl _ _⟩
set_option maxRecDepth 100000 in
theorem append_arg (base d mb : Nat) (l : List Fil) (left : Int) (nm : ByteArray) (hs : nm.size ≤ maxLen) (hb : Nm.nameB nm = false) (q : Option Addr) (m : List UInt8) (n c : Nat) (w : World) (h : Dl w base d mb l true left) :
    Calls Try.prog 12 #[.pointer (some ⟨d, 0, none⟩), .string nm, .slice q n c] w fun r w' => r = .returned (.int .i64 1) ∧ AppR w w' base d mb l true left nm.data.toList m 1 := by
  have HD := Lib.hid h
  have HF := Lib.hid (find_any base d mb l true left nm hs w h)
  have HN := Lib.hid (fun X => Nm.name_any nm X hs)
  rw [hb] at HN
  have HS := Lib.hid (show appS ⟨l.map absF, true, left⟩ nm.data.toList m = (⟨l.map absF, true, left⟩, 1) by
    unfold appS; rw [if_neg (by simp), if_pos (by rw [okName, bytesOf_list]; exact hb)])
  clear h hs hb
  generalize getF nm.data.toList l = o at HF
  cases o with
  | none =>
    go_enter Try.func12, Try.ntmps12
    go_wp2_with (first
      | (go_at_call 32; refine HF.out.mono ?_; rintro r w1 ⟨rfl, rfl⟩; rw [show findP true none = .pointer none from rfl, show findE true none = 4 from rfl])
      | (go_at_call 33; refine (HN.out _).mono ?_; rintro r w1 ⟨rfl, rfl⟩))
    go_ret
    exact ⟨rfl, l, true, left, HS.out, HD.out, Fr.refl _ _⟩
  | some f =>
    go_enter Try.func12, Try.ntmps12
    go_wp2_with (first
      | (go_at_call 32; refine HF.out.mono ?_; rintro r w1 ⟨rfl, rfl⟩; rw [show findP true (some f) = .pointer (some ⟨f.blk, 0, none⟩) from rfl, show findE true (some f) = 0 from rfl])
      | (go_at_call 33; refine (HN.out _).mono ?_; rintro r w1 ⟨rfl, rfl⟩))
    go_ret
    exact ⟨rfl, l, true, left, HS.out, HD.out, Fr.refl _ _⟩

theorem putF_twice (f g : Fil) (l : List Fil) (h : f.nm = g.nm) : putF f (putF g l) = putF f l := by
  unfold putF
  have : delF f.nm (insF g (delF g.nm l)) = delF f.nm l := by
    rw [h]
    have aux : ∀ l : List Fil, (∀ x ∈ l, x.nm ≠ g.nm) → delF g.nm (insF g l) = l := by
      intro l hl
      induction l with
      | nil => simp [insF, delF]
      | cons y r ih =>
        unfold insF
        split
        · unfold delF
          rw [List.filter_cons_of_neg (by simp), List.filter_eq_self.2 (fun x hx => by simpa using hl x hx)]
        · have := ih (fun x hx => hl x (by simp [hx]))
          unfold delF at this ⊢
          rw [List.filter_cons_of_pos (by simpa using hl y (by simp)), this]
    exact aux _ (fun x hx => (mem_delF.1 hx).2)
  rw [this]
theorem putF_self {f : Fil} {l : List Fil} (hs : Srt l) (hf : f ∈ l) : putF f l = l := by
  rw [putF_mod hs ⟨f, hf, rfl⟩]
  conv => rhs; rw [← List.map_id l]
  refine List.map_congr_left fun g hg => ?_
  split
  · rename_i h
    exact (srt_inj hs hg hf (by simpa using h)).symm
  · rfl
theorem useS_le (left : Int) (n : Nat) : (useS left n).1 ≤ n := by
  unfold useS
  split
  · exact Nat.le_refl _
  · split
    · exact Nat.le_refl _
    · simp; omega
/-- the cells of a file -/
theorem Dl.fcells {w : World} {base d mb : Nat} {l : List Fil} {on : Bool} {left : Int} (h : Dl w base d mb l on left) {f : Fil} (hf : f ∈ l) :
    w.cell? ⟨f.blk, 0, none⟩ = some f.v ∧ w.cell? ⟨f.blk, 1, none⟩ = some (.int .i64 f.sure) ∧ w.frozen? ⟨f.blk, 0, none⟩ = false ∧ w.frozen? ⟨f.blk, 1, none⟩ = false ∧ f.blk < w.heap.size :=
  ⟨(h.fil f hf).cell 0 _ rfl, (h.fil f hf).cell 1 _ rfl, (h.fil f hf).soft 0, (h.fil f hf).soft 1, (h.fil f hf).lt⟩

/-- a file's bytes have grown, and its cell says so -/
theorem append_done {w3 w4 : World} {base d mb : Nat} {l : List Fil} {on : Bool} {left : Int} (hD : Dl w3 base d mb l on left) {f : Fil} (hf : f ∈ l) (v' : Value) (xs' : List UInt8) (hfb : Fb w4 base v' xs') (hgr : w3.grownBy w4 f.v.ownBlock)
    (hown : ∀ b, v'.ownBlock = some b → f.v.ownBlock = some b ∨ w3.heap.size ≤ b) (hz : f.sure ≤ xs'.length ∧ xs'.length ≤ 1048576) :
    Dl (w4.setCell ⟨f.blk, 0, none⟩ v') base d mb (putF ⟨f.nm, f.blk, v', xs', f.sure⟩ l) on left ∧ Fr w3 (w4.setCell ⟨f.blk, 0, none⟩ v') (OwnD d mb l) (OwnD d mb (putF ⟨f.nm, f.blk, v', xs', f.sure⟩ l)) := by
  have hot : ∀ b, b ≠ f.blk → (w4.setCell ⟨f.blk, 0, none⟩ v').heap[b]? = w4.heap[b]? := fun b hb => Below.heap_setCell w4 ⟨f.blk, 0, none⟩ v' b hb
  have hsz : (w4.setCell ⟨f.blk, 0, none⟩ v').heap.size = w4.heap.size := by simp [World.setCell]
  have hlt := (hD.fil f hf).lt
  have hrow : f.v.ownBlock ≠ some f.blk := fun e => (hD.row_ne hf e).2.2 f hf rfl
  have hb4 : Bk w4 f.blk 69 #[f.v, .int .i64 f.sure] := (hgr.block f.blk hlt (fun e => hrow e.symm)).trans (hD.fil f hf)
  refine ⟨hD.write hf v' xs' f.sure (fun b hb hn hr => (hot b hn).trans (hgr.block b hb (fun e => hr e.symm))) (by rw [hsz]; exact hgr.size) (hb4.set 0 v') (hfb.kept fun b hb => hot b fun e => ?_) hz hown,
    ⟨hgr.os, hgr.tape, hgr.output, by rw [hsz]; exact hgr.size, fun b hb hn => (hot b fun e => hn (.inr (.inr ⟨f, hf, .inl e⟩))).trans (hgr.block b hb fun e => hn (.inr (.inr ⟨f, hf, .inr e.symm⟩))), fun b hb => ?_⟩⟩
  · subst e
    rcases hown _ hb with h | h
    · exact hrow h
    · omega
  · rcases own_put hb with h | rfl | h
    · exact .inl h
    · exact .inl (.inr (.inr ⟨f, hf, .inl rfl⟩))
    · rcases hown b h with h | h
      · exact .inl (.inr (.inr ⟨f, hf, .inr h⟩))
      · exact .inr h

set_option maxRecDepth 100000 in
set_option maxHeartbeats 4000000 in
theorem append_old (base d mb : Nat) (l : List Fil) (left : Int) (nm : ByteArray) (hs : nm.size ≤ maxLen) (hb : Nm.nameB nm = true) (f : Fil) (hg : getF nm.data.toList l = some f) (q : Option Addr) (m : List UInt8) (n c : Nat) (hn : n = m.length) (hc : m.length ≤ c) (hz : n ≤ 1000000000000) (w : World) (h : Dl w base d mb l true left) (hbase : base ≤ w.heap.size) (hR : Rd0 w q m) (hq : ∀ a, q = some a → m = [] ∨ ¬ OwnD d mb l a.block) :
    Calls Try.prog 12 #[.pointer (some ⟨d, 0, none⟩), .string nm, .slice q n c] w fun r w' => ∃ e, r = .returned (.int .i64 e) ∧ AppR w w' base d mb l true left nm.data.toList m e := by
  obtain ⟨hf, hfn⟩ := getF_mem hg
  have HF := Lib.hid (find_any base d mb l true left nm hs w h)
  have HN := Lib.hid (fun X => Nm.name_any nm X hs)
  rw [hb] at HN
  rw [hg, show findP true (some f) = .pointer (some ⟨f.blk, 0, none⟩) from rfl, show findE true (some f) = 0 from rfl] at HF
  have HD := Lib.hid h
  have HS := Lib.hid (show appS ⟨l.map absF, true, left⟩ nm.data.toList m = if 1048576 < f.xs.length + m.length then (⟨l.map absF, true, left⟩, 3) else
      (⟨putF (mkF nm.data.toList (f.xs ++ m.take (useS left m.length).1) f.sure) (l.map absF), (useS left m.length).2.2, (useS left m.length).2.1⟩, okE (useS left m.length).2.2) by
    unfold appS; rw [if_neg (by simp), if_neg (by rw [okName, bytesOf_list, hb]; simp), abs_get, hg]; rfl)
  obtain ⟨fc0, fc1, fs0, fs1, flt⟩ := h.fcells hf
  obtain ⟨c0, c1, c2, s0, s1, s2⟩ := h.cells
  have HFN := Lib.hid hfn
  have HFM := Lib.hid hf
  have HSZ := Lib.hid (h.sz f hf)
  have HK := Lib.hid hn
  have HC := Lib.hid hc
  have HZ := Lib.hid hz
  have HRD := Lib.hid hR
  have HQ := Lib.hid hq
  have HBA := Lib.hid hbase
  obtain ⟨p0, d0, hv0, hd0⟩ := (h.row f hf).1
  obtain ⟨L0, hL0⟩ : ∃ L0, f.xs.length = L0 := ⟨_, rfl⟩
  have HL0 := Lib.hid hL0
  rw [hL0] at hv0
  have HV0 := Lib.hid hv0
  rw [hv0] at fc0
  have hw1 : IntKind.i64.wrap (1048576 - (L0 : Int)) = 1048576 - (L0 : Int) := IntWalk.i64_in _ (by have := (h.sz f hf).2.1; omega)
  obtain ⟨w2, hst, hm2, hgr⟩ := h.map.store Try.underlying9 Try.underlying61 (by have := h.le; omega) nm hs f hfn
  rw [putF_self h.srt hf] at hm2
  have HM2 := Lib.hid hm2
  have HG2 := Lib.hid hgr
  clear h hs hb hg hf hfn hn hc hz hR hq hbase hd0 hL0 hv0 hm2 hgr
  by_cases hbig : 1048576 < L0 + n
  · have w1 : (1048576 : Int) - (L0 : Int) < (n : Int) := by omega
    have HS2 := Lib.hid (show appS ⟨l.map absF, true, left⟩ nm.data.toList m = (⟨l.map absF, true, left⟩, 3) by rw [HS.out, if_pos (by rw [HL0.out, ← HK.out]; exact hbig)])
    clear hbig HS
    go_enter Try.func12, Try.ntmps12
    go_wp2_with (first
      | (go_at_call 32; refine HF.out.mono ?_; rintro r w1 ⟨rfl, rfl⟩)
      | (go_at_call 33; refine (HN.out _).mono ?_; rintro r w1 ⟨rfl, rfl⟩))
    go_ret
    exact ⟨3, rfl, l, true, left, HS2.out, HD.out, Fr.refl _ _⟩
  have w1 : ¬ (1048576 : Int) - (L0 : Int) < (n : Int) := by omega
  have w1' : (n : Int) ≤ (1048576 : Int) - (L0 : Int) := by omega
  have HSM := Lib.hid (show L0 + n ≤ 1048576 by omega)
  have HS2 := HS.out
  rw [if_neg (by rw [HL0.out, ← HK.out]; exact hbig)] at HS2
  have HS3 := Lib.hid HS2
  have HD2 := Lib.hid (HD.out.remap HG2.out HM2.out)
  have HB2 := Lib.hid (Nat.le_trans HBA.out HG2.out.size)
  have HR2 := Lib.hid (HRD.out.fr HQ.out (Fr.grown (O := OwnD d mb l) HG2.out (fun b e => by cases e; exact .inr (.inl rfl))))
  have HFR2 := Lib.hid (Fr.grown (O := OwnD d mb l) HG2.out (fun b e => by cases e; exact .inr (.inl rfl)))
  clear hbig HS2 HS fs0 fs1
  go_enter Try.func12, Try.ntmps12
  go_upto_region 12 with (first
    | (go_at_call 32; refine HF.out.mono ?_; rintro r w1 ⟨rfl, rfl⟩)
    | (go_at_call 33; refine (HN.out _).mono ?_; rintro r w1 ⟨rfl, rfl⟩))
  have HTK := Lib.hid (fun X (hX : Dl X base d mb l true left) => take_any base d mb l left n (by have := HZ.out; omega) X hX)
  rw [← HK.out] at HS3
  have HU := Lib.hid (useS_le left n)
  generalize useS left n = U at *
  obtain ⟨u, left', ok⟩ := U
  simp only at HTK HS3 HU
  go_upto_region 14 with (go_at_call 34; refine (HTK.out _ HD2.out).mono ?_; rintro r w3 ⟨rfl, hD3, hO3⟩; have HD3 := Lib.hid hD3; have HFR3 := Lib.hid (HFR2.out.trans (Only.fr hO3 (.inl rfl))); have HR3 := Lib.hid (HR2.out.fr HQ.out (Only.fr hO3 (.inl rfl))); have HB3 := Lib.hid (Nat.le_trans HB2.out hO3.size); clear hD3 hO3)
  clear fc0 fc1 flt c0 c1 c2 s0 s1 s2 hst
  obtain ⟨fc0, fc1, fs0, fs1, flt⟩ := HD3.out.fcells HFM.out
  rw [HV0.out] at fc0
  have hsl := fun wx => run_slice_to (P := Try.prog) 30 5 Try.underlying30 (by kernel_rfl) q n c .i64 (u : Int) u rfl (by have := HU.out; have := HK.out; have := HC.out; omega) wx
  have HLU := Lib.hid (show u = (m.take u).length by rw [List.length_take, ← HK.out]; have := HU.out; omega)
  have HFB := Lib.hid (show Fb w3 base (.slice p0 L0 d0) f.xs from HV0.out ▸ HD3.out.row f HFM.out)
  have HNX := Lib.hid (show some f.blk ≠ (Value.slice p0 L0 d0).ownBlock from fun e => (HD3.out.row_ne HFM.out (b := f.blk) (by rw [HV0.out]; exact e.symm)).2.2 f HFM.out rfl)
  have HLX := Lib.hid flt
  obtain ⟨L9, hL9⟩ : ∃ L9, (f.xs ++ m.take u).length = L9 := ⟨_, rfl⟩
  have HL9 := Lib.hid hL9
  have HSZ9 := Lib.hid (show f.sure ≤ (f.xs ++ m.take u).length ∧ (f.xs ++ m.take u).length ≤ 1048576 by rw [List.length_append, ← HLU.out]; have := HSZ.out.1; have := HSM.out; have := HL0.out; have := HU.out; omega)
  have HDX := Lib.hid (HD3.out.on_ (Below.drew (Below.refl _ _)))
  have HFX := Lib.hid (HFR3.out.trans (Fr.of (OwnD d mb l) (Below.drew (Below.refl w3.heap.size w3))))
  clear hL9
  go_region_law (refine step_appF rfl _ _ rfl rfl base (.slice p0 L0 d0) f.xs rfl (HFB.out) q (m.take u) u c rfl HLU.out (HR3.out.take u) (by have := HSM.out; have := HL0.out; have := HLU.out; have := HU.out; omega) HB3.out ?_; intro v4 w4 hfb' hgr' hown'; obtain ⟨p4, d4, he4, hd4⟩ := hfb'.1; rw [HL9.out] at he4; subst he4; have hfb := Lib.hid hfb'; have hgr := Lib.hid hgr'; have hown := Lib.hid hown'; have q1 := hgr'.cell_far ⟨f.blk, 0, none⟩ HLX.out HNX.out; have q2 := hgr'.frozen_far ⟨f.blk, 0, none⟩ HLX.out HNX.out; simp [go_sem, fc0, fs0] at q1 q2; clear hfb' hgr' hown' hd4)
  all_goals
    clear q1 q2 hsl fc0 fc1 fs0 fs1 flt
    go_wp2_with fail
    go_ret
    have hfin := append_done HDX.out HFM.out (.slice p4 L9 d4) (f.xs ++ m.take u) hfb.out (by rw [HV0.out]; exact hgr.out) (by rw [HV0.out]; exact hown.out) HSZ9.out
    refine ⟨okE ok, rfl, _, ok, left', ?_, hfin.1, HFX.out.trans hfin.2⟩
    rw [HS3.out, abs_put]
    show _ = ((⟨putF (mkF f.nm (f.xs ++ m.take u) f.sure) (l.map absF), ok, left'⟩ : DS), okE ok)
    rw [HFN.out]

set_option maxRecDepth 100000 in
set_option maxHeartbeats 4000000 in
/-- no file of that name, and there are as many as may be -/
theorem append_many (base d mb : Nat) (l : List Fil) (left : Int) (nm : ByteArray) (hs : nm.size ≤ maxLen) (hb : Nm.nameB nm = true) (hg : getF nm.data.toList l = none) (hl : 8 ≤ l.length) (q : Option Addr) (m : List UInt8) (n c : Nat) (w : World) (h : Dl w base d mb l true left) :
    Calls Try.prog 12 #[.pointer (some ⟨d, 0, none⟩), .string nm, .slice q n c] w fun r w' => ∃ e, r = .returned (.int .i64 e) ∧ AppR w w' base d mb l true left nm.data.toList m e := by
  have HF := Lib.hid (find_any base d mb l true left nm hs w h)
  have HN := Lib.hid (fun X => Nm.name_any nm X hs)
  rw [hb] at HN
  rw [hg, show findP true none = .pointer none from rfl, show findE true none = 4 from rfl] at HF
  have HD := Lib.hid h
  have HS := Lib.hid (show appS ⟨l.map absF, true, left⟩ nm.data.toList m = (⟨l.map absF, true, left⟩, 3) by
    unfold appS; rw [if_neg (by simp), if_neg (by rw [okName, bytesOf_list, hb]; simp), abs_get, hg]
    show (if 8 ≤ (l.map absF).length then _ else _) = _
    rw [if_pos (by rw [List.length_map]; exact hl)])
  obtain ⟨c0, c1, c2, s0, s1, s2⟩ := h.cells
  have hln := h.map.len Try.underlying61 3
  have w1 : (8 : Int) ≤ (l.length : Int) := by omega
  have w2 : ¬ (l.length : Int) < 8 := by omega
  clear h hs hb hg hl
  go_enter Try.func12, Try.ntmps12
  go_wp2_with (first
    | (go_at_call 32; refine HF.out.mono ?_; rintro r w1 ⟨rfl, rfl⟩)
    | (go_at_call 33; refine (HN.out _).mono ?_; rintro r w1 ⟨rfl, rfl⟩))
  go_ret
  exact ⟨3, rfl, l, true, left, HS.out, HD.out, Fr.refl _ _⟩

set_option maxRecDepth 100000 in
set_option maxHeartbeats 4000000 in
/-- a file more -/
theorem append_new (base d mb : Nat) (l : List Fil) (left : Int) (nm : ByteArray) (hs : nm.size ≤ maxLen) (hb : Nm.nameB nm = true) (hg : getF nm.data.toList l = none) (hl : l.length < 8) (q : Option Addr) (m : List UInt8) (n c : Nat) (hn : n = m.length) (hc : m.length ≤ c) (hz : n ≤ 1000000000000) (w : World) (h : Dl w base d mb l true left) (hbase : base ≤ w.heap.size) (hR : Rd0 w q m) (hq : ∀ a, q = some a → m = [] ∨ ¬ OwnD d mb l a.block) :
    Calls Try.prog 12 #[.pointer (some ⟨d, 0, none⟩), .string nm, .slice q n c] w fun r w' => ∃ e, r = .returned (.int .i64 e) ∧ AppR w w' base d mb l true left nm.data.toList m e := by
  have HF := Lib.hid (find_any base d mb l true left nm hs w h)
  have HN := Lib.hid (fun X => Nm.name_any nm X hs)
  have hok : okName nm.data.toList = true := by rw [okName, bytesOf_list, hb]
  rw [hb] at HN
  have hnone := getF_none hg
  rw [hg, show findP true none = .pointer none from rfl, show findE true none = 4 from rfl] at HF
  have HD := Lib.hid h
  have HS := Lib.hid (show appS ⟨l.map absF, true, left⟩ nm.data.toList m = if 1048576 < m.length then (⟨l.map absF, true, left⟩, 3) else
      (⟨putF (mkF nm.data.toList (m.take (useS left m.length).1) 0) (l.map absF), (useS left m.length).2.2, (useS left m.length).2.1⟩, okE (useS left m.length).2.2) by
    unfold appS; rw [if_neg (by simp), if_neg (by rw [hok]; simp), abs_get, hg]
    show (if 8 ≤ (l.map absF).length then _ else _) = _
    rw [if_neg (by rw [List.length_map]; omega)])
  obtain ⟨c0, c1, c2, s0, s1, s2⟩ := h.cells
  have hln := h.map.len Try.underlying61 3
  have w1 : (l.length : Int) < 8 := by omega
  have w2 : ¬ (8 : Int) ≤ (l.length : Int) := by omega
  have HK := Lib.hid hn
  have HC := Lib.hid hc
  have HZ := Lib.hid hz
  have HBA := Lib.hid hbase
  have hw1 : IntKind.i64.wrap (1048576 - (0 : Int)) = 1048576 - (0 : Int) := rfl
  have hdlt : d < w.heap.size := h.dsk.lt
  obtain ⟨W1, hW1⟩ : ∃ W1, W1 = w.alloc (.cells #[.slice none 0 0, .int .i64 0] 69) := ⟨_, rfl⟩
  have hb1 : Below w.heap.size w W1 := hW1 ▸ below1 w _
  have h1 := h.on_ hb1
  have HB1 := Lib.hid hb1
  have HD1 := Lib.hid h1
  have hlt1 : w.heap.size < W1.heap.size := by rw [hW1]; simp
  by_cases hbig : 1048576 < n
  · have w3 : (1048576 : Int) < (n : Int) := by omega
    have HS2 := Lib.hid (show appS ⟨l.map absF, true, left⟩ nm.data.toList m = (⟨l.map absF, true, left⟩, 3) by rw [HS.out, if_pos (by rw [← HK.out]; exact hbig)])
    have HW1 := Lib.hid hW1
    clear hbig HS h h1 hs hb hg hl hn hc hz hR hq hbase hnone hok hlt1 hb1 hW1
    go_enter Try.func12, Try.ntmps12
    go_wp2_with (first
      | (go_at_call 32; refine HF.out.mono ?_; rintro r w1 ⟨rfl, rfl⟩)
      | (go_at_call 33; refine (HN.out _).mono ?_; rintro r w1 ⟨rfl, rfl⟩))
    go_ret
    exact ⟨3, rfl, l, true, left, HS2.out, HW1.out ▸ HD1.out, HW1.out ▸ Fr.of _ HB1.out⟩
  have w3 : ¬ (1048576 : Int) < (n : Int) := by omega
  have w3' : (n : Int) ≤ (1048576 : Int) := by omega
  have HSM := Lib.hid (show 0 + n ≤ 1048576 by omega)
  obtain ⟨f, hf⟩ : ∃ f : Fil, f = ⟨nm.data.toList, w.heap.size, .slice none 0 0, [], 0⟩ := ⟨_, rfl⟩
  obtain ⟨w2, hst, hm2, hgr⟩ := h1.map.store Try.underlying9 Try.underlying61 (by omega) nm hs f (by rw [hf])
  rw [show (Value.pointer (some ⟨f.blk, 0, none⟩)) = .pointer (some ⟨w.heap.size, 0, none⟩) by rw [hf]] at hst
  have hsz2 : W1.heap.size ≤ w2.heap.size := hgr.size
  have hmbl : mb < w.heap.size := h.map.lt
  have hbk2 : Bk w2 w.heap.size 69 #[.slice none 0 0, .int .i64 0] := by
    refine (hgr.block _ hlt1 (fun e => by have := Option.some.inj e; omega)).trans ?_
    rw [hW1]; exact Bk.new w _ _
  have hd2 : Dl w2 base d mb (putF f l) true left := by
    refine h1.put (f' := f) (hgr.block d h1.dsk.lt (fun e => h1.ne_map (Option.some.inj e).symm)) (fun g hg' hn' => ⟨hgr.block g.blk (h1.fil g hg').lt (fun e => (h1.fil_ne hg').2 (Option.some.inj e)), fun b hb' => hgr.block b (h1.lt b (.inr (.inr ⟨g, hg', .inr hb'⟩))).1 (fun e => (h1.row_ne hg' hb').2.1 (Option.some.inj e))⟩) hm2 (by rw [hf]; exact hbk2) (by rw [hf]; exact fb_nil _ _) (by rw [hf]; exact ⟨Nat.le_refl _, by simp, hok⟩) (fun g hg' hn' => ⟨?_, fun b hb' => ?_⟩) ?_ (by rw [hf]; exact hbase)
    · have := (h.fil g hg').lt
      rw [hf]; show w.heap.size ≠ g.blk; omega
    · rw [hf] at hb'; cases hb'
    · rw [putF_new (by rw [hf]; exact hnone), insF_len]; omega
  have hfr2 : Fr w w2 (OwnD d mb l) (OwnD d mb (putF f l)) := by
    refine ((Fr.of (OwnD d mb l) hb1).trans (Fr.grown (O := OwnD d mb l) hgr (fun b e => by cases e; exact .inr (.inl rfl)))).sub fun b hb' => ?_
    rcases own_put hb' with h' | h' | h'
    · exact .inl h'
    · rw [hf] at h'; exact .inr (by rw [h']; exact Nat.le_refl _)
    · rw [hf] at h'; cases h'
  have hq2 : ∀ a, q = some a → m = [] ∨ ¬ OwnD d mb (putF f l) a.block := by
    intro a ha
    rcases hq a ha with h0 | h0
    · exact .inl h0
    · rcases hR with h1' | ⟨b, off, e1, e2, _⟩
      · exact .inl h1'
      · refine .inr fun ho => ?_
        rw [ha] at e1
        obtain rfl := Option.some.inj e1
        rcases own_put ho with h' | h' | h'
        · exact h0 h'
        · rw [hf] at h'; exact absurd e2 (by show ¬ b < w.heap.size; have : b = w.heap.size := h'; omega)
        · rw [hf] at h'; cases h'
  have HR2 := Lib.hid (hR.fr hq hfr2)
  have HFM := Lib.hid (show f ∈ putF f l from mem_putF.2 (.inl rfl))
  have HTW := Lib.hid (fun v xs => putF_twice ⟨f.nm, w.heap.size, v, xs, f.sure⟩ f l rfl)
  have HFN := Lib.hid (show f.nm = nm.data.toList by rw [hf])
  have HV0 := Lib.hid (show f.v = .slice none 0 0 by rw [hf])
  have HXS := Lib.hid (show f.xs = [] by rw [hf])
  have HFB0 := Lib.hid (show f.blk = w.heap.size by rw [hf])
  have HSU := Lib.hid (show f.sure = 0 by rw [hf])
  generalize putF f l = l2 at *
  have HD2 := Lib.hid hd2
  have HFR2 := Lib.hid hfr2
  have HQ := Lib.hid hq2
  have HB2 := Lib.hid (show base ≤ w2.heap.size by omega)
  have HSZ := Lib.hid (hd2.sz f HFM.out)
  have HL0 := Lib.hid (show f.xs.length = 0 by rw [HXS.out]; rfl)
  have HS2 := HS.out
  rw [if_neg (by rw [← HK.out]; exact hbig)] at HS2
  have HS3 := Lib.hid HS2
  have HTK := Lib.hid (fun X (hX : Dl X base d mb l2 true left) => take_any base d mb l2 left n (by have := HZ.out; omega) X hX)
  rw [← HK.out] at HS3
  have HU := Lib.hid (useS_le left n)
  subst hW1
  clear hbig HS HS2 h h1 hs hb hg hl hn hc hz hR hq hbase hnone hok hlt1 hb1 hd2 hfr2 hq2 hbk2 hm2 hgr hsz2 hmbl hf
  generalize useS left n = U at *
  obtain ⟨u, left', ok⟩ := U
  simp only at HTK HS3 HU
  go_enter Try.func12, Try.ntmps12
  go_upto_region 13 with (first
    | (go_at_call 32; refine HF.out.mono ?_; rintro r w1 ⟨rfl, rfl⟩)
    | (go_at_call 33; refine (HN.out _).mono ?_; rintro r w1 ⟨rfl, rfl⟩))
  go_upto_region 14 with (go_at_call 34; refine (HTK.out _ HD2.out).mono ?_; rintro r w3 ⟨rfl, hD3, hO3⟩; have HD3 := Lib.hid hD3; have HFR3 := Lib.hid (HFR2.out.trans (Only.fr hO3 (.inl rfl))); have HR3 := Lib.hid (HR2.out.fr HQ.out (Only.fr hO3 (.inl rfl))); have HB3 := Lib.hid (Nat.le_trans HB2.out hO3.size); clear hD3 hO3)
  clear c0 c1 c2 s0 s1 s2 hst hdlt
  obtain ⟨fc0, fc1, fs0, fs1, flt⟩ := HD3.out.fcells HFM.out
  rw [HV0.out] at fc0
  rw [HFB0.out] at fc0 fc1 fs0 fs1 flt
  have hsl := fun wx => run_slice_to (P := Try.prog) 30 5 Try.underlying30 (by kernel_rfl) q n c .i64 (u : Int) u rfl (by have := HU.out; have := HK.out; have := HC.out; omega) wx
  have HLU := Lib.hid (show u = (m.take u).length by rw [List.length_take, ← HK.out]; have := HU.out; omega)
  have HFB := Lib.hid (show Fb w3 base (.slice none 0 0) f.xs from HV0.out ▸ HD3.out.row f HFM.out)
  have HNX := Lib.hid (show some w.heap.size ≠ (Value.slice none 0 0).ownBlock from fun e => by cases e)
  have HLX := Lib.hid flt
  obtain ⟨L9, hL9⟩ : ∃ L9, (m.take u).length = L9 := ⟨_, rfl⟩
  have HL9 := Lib.hid hL9
  have HSZ9 := Lib.hid (show f.sure ≤ (m.take u).length ∧ (m.take u).length ≤ 1048576 by rw [HSU.out, ← HLU.out]; have := HSM.out; have := HU.out; omega)
  have HDX := Lib.hid (HD3.out.on_ (Below.drew (Below.refl _ _)))
  have HFX := Lib.hid (HFR3.out.trans (Fr.of (OwnD d mb l2) (Below.drew (Below.refl w3.heap.size w3))))
  clear hL9
  go_region_law (refine step_appF rfl _ _ rfl rfl base (.slice none 0 0) [] rfl (HXS.out ▸ HFB.out) q (m.take u) u c rfl HLU.out (HR3.out.take u) (by rw [List.length_nil]; have := HSM.out; have := HLU.out; have := HU.out; omega) HB3.out ?_; intro v4 w4 hfb' hgr' hown'; rw [List.nil_append] at hfb'; obtain ⟨p4, d4, he4, hd4⟩ := hfb'.1; rw [HL9.out] at he4; subst he4; have hfb := Lib.hid hfb'; have hgr := Lib.hid hgr'; have hown := Lib.hid hown'; have q1 := hgr'.cell_far ⟨w.heap.size, 0, none⟩ HLX.out HNX.out; have q2 := hgr'.frozen_far ⟨w.heap.size, 0, none⟩ HLX.out HNX.out; simp [go_sem, fc0, fs0] at q1 q2; clear hfb' hgr' hown' hd4)
  all_goals
    clear q1 q2 hsl fc0 fc1 fs0 fs1 flt
    go_wp2_with fail
    go_ret
    have hfin := append_done HDX.out HFM.out (.slice p4 L9 d4) (m.take u) hfb.out (by rw [HV0.out]; exact hgr.out) (by rw [HV0.out]; exact hown.out) HSZ9.out
    rw [HFB0.out] at hfin
    refine ⟨okE ok, rfl, _, ok, left', ?_, hfin.1, HFX.out.trans hfin.2⟩
    rw [HS3.out, HTW.out, abs_put]
    show _ = ((⟨putF (mkF f.nm (m.take u) f.sure) (l.map absF), ok, left'⟩ : DS), okE ok)
    rw [HFN.out, HSU.out]

/-- behind an act: what its plain form says -/
def After (w' w : World) (base d : Nat) (O : Nat → Prop) (s' : DS) : Prop := ∃ O', Dk w' base d s' O' ∧ Fr w w' O O'
theorem Dk.lt {w : World} {base d : Nat} {s : DS} {O : Nat → Prop} (h : Dk w base d s O) : ∀ b, O b → b < w.heap.size ∧ base ≤ b := by
  obtain ⟨mb, l, hD, hs, rfl⟩ := h
  exact hD.lt
theorem Dk.kept {w w' : World} {base d : Nat} {s : DS} {O : Nat → Prop} (h : Dk w base d s O) (hk : ∀ b, O b → w'.heap[b]? = w.heap[b]?) : Dk w' base d s O := by
  obtain ⟨mb, l, hD, hs, rfl⟩ := h
  exact ⟨mb, l, hD.kept hk, hs, rfl⟩
theorem Dk.on_ {w w' : World} {base d : Nat} {s : DS} {O : Nat → Prop} (h : Dk w base d s O) (hb : Below w.heap.size w w') : Dk w' base d s O := h.kept fun b ho => hb.block b (h.lt b ho).1
theorem append_any (base d : Nat) (s : DS) (O : Nat → Prop) (nm : ByteArray) (hs : nm.size ≤ maxLen) (q : Option Addr) (m : List UInt8) (n c : Nat) (hn : n = m.length) (hc : m.length ≤ c) (hz : n ≤ 1000000000000) (w : World) (h : Dk w base d s O) (hbase : base ≤ w.heap.size) (hR : Rd0 w q m) (hq : ∀ a, q = some a → m = [] ∨ ¬ O a.block) :
    Calls Try.prog 12 #[.pointer (some ⟨d, 0, none⟩), .string nm, .slice q n c] w fun r w' => r = .returned (.int .i64 (appS s nm.data.toList m).2) ∧ After w' w base d O (appS s nm.data.toList m).1 := by
  obtain ⟨mb, l, hD, hfs, rfl⟩ := h
  obtain ⟨fs, on, left⟩ := s
  simp only at hD hfs
  subst hfs
  have fin : ∀ (r : Ending) (w' : World), (∃ e, r = .returned (.int .i64 e) ∧ AppR w w' base d mb l on left nm.data.toList m e) → r = .returned (.int .i64 (appS ⟨l.map absF, on, left⟩ nm.data.toList m).2) ∧ After w' w base d (OwnD d mb l) (appS ⟨l.map absF, on, left⟩ nm.data.toList m).1 := by
    rintro r w' ⟨e, rfl, l', on', left', h1, h2, h3⟩
    rw [h1]
    exact ⟨rfl, _, ⟨mb, l', h2, rfl, rfl⟩, h3⟩
  cases on with
  | false => exact (append_off base d mb l left nm hs q m n c w hD).mono fun r w' ⟨e, h⟩ => fin r w' ⟨20, e, h⟩
  | true =>
    cases hb : Nm.nameB nm with
    | false => exact (append_arg base d mb l left nm hs hb q m n c w hD).mono fun r w' ⟨e, h⟩ => fin r w' ⟨1, e, h⟩
    | true =>
      cases hg : getF nm.data.toList l with
      | some f => exact (append_old base d mb l left nm hs hb f hg q m n c hn hc hz w hD hbase hR hq).mono fin
      | none =>
        by_cases hl : 8 ≤ l.length
        · exact (append_many base d mb l left nm hs hb hg hl q m n c w hD).mono fin
        · exact (append_new base d mb l left nm hs hb hg (by omega) q m n c hn hc hz w hD hbase hR hq).mono fin
end Go.Proofs.Ytfkmakkofeedpaa
