/-
  Contract: Disk.Crash.
-/
import Derived.Test.YtfkmakkofeedpaaDrd
import Derived.Maps.RangeWalk
import Derived.Sort.KeysCollected
set_option linter.unusedVariables false
set_option linter.unusedSimpArgs false
namespace Go.Proofs.Ytfkmakkofeedpaa
open Go.Maps Go.RowKit

def mkPtr (o : Option Nat) : Value := .pointer (o.map fun b => ⟨b, 0, none⟩)
theorem ptrE_inv (v : Value) (y : DataW Unit × List MemPlace) (h : ptrE v = some y) : ∃ c, v = mkPtr c := by
  unfold ptrE at h
  split at h
  · rename_i b; exact ⟨some b, rfl⟩
  · exact ⟨none, rfl⟩
  · cases h
/-- a step of a loop over the files -/
theorem wpList_next_files {P : Program} (w : World) {ops : Array Oper} {rest : List Oper} {o : Oper} {a : Act} {Q : Exit → Act → World → Prop} (hg : o.guard = none) (it : Operand) (hop : o.op = Op.next it false) (k : TypeId) (hk : P.underlying k = some .string)
    (b r n : Nat) (l : List Fil) (left : Lit → Bool) (cnt : Nat) (hit : a.eval it = .pointer (some ⟨r, 0, none⟩)) (h : w.ranges P k ptrE b r n (datF l) left cnt)
    (hDone : cnt = 0 → (∀ kl, left kl = false) → wpList P ops Q rest (a.put o.dst (.tuple #[.bool false])) w)
    (hMore : ∀ (f : Fil) (w' : World) (cnt' : Nat), f ∈ l → left (.string f.nm) = true → w'.ranges P k ptrE b r n (datF l) (fun z => left z && !z.sameKey (.string f.nm)) cnt' → cnt' < cnt →
      w.grownBy w' (some r) → w'.heap.size = w.heap.size → (Instr.entry (.pointer (some ⟨r, 0, none⟩))).run P w' = .ok (.tuple #[.string ⟨f.nm.toArray⟩, .pointer (some ⟨f.blk, 0, none⟩)]) w' → wpList P ops Q rest (a.put o.dst (.tuple #[.bool true, .string ⟨f.nm.toArray⟩, .pointer (some ⟨f.blk, 0, none⟩)])) w') :
    wpList P ops Q (o :: rest) a w :=
  wpList_next_ranges w hg it hop k (string_keyed hk) ptrE (fun l : List UInt8 => .string ⟨l.toArray⟩) mkPtr (fun key kl hkey => by obtain ⟨x, hx, _⟩ := Maps.keyOf_str hk hkey; exact ⟨x, hx⟩) ptrE_inv
    b r n (datF l) left cnt hit h hDone (fun x c kl y w' cnt' hkey hlk hv hat hrg hlt hgr hsz hen => by
      obtain ⟨x', ex, rfl, _⟩ := Maps.keyOf_str hk hkey
      obtain rfl : x = x' := by
        have h1 : (⟨x.toArray⟩ : ByteArray) = ⟨x'.toArray⟩ := by injection ex
        have := congrArg (fun s : ByteArray => s.data.toList) h1
        simpa using this
      have h1 := hat .nil
      have h2 := hat (.lit (.bool true))
      rw [datF_at] at h1 h2
      cases hgf : getF x l with
      | none =>
        rw [hgf] at h1 h2
        have : (DataW.nil : DataW Unit) = .lit (.bool true) := h1.trans h2.symm
        cases this
      | some f =>
        rw [hgf] at h1
        obtain ⟨hf, hfn⟩ := getF_mem hgf
        obtain ⟨y1, y2⟩ := y
        simp only at h1
        subst h1
        have hp := ptrE_some hv
        rw [hp] at hen ⊢
        subst hfn
        exact hMore f w' cnt' hf hlk hrg hlt hgr hsz hen)

theorem grownBy_set (W : World) (b o : Nat) (v : Value) : W.grownBy (W.setCell ⟨b, o, none⟩ v) (some b) :=
  ⟨rfl, rfl, rfl, by simp [World.setCell], fun i hi hne => Below.heap_setCell W ⟨b, o, none⟩ v i (fun e => hne (by rw [e]))⟩
theorem grownBy_drew (W : World) (row : Option Nat) : W.grownBy W.drew row := ⟨rfl, rfl, rfl, Nat.le_refl _, fun _ _ _ => rfl⟩

/-- how much of a file stays -/
def keepN (keep : Int) (f : Fil) : Nat := f.sure + min keep.toNat (f.xs.length - f.sure)
def cutV (v : Value) (k : Nat) : Value := match v with | .slice p _ d => .slice p k d | v => v
/-- a file behind a crash, in memory -/
def crL (keep : Int) (f : Fil) : Fil := ⟨f.nm, f.blk, cutV f.v (keepN keep f), f.xs.take (keepN keep f), keepN keep f⟩
/-- the files while a crash goes through them -/
def crM (keep : Int) (left : Lit → Bool) (l : List Fil) : List Fil := l.map fun f => if left (.string f.nm) then f else crL keep f
theorem crM_dat (keep : Int) (left : Lit → Bool) (l : List Fil) : datF (crM keep left l) = datF l := by
  unfold datF crM
  rw [List.map_map]
  congr 1
  refine List.map_congr_left fun f _ => ?_
  show entF (if left (.string f.nm) then f else crL keep f) = entF f
  split <;> rfl
theorem crM_start (keep : Int) (l : List Fil) : crM keep (has (datF l)) l = l := by
  unfold crM
  conv => rhs; rw [← List.map_id l]
  refine List.map_congr_left fun f hf => ?_
  rw [if_pos]; rfl
  refine List.any_eq_true.2 ⟨entF f, List.mem_map.2 ⟨f, hf, rfl⟩, ?_⟩
  show (f.nm == f.nm) = true
  simp
theorem crM_end (keep : Int) {left : Lit → Bool} (h : ∀ kl, left kl = false) (l : List Fil) : crM keep left l = l.map (crL keep) := by
  unfold crM
  exact List.map_congr_left fun f _ => by rw [if_neg (by rw [h]; simp)]
theorem crM_mem {keep : Int} {left : Lit → Bool} {l : List Fil} {f : Fil} (hf : f ∈ l) (hl : left (.string f.nm) = true) : f ∈ crM keep left l :=
  List.mem_map.2 ⟨f, hf, by rw [if_pos hl]⟩
theorem crM_srt {keep : Int} {left : Lit → Bool} {l : List Fil} (h : Srt l) : Srt (crM keep left l) := by
  refine List.Pairwise.map _ (fun f g hfg => ?_) h
  have e : ∀ f : Fil, (if left (.string f.nm) then f else crL keep f).nm = f.nm := fun f => by split <;> rfl
  rw [e f, e g]; exact hfg
theorem crM_step {keep : Int} {left : Lit → Bool} {l : List Fil} {f : Fil} (hs : Srt l) (hf : f ∈ l) (hl : left (.string f.nm) = true) : putF (crL keep f) (crM keep left l) = crM keep (fun z => left z && !z.sameKey (.string f.nm)) l := by
  rw [putF_mod (f := crL keep f) (crM_srt hs) ⟨f, crM_mem hf hl, rfl⟩]
  unfold crM
  rw [List.map_map]
  refine List.map_congr_left fun g hg => ?_
  show (if (if left (.string g.nm) then g else crL keep g).nm == f.nm then crL keep f else (if left (.string g.nm) then g else crL keep g)) = if left (.string g.nm) && !(g.nm == f.nm) then g else crL keep g
  have e : (if left (.string g.nm) then g else crL keep g).nm = g.nm := by split <;> rfl
  rw [e]
  by_cases hn : g.nm = f.nm
  · have : g = f := srt_inj hs hg hf hn
    subst this
    simp
  · have hb : (g.nm == f.nm) = false := by simpa using hn
    rw [hb]
    simp
theorem cr_abs (keep : Int) (l : List Fil) : (l.map (crL keep)).map absF = (l.map absF).map (crF keep) := by
  rw [List.map_map, List.map_map]; rfl
theorem cutV_own (v : Value) (k : Nat) : (cutV v k).ownBlock = v.ownBlock := by
  cases v with
  | slice a _ _ => cases a <;> rfl
  | _ => rfl
theorem crM_own {d mb : Nat} {keep : Int} {left : Lit → Bool} {l : List Fil} {b : Nat} (h : OwnD d mb (crM keep left l) b) : OwnD d mb l b := by
  rcases h with h | h | ⟨g, hg, h⟩
  · exact .inl h
  · exact .inr (.inl h)
  · obtain ⟨f, hf, rfl⟩ := List.mem_map.1 hg
    refine .inr (.inr ⟨f, hf, ?_⟩)
    split at h
    · exact h
    · rcases h with h | h
      · exact .inl h
      · exact .inr (by rw [← cutV_own f.v (keepN keep f)]; exact h)
/-- what is kept while a crash goes through the files -/
structure CrI (wr w : World) (base d mb : Nat) (l : List Fil) (keep : Int) (r : Nat) (left : Lit → Bool) (cnt : Nat) : Prop where
  dl : Dl wr base d mb (crM keep left l) true (-1)
  rg : wr.ranges Try.prog 9 ptrE mb r l.length (datF l) left cnt
  fr : Fr w wr (OwnD d mb l) (OwnD d mb l)
  new : w.heap.size ≤ r
theorem rg_kept {w w' : World} {P : Program} {k : TypeId} {R : Value → Option (DataW Unit × List MemPlace)} {b r n : Nat} {D : DataW Unit} {left : Lit → Bool} {cnt : Nat} (h : w.ranges P k R b r n D left cnt) (hb : w'.heap[b]? = w.heap[b]?) (hr : w'.heap[r]? = w.heap[r]?) : w'.ranges P k R b r n D left cnt := by
  obtain ⟨es, clock, since, seen, c0, hb', F, hs, hD, hr', rest⟩ := h
  exact ⟨es, clock, since, seen, c0, hb.trans hb', F, hs, hD, hr.trans hr', rest⟩
/-- the loop's step -/
theorem CrI.next {wr w w1 : World} {base d mb r : Nat} {l : List Fil} {keep : Int} {left left' : Lit → Bool} {cnt cnt' : Nat} (h : CrI wr w base d mb l keep r left cnt) (hO : ∀ b, OwnD d mb l b → b < w.heap.size) (hg : wr.grownBy w1 (some r)) : Dl w1 base d mb (crM keep left l) true (-1) ∧ Fr w w1 (OwnD d mb l) (OwnD d mb l) := by
  have hk : ∀ b, b < w.heap.size → w1.heap[b]? = wr.heap[b]? := fun b hb => hg.block b (Nat.lt_of_lt_of_le hb h.fr.size) (fun e => by have := h.new; have := Option.some.inj e; omega)
  refine ⟨h.dl.kept fun b ho => hk b (hO b (crM_own ho)), ⟨hg.os.trans h.fr.os, hg.tape.trans h.fr.tape, hg.output.trans h.fr.output, Nat.le_trans h.fr.size hg.size, fun b hb hn => (hk b hb).trans (h.fr.block b hb hn), fun b hb => .inl hb⟩⟩
/-- a file has been cut -/
theorem CrI.cut {w1 w w2 : World} {base d mb r : Nat} {l : List Fil} {keep : Int} {left : Lit → Bool} {cnt : Nat} (hs : Srt l) (hO : ∀ b, OwnD d mb l b → b < w.heap.size) (hd : Dl w1 base d mb (crM keep left l) true (-1)) (hf1 : Fr w w1 (OwnD d mb l) (OwnD d mb l)) (hnew : w.heap.size ≤ r)
    {f : Fil} (hf : f ∈ l) (hl : left (.string f.nm) = true) (hr : w1.ranges Try.prog 9 ptrE mb r l.length (datF l) (fun z => left z && !z.sameKey (.string f.nm)) cnt)
    (hw : Only f.blk w1 w2) (hb : Bk w2 f.blk 69 #[cutV f.v (keepN keep f), .int .i64 (keepN keep f)]) : CrI w2 w base d mb l keep r (fun z => left z && !z.sameKey (.string f.nm)) cnt := by
  have hfm := crM_mem (keep := keep) hf hl
  have hfo : OwnD d mb l f.blk := .inr (.inr ⟨f, hf, .inl rfl⟩)
  have hne := hd.fil_ne hfm
  have hfb := hd.row f hfm
  have hsz := hd.sz f hfm
  have hkl : keepN keep f ≤ f.xs.length := by unfold keepN; omega
  obtain ⟨p0, d0, hv0, hd0⟩ := hfb.1
  have hcv : cutV f.v (keepN keep f) = .slice p0 (keepN keep f) d0 := by rw [hv0]; rfl
  have hfb2 : Fb w1 base (cutV f.v (keepN keep f)) (f.xs.take (keepN keep f)) := by
    rw [hcv]; exact Fb.cut (n := f.xs.length) (by rw [← hv0]; exact hfb) _ hkl
  have hrow : ∀ b, f.v.ownBlock = some b → b < w1.heap.size ∧ b ≠ f.blk := fun b hb => ⟨(hd.lt b (.inr (.inr ⟨f, hfm, .inr hb⟩))).1, (hd.row_ne hfm hb).2.2 f hfm⟩
  have hdl := hd.write hfm (cutV f.v (keepN keep f)) (f.xs.take (keepN keep f)) (keepN keep f) (w' := w2) (fun b hb hn _ => hw.block b hb hn) hw.size hb
    (hfb2.kept fun b hb => by rw [cutV_own] at hb; exact hw.block b (hrow b hb).1 (hrow b hb).2) ⟨by rw [List.length_take]; omega, by rw [List.length_take]; omega⟩ (fun b hb => .inl (by rw [cutV_own] at hb; exact hb))
  rw [show (⟨f.nm, f.blk, cutV f.v (keepN keep f), f.xs.take (keepN keep f), keepN keep f⟩ : Fil) = crL keep f from rfl, crM_step hs hf hl] at hdl
  refine ⟨hdl, rg_kept hr (hw.block mb hr.owns.lt (fun e => hne.2 e.symm)) (hw.block r hr.lt (fun e => ?_)), ⟨hw.os.trans hf1.os, hw.tape.trans hf1.tape, hw.output.trans hf1.output, Nat.le_trans hf1.size hw.size, fun b hb hn => (hw.block b (Nat.lt_of_lt_of_le hb hf1.size) (fun e => hn (e ▸ hfo))).trans (hf1.block b hb hn), fun b hb => .inl hb⟩, hnew⟩
  have := hO f.blk hfo
  omega

set_option maxRecDepth 100000 in
set_option maxHeartbeats 4000000 in
theorem crash_any (base d : Nat) (s : DS) (O : Nat → Prop) (keep : Int) (hk : keep ≤ 9223372036854775807) (w : World) (h : Dk w base d s O) :
    Calls Try.prog 26 #[.pointer (some ⟨d, 0, none⟩), .int .i64 keep] w fun r w' => r = .returned (.tuple #[]) ∧ After w' w base d O (crashS s keep) := by
  obtain ⟨mb, l, hD, hfs, rfl⟩ := h
  obtain ⟨fs, on, left0⟩ := s
  simp only at hD hfs
  subst hfs
  obtain ⟨c0, c1, c2, s0, s1, s2⟩ := hD.cells
  have HD := Lib.hid hD
  have HO := Lib.hid (fun b ho => (hD.lt b ho).1)
  have HSR := Lib.hid hD.srt
  have HMB := Lib.hid ((hD.setOn true).setLeft (-1) (by omega))
  have hmap := HMB.out.map
  clear hD
  go_enter Try.func26, Try.ntmps26
  go_upto_region 2 with fail
  have HFR1 := Lib.hid (show Fr w ((w.setCell ⟨d, 1, none⟩ (.bool true)).setCell ⟨d, 2, none⟩ (.int .i64 (-1))) (OwnD d mb l) (OwnD d mb l) from (Fr.set w d (.inl rfl) 1 _).trans (Fr.set _ d (.inl rfl) 2 _))
  have HZ1 := Lib.hid (show ((w.setCell ⟨d, 1, none⟩ (.bool true)).setCell ⟨d, 2, none⟩ (.int .i64 (-1))).heap.size = w.heap.size by simp [World.setCell])
  clear c0 c1 c2 s0 s1 s2
  generalize (w.setCell ⟨d, 1, none⟩ (.bool true)).setCell ⟨d, 2, none⟩ (.int .i64 (-1)) = W1 at *
  obtain ⟨c0, c1, c2, s0, s1, s2⟩ := HMB.out.cells
  go_wp2_with (first
    | (at_range; refine wpList_range_own _ rfl _ 61 rfl 9 64 (string_keyed Try.underlying9) Try.underlying61 ptrE mb l.length (datF l) rfl hmap ?_; intro w0 hrg0 hg0 hs0; have HRG0 := Lib.hid hrg0; have HG0 := Lib.hid hg0; have HS0 := Lib.hid hs0; clear hrg0 hg0 hs0)
    | go_in)
  go_frame
  clear c0 c1 c2 s0 s1 s2 hmap
  go_loopw [5, 6] (fun _ _ wr => ∃ (left : Lit → Bool) (cnt : Nat), CrI wr w base d mb l keep W1.heap.size left cnt) (fun _ _ wr => wr.rangeLeft mb W1.heap.size)
  case atStart =>
    refine ⟨_, _, ⟨by rw [crM_start]; exact HMB.out.kept fun b hb => HG0.out.block b (HMB.out.lt b hb).1 (by simp), HRG0.out, HFR1.out.trans (Fr.grown (HG0.out.but none) (fun b e => by cases e)), by rw [HZ1.out]; exact Nat.le_refl _⟩⟩
  case round =>
    obtain ⟨left, cnt, hI⟩ := hrel
    have HI := Lib.hid hI
    clear hI
    go_wp2_with (first
      | (at_next; refine wpList_next_files _ rfl _ rfl 9 Try.underlying9 mb W1.heap.size l.length l left cnt rfl HI.out.rg ?_ ?_)
      | go_in)
    · intro _ hl0
      go_wp2
      go_end0
      have hdl := HI.out.dl
      rw [crM_end keep hl0] at hdl
      refine ⟨rfl, _, ⟨mb, l.map (crL keep), hdl, (cr_abs keep l).symm, rfl⟩, HI.out.fr.sub (fun b hb => .inl ?_)⟩
      rw [← crM_end keep hl0] at hb
      exact crM_own hb
    · intro f w2 cnt2 hf hl hrg2 hlt hg2 hs2 hen
      have hnx := HI.out.next (left' := left) (cnt' := cnt) HO.out hg2
      have HD2 := Lib.hid hnx.1
      have HF2 := Lib.hid hnx.2
      have HFM := Lib.hid (crM_mem (keep := keep) hf hl)
      obtain ⟨fc0, fc1, fs0, fs1, flt⟩ := HD2.out.fcells HFM.out
      obtain ⟨p0, d0, hv0, hd0⟩ := (HD2.out.row f HFM.out).1
      obtain ⟨L0, hL0⟩ : ∃ L0, f.xs.length = L0 := ⟨_, rfl⟩
      have hsz := HD2.out.sz f HFM.out
      rw [hL0] at hv0 hd0 hsz
      rw [hv0] at fc0
      obtain ⟨wet, hwet⟩ : ∃ wet : Nat, wet = L0 - f.sure := ⟨_, rfl⟩
      have u1 : IntKind.i64.wrap ((L0 : Int) - (f.sure : Int)) = (wet : Int) := by rw [IntWalk.i64_in _ (by omega)]; omega
      obtain ⟨kp, hkp⟩ : ∃ kp : Nat, kp = min keep.toNat wet := ⟨_, rfl⟩
      obtain ⟨KN, hKN⟩ : ∃ KN : Nat, KN = f.sure + kp := ⟨_, rfl⟩
      have u2 : wrap64 ((f.sure : Int) + (kp : Int)) = (KN : Int) := by rw [IntWalk.wrap64_in _ (by omega)]; omega
      have HKN := Lib.hid (show keepN keep f = KN by rw [keepN, hL0, ← hwet, ← hkp, hKN])
      have hle1 : kp ≤ wet := by rw [hkp]; exact Nat.min_le_right _ _
      have hle2 : KN ≤ L0 := by rw [hKN]; have h1 := hsz.1; clear u1 u2; omega
      have hsl := fun wx => run_slice_txt wx p0 L0 d0 KN (Nat.le_trans hle2 hd0)
      have HH := Lib.hid (And.intro hf (And.intro hl (And.intro hrg2 hlt)))
      have HVV := Lib.hid hv0
      have HKP := Lib.hid hkp
      clear hf hl hrg2 hlt hg2 hs2 hnx hv0 hd0 hL0 hsz hwet hkp hKN hle1 hle2
      go_upto_region 5 with (fail)
      have y0 : w2.drew.cell? ⟨f.blk, 0, none⟩ = some (.slice p0 L0 d0) := fc0
      have y1 : w2.drew.cell? ⟨f.blk, 1, none⟩ = some (.int .i64 f.sure) := fc1
      have y2 : w2.drew.frozen? ⟨f.blk, 0, none⟩ = false := fs0
      have y3 : w2.drew.frozen? ⟨f.blk, 1, none⟩ = false := fs1
      have HBK := Lib.hid (show Bk w2.drew f.blk 69 #[f.v, .int .i64 f.sure] from HD2.out.fil f HFM.out)
      clear fc0 fc1 fs0 fs1 hen
      go_region_held3 (fun X => X = w2.drew) (first | rfl | go_keep) (fail)
      go_upto_region 7 with (fail)
      have hv : wrap64 ((f.sure : Int) + if (wet : Int) < if keep < 0 then 0 else keep then (wet : Int) else if keep < 0 then 0 else keep) = (KN : Int) := by
        have e : (if (wet : Int) < (if keep < 0 then 0 else keep) then (wet : Int) else if keep < 0 then 0 else keep) = (kp : Int) := by
          rw [HKP.out]
          by_cases h1 : keep < 0
          · simp only [if_pos h1]; split <;> omega
          · simp only [if_neg h1]; split <;> omega
        rw [e]; exact u2
      simp only [hv]
      clear hv u1 u2 y0 y1 y2 y3
      obtain ⟨c0, c1, s0, s1, clt⟩ := HD2.out.fcells HFM.out
      rw [HVV.out] at c0
      go_region
      have hC : CrI (((w2.setCell ⟨f.blk, 1, none⟩ (.int .i64 (KN : Int))).setCell ⟨f.blk, 0, none⟩ (.slice p0 KN d0)).drew.drew) w base d mb l keep W1.heap.size (fun z => left z && !z.sameKey (.string f.nm)) cnt2 := by
        refine CrI.cut HSR.out HO.out HD2.out HF2.out HI.out.new HH.out.1 HH.out.2.1 HH.out.2.2.1 ((((Only.set f.blk w2 1 _).trans (Only.set f.blk _ 0 _)).trans (only_drew f.blk _)).trans (only_drew f.blk _)) ?_
        rw [HKN.out, HVV.out]
        exact ((HD2.out.fil f HFM.out).set 1 (.int .i64 (KN : Int))).set 0 (.slice p0 KN d0)
      have HC := Lib.hid hC
      clear hC c0 c1 s0 s1 clt hsl
      go_wp2_with fail
      go_roundw
      case rel => exact ⟨_, cnt2, HC.out⟩
      case measure =>
        rw [HC.out.rg.left_eq, HI.out.rg.left_eq]
        exact HH.out.2.2.2
end Go.Proofs.Ytfkmakkofeedpaa
