/-
  Contracts: the closures of Sync, Rename, Cut, Remove.
-/
import Derived.Test.YtfkmakkofeedpaaDap
set_option linter.unusedVariables false
set_option linter.unusedSimpArgs false
namespace Go.Proofs.Ytfkmakkofeedpaa
open Go.Maps Go.RowKit

theorem only_drew (b : Nat) (w : World) : Only b w w.drew := Only.of (Below.drew (Below.refl _ _))
/-- what an act leaves, by the list of files -/
def Left (w w' : World) (base d mb : Nat) (l : List Fil) (on : Bool) (left : Int) (fs : List Fil) : Prop := ∃ l', Dl w' base d mb l' on left ∧ l'.map absF = fs ∧ Fr w w' (OwnD d mb l) (OwnD d mb l')
/-- a file's two cells hold something else; its row is as it was -/
theorem cells_done {w w' : World} {base d mb : Nat} {l : List Fil} {on : Bool} {left : Int} (hD : Dl w base d mb l on left) {f : Fil} (hf : f ∈ l) (v' : Value) (xs' : List UInt8) (k : Nat)
    (hO : Only f.blk w w') (hb : Bk w' f.blk 69 #[v', .int .i64 k]) (hv : v'.ownBlock = f.v.ownBlock) (hr : Fb w base v' xs') (hz : k ≤ xs'.length ∧ xs'.length ≤ 1048576) :
    Left w w' base d mb l on left (putF (mkF f.nm xs' k) (l.map absF)) := by
  refine ⟨_, hD.write hf v' xs' k (fun b hb hn hr => hO.block b hb hn) hO.size hb (hr.kept fun b hb => hO.block b ?_ ?_) hz (fun b h => .inl (by rw [← hv]; exact h)), by rw [abs_put]; rfl, ⟨hO.os, hO.tape, hO.output, hO.size, fun b hb hn => hO.block b hb (fun e => hn (.inr (.inr ⟨f, hf, .inl e⟩))), fun b hb => ?_⟩⟩
  · rw [hv] at hb; exact (hD.lt b (.inr (.inr ⟨f, hf, .inr hb⟩))).1
  · rw [hv] at hb; exact (hD.row_ne hf hb).2.2 f hf
  · rcases own_put hb with h | rfl | h
    · exact .inl h
    · exact .inl (.inr (.inr ⟨f, hf, .inl rfl⟩))
    · exact .inl (.inr (.inr ⟨f, hf, .inr (by rw [← hv]; exact h)⟩))

set_option maxRecDepth 100000 in
theorem sync1_any (base d mb : Nat) (l : List Fil) (on : Bool) (left : Int) (f : Fil) (hf : f ∈ l) (b0 : Nat) (w : World) (h : Dl w base d mb l on left) (hx : w.cell? ⟨b0, 0, none⟩ = some (.pointer (some ⟨f.blk, 0, none⟩))) :
    Calls Try.prog 41 #[.pointer (some ⟨b0, 0, none⟩)] w fun r w' => r = .returned (.tuple #[]) ∧ Left w w' base d mb l on left (putF (mkF f.nm f.xs f.xs.length) (l.map absF)) := by
  obtain ⟨c0, c1, s0, s1, flt⟩ := h.fcells hf
  obtain ⟨p0, d0, hv0, hd0⟩ := (h.row f hf).1
  obtain ⟨L0, hL0⟩ : ∃ L0, f.xs.length = L0 := ⟨_, rfl⟩
  rw [hL0] at hv0
  rw [hv0] at c0
  have HD := Lib.hid h
  have HF := Lib.hid hf
  have HV := Lib.hid hv0
  have HL := Lib.hid hL0
  have HDX := Lib.hid (h.on_ (Below.drew (Below.refl _ _)))
  clear h hf hd0 hL0 hv0
  go_enter Try.func41, Try.ntmps41
  go_wp2_with fail
  go_region
  go_end0
  refine ⟨rfl, ?_⟩
  have hbk := (HD.out.fil f HF.out).set 1 (.int .i64 (L0 : Int))
  rw [HL.out]
  exact cells_done HD.out HF.out f.v f.xs L0 ((Only.set f.blk w 1 _).trans (only_drew f.blk _)) hbk rfl (HD.out.row f HF.out) ⟨by rw [HL.out]; exact Nat.le_refl _, (HD.out.sz f HF.out).2.1⟩

/-- a text in a block -/
def TxtAt (w : World) (b : Nat) (s : ByteArray) : Prop := w.cell? ⟨b, 0, none⟩ = some (.string s)
theorem run_slice_txt (w : World) (p : Option Addr) (len cap n : Nat) (h : n ≤ cap) : (Instr.sliceAt 30 (.slice p len cap) none (some (.int .i64 (n : Int))) none).run Try.prog w = .ok (.slice p n cap) w :=
  run_slice_to (P := Try.prog) 30 5 Try.underlying30 (by kernel_rfl) p len cap .i64 (n : Int) n rfl h w

set_option maxRecDepth 100000 in
theorem cut1_any (base d mb : Nat) (l : List Fil) (on : Bool) (left : Int) (f : Fil) (hf : f ∈ l) (b0 b1 : Nat) (n : Nat) (hn : n ≤ f.xs.length) (w : World) (h : Dl w base d mb l on left) (hx : w.cell? ⟨b0, 0, none⟩ = some (.pointer (some ⟨f.blk, 0, none⟩))) (hy : w.cell? ⟨b1, 0, none⟩ = some (.int .i64 (n : Int))) (h0 : ¬ OwnD d mb l b0) (h1 : ¬ OwnD d mb l b1) :
    Calls Try.prog 46 #[.pointer (some ⟨b0, 0, none⟩), .pointer (some ⟨b1, 0, none⟩)] w fun r w' => r = .returned (.tuple #[]) ∧ Left w w' base d mb l on left (putF (mkF f.nm (f.xs.take n) (min f.sure n)) (l.map absF)) := by
  obtain ⟨c0, c1, s0, s1, flt⟩ := h.fcells hf
  obtain ⟨p0, d0, hv0, hd0⟩ := (h.row f hf).1
  obtain ⟨L0, hL0⟩ : ∃ L0, f.xs.length = L0 := ⟨_, rfl⟩
  rw [hL0] at hv0
  rw [hv0] at c0
  have hsl := fun wx => run_slice_txt wx p0 L0 d0 n (by omega)
  have n0 : b0 ≠ f.blk := fun e => h0 (.inr (.inr ⟨f, hf, .inl e⟩))
  have n1 : b1 ≠ f.blk := fun e => h1 (.inr (.inr ⟨f, hf, .inl e⟩))
  have HD := Lib.hid h
  have HF := Lib.hid hf
  have HV := Lib.hid hv0
  have HL := Lib.hid hL0
  have HN := Lib.hid hn
  clear h hf hd0 hL0 hv0 hn h0 h1
  go_enter Try.func46, Try.ntmps46
  go_wp2_with fail
  go_region
  go_wp2_with fail
  go_region
  all_goals
    go_end0
    refine ⟨rfl, ?_⟩
    have hbk := ((HD.out.fil f HF.out).set 0 (.slice p0 n d0)).set 1 (.int .i64 ((min f.sure n : Nat) : Int))
    have e1 : (if (n : Int) < (f.sure : Int) then (n : Int) else (f.sure : Int)) = ((min f.sure n : Nat) : Int) := by split <;> omega
    have hfin := cells_done (w' := ((w.setCell ⟨f.blk, 0, none⟩ (.slice p0 n d0)).setCell ⟨f.blk, 1, none⟩ (.int .i64 ((min f.sure n : Nat) : Int))).drew.drew) HD.out HF.out (.slice p0 n d0) (f.xs.take n) (min f.sure n) ((((Only.set f.blk w 0 _).trans (Only.set f.blk _ 1 _)).trans (only_drew f.blk _)).trans (only_drew f.blk _)) hbk (by rw [HV.out]; cases p0 <;> rfl) ((HV.out ▸ HD.out.row f HF.out : Fb w base (.slice p0 L0 d0) f.xs).cut n HN.out) ⟨by rw [List.length_take]; have := HN.out; omega, by rw [List.length_take]; have := (HD.out.sz f HF.out).2.1; omega⟩
    rw [← e1] at hfin
    first
      | exact hfin
      | (simp only [Int.ofNat_lt] at hfin; exact hfin)

set_option maxRecDepth 100000 in
theorem remove1_any (base d mb : Nat) (l : List Fil) (on : Bool) (left : Int) (nm : ByteArray) (hs : nm.size ≤ maxLen) (b0 b1 : Nat) (w : World) (h : Dl w base d mb l on left) (hx : w.cell? ⟨b0, 0, none⟩ = some (.pointer (some ⟨d, 0, none⟩))) (hy : w.cell? ⟨b1, 0, none⟩ = some (.string nm)) :
    Calls Try.prog 47 #[.pointer (some ⟨b0, 0, none⟩), .pointer (some ⟨b1, 0, none⟩)] w fun r w' => r = .returned (.tuple #[]) ∧ Left w w' base d mb l on left (delF nm.data.toList (l.map absF)) := by
  obtain ⟨c0, c1, c2, s0, s1, s2⟩ := h.cells
  obtain ⟨w2, hdr, hm2, hgr⟩ := (h.on_ (Below.drew (Below.refl w.heap.size w))).map.drop Try.underlying9 Try.underlying61 nm hs 0
  have HD := Lib.hid h
  have HM := Lib.hid hm2
  have hgr' : w.grownBy w2 (some mb) := ⟨hgr.os, hgr.tape, hgr.output, hgr.size, hgr.block⟩
  have HG := Lib.hid hgr'
  clear h hm2 hgr hgr' hs
  go_enter Try.func47, Try.ntmps47
  go_wp2_with fail
  go_region
  go_end0
  refine ⟨rfl, delF nm.data.toList l, HD.out.del nm.data.toList (fun b hb ho => HG.out.block b (HD.out.lt b ho).1 (fun e => hb (Option.some.inj e))) HM.out, abs_del _ _, (Fr.grown (w := w) (O := OwnD d mb l) HG.out (fun b e => by cases e; exact .inr (.inl rfl))).sub (fun b hb => .inl (own_del hb))⟩

set_option maxRecDepth 100000 in
set_option maxHeartbeats 1000000 in
theorem rename1_any (base d mb : Nat) (l : List Fil) (on : Bool) (left : Int) (f : Fil) (hf : f ∈ l) (nm tn : ByteArray) (hs : nm.size ≤ maxLen) (hs2 : tn.size ≤ maxLen) (hnm : f.nm = nm.data.toList) (hok : okName tn.data.toList = true) (b0 b1 b2 b3 : Nat) (w : World) (h : Dl w base d mb l on left)
    (hx0 : w.cell? ⟨b0, 0, none⟩ = some (.pointer (some ⟨d, 0, none⟩))) (hx1 : w.cell? ⟨b1, 0, none⟩ = some (.string nm)) (hx2 : w.cell? ⟨b2, 0, none⟩ = some (.pointer (some ⟨f.blk, 0, none⟩))) (hx3 : w.cell? ⟨b3, 0, none⟩ = some (.string tn)) (h0 : b0 ≠ mb) (h2 : b2 ≠ mb) (h3 : b3 ≠ mb) :
    Calls Try.prog 44 #[.pointer (some ⟨b0, 0, none⟩), .pointer (some ⟨b1, 0, none⟩), .pointer (some ⟨b2, 0, none⟩), .pointer (some ⟨b3, 0, none⟩)] w fun r w' => r = .returned (.tuple #[]) ∧ Left w w' base d mb l on left (putF (mkF tn.data.toList f.xs f.sure) (delF nm.data.toList (l.map absF))) := by
  obtain ⟨c0, c1, c2, s0, s1, s2⟩ := h.cells
  obtain ⟨w2, hdr, hm2, hgr⟩ := (h.on_ (Below.drew (Below.refl w.heap.size w))).map.drop Try.underlying9 Try.underlying61 nm hs 0
  replace hgr : w.grownBy w2 (some mb) := ⟨hgr.os, hgr.tape, hgr.output, hgr.size, hgr.block⟩
  obtain ⟨g, hg⟩ : ∃ g : Fil, g = ⟨tn.data.toList, f.blk, f.v, f.xs, f.sure⟩ := ⟨_, rfl⟩
  have hm2' : MapF w2.drew Try.prog 9 mb (delF nm.data.toList l) := hm2.kept rfl
  obtain ⟨w3, hst, hm3, hgr3⟩ := hm2'.store Try.underlying9 Try.underlying61 (by have := List.length_filter_le (fun g : Fil => !(g.nm == nm.data.toList)) l; have := h.le; unfold delF; omega) tn hs2 g (by rw [hg])
  rw [show (Value.pointer (some ⟨g.blk, 0, none⟩)) = .pointer (some ⟨f.blk, 0, none⟩) by rw [hg]] at hst
  have lt_of : ∀ {b u}, w.cell? ⟨b, 0, none⟩ = some u → b < w.heap.size := fun h => lt_of_cell h
  have y0 : w2.cell? ⟨b0, 0, none⟩ = some (.pointer (some ⟨d, 0, none⟩)) := (World.cell?_of_block (w := w) (a := ⟨b0, 0, none⟩) (hgr.block b0 (lt_of hx0) (fun e => h0 (Option.some.inj e)))).trans hx0
  have y2 : w2.cell? ⟨b2, 0, none⟩ = some (.pointer (some ⟨f.blk, 0, none⟩)) := (World.cell?_of_block (w := w) (a := ⟨b2, 0, none⟩) (hgr.block b2 (lt_of hx2) (fun e => h2 (Option.some.inj e)))).trans hx2
  have y3 : w2.cell? ⟨b3, 0, none⟩ = some (.string tn) := (World.cell?_of_block (w := w) (a := ⟨b3, 0, none⟩) (hgr.block b3 (lt_of hx3) (fun e => h3 (Option.some.inj e)))).trans hx3
  have z0 : w2.cell? ⟨d, 0, none⟩ = some (.map (some mb)) := (World.cell?_of_block (w := w) (a := ⟨d, 0, none⟩) (hgr.block d h.dsk.lt (fun e => h.ne_map (Option.some.inj e).symm))).trans c0
  have hd2 : Dl w2 base d mb (delF nm.data.toList l) on left := h.del nm.data.toList (fun b hb ho => hgr.block b (h.lt b ho).1 (fun e => hb (Option.some.inj e))) hm2
  have hot : ∀ b, OwnD d mb l b → b ≠ mb → w3.heap[b]? = w.heap[b]? := fun b ho hb => (hgr3.block b (Nat.lt_of_lt_of_le (h.lt b ho).1 hgr.size) (fun e => hb (Option.some.inj e))).trans (hgr.block b (h.lt b ho).1 (fun e => hb (Option.some.inj e)))
  have hfb : OwnD d mb l f.blk := .inr (.inr ⟨f, hf, .inl rfl⟩)
  have hd3 : Dl w3 base d mb (putF g (delF nm.data.toList l)) on left := by
    refine hd2.put (f' := g) (hgr3.block d hd2.dsk.lt (fun e => h.ne_map (Option.some.inj e).symm)) (fun x hx hn => ⟨hgr3.block x.blk (hd2.fil x hx).lt (fun e => (hd2.fil_ne hx).2 (Option.some.inj e)), fun b hb => hgr3.block b (hd2.lt b (.inr (.inr ⟨x, hx, .inr hb⟩))).1 (fun e => (hd2.row_ne hx hb).2.1 (Option.some.inj e))⟩) hm3 ?_ ?_ ?_ (fun x hx hn => ?_) ?_ ?_
    · rw [hg]; exact (hot f.blk hfb (h.fil_ne hf).2).trans (h.fil f hf)
    · rw [hg]; exact (h.row f hf).kept fun b hb => hot b (.inr (.inr ⟨f, hf, .inr hb⟩)) (h.row_ne hf hb).2.1
    · rw [hg]; exact ⟨(h.sz f hf).1, (h.sz f hf).2.1, hok⟩
    · have hx' := mem_delF.1 hx
      have := h.apart hf hx'.1 (fun e => hx'.2 (by rw [← e, hnm]))
      rw [hg]; exact this
    · have h1 : (putF g (delF nm.data.toList l)).length ≤ (delF nm.data.toList l).length + 1 := by
        unfold putF; rw [insF_len]
        have := List.length_filter_le (fun x : Fil => !(x.nm == g.nm)) (delF nm.data.toList l)
        show (List.filter _ _).length + 1 ≤ _
        omega
      have h2 : (delF nm.data.toList l).length < l.length := by
        unfold delF
        exact List.length_filter_lt_length_iff_exists.2 ⟨f, hf, by simp [hnm]⟩
      have := h.le
      omega
    · rw [hg]; exact h.bs.2.2 f hf
  have hmo : ∀ b, some mb = some b → OwnD d mb l b := fun b e => by cases e; exact .inr (.inl rfl)
  have hfr3 : Fr w w3 (OwnD d mb l) (OwnD d mb (putF g (delF nm.data.toList l))) := by
    refine (((Fr.grown (w := w) (O := OwnD d mb l) hgr hmo).trans (Fr.of (OwnD d mb l) (Below.drew (Below.refl w2.heap.size w2)))).trans (Fr.grown (w := w2.drew) (O := OwnD d mb l) hgr3 hmo)).sub (fun b hb => .inl ?_)
    rcases own_put hb with h' | h' | h'
    · exact own_del h'
    · rw [hg] at h'; exact .inr (.inr ⟨f, hf, .inl h'⟩)
    · rw [hg] at h'; exact .inr (.inr ⟨f, hf, .inr h'⟩)
  have HD3 := Lib.hid hd3
  have HFR := Lib.hid hfr3
  have HE := Lib.hid (show (putF g (delF nm.data.toList l)).map absF = putF (mkF tn.data.toList f.xs f.sure) (delF nm.data.toList (l.map absF)) by rw [abs_put, abs_del, hg]; rfl)
  clear hmo h hd2 hd3 hfr3 hm2 hm2' hm3 hgr hgr3 hot hfb hg hf hnm hok hs hs2 h0 h2 h3 lt_of
  go_enter Try.func44, Try.ntmps44
  go_wp2_with fail
  go_region
  go_wp2_with fail
  go_region
  go_end0
  exact ⟨rfl, _, HD3.out, HE.out, HFR.out⟩
end Go.Proofs.Ytfkmakkofeedpaa
