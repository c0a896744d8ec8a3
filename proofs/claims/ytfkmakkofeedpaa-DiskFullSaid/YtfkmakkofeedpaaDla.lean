/-
  A disk in memory behind a store.
-/
import Derived.Test.YtfkmakkofeedpaaDsk
set_option linter.unusedVariables false
set_option linter.unusedSimpArgs false
namespace Go.Proofs.Ytfkmakkofeedpaa
open Go.Maps Go.RowKit

def Apart (f g : Fil) : Prop := f.blk ≠ g.blk ∧ ∀ b, f.v.ownBlock = some b → g.v.ownBlock ≠ some b
theorem Apart.symm {f g : Fil} (h : Apart f g) : Apart g f := ⟨fun e => h.1 e.symm, fun b hb he => h.2 b he hb⟩
theorem pw_ins {R : Fil → Fil → Prop} {f : Fil} : ∀ {l : List Fil}, (∀ g ∈ l, R f g ∧ R g f) → l.Pairwise R → (insF f l).Pairwise R
  | [], _, _ => by simp [insF]
  | y :: r, h, hp => by
    obtain ⟨h1, h2⟩ := List.pairwise_cons.1 hp
    unfold insF
    split
    · exact List.pairwise_cons.2 ⟨fun g hg => (h g hg).1, hp⟩
    · refine List.pairwise_cons.2 ⟨fun g hg => ?_, pw_ins (fun g hg => h g (by simp [hg])) h2⟩
      rcases mem_insF.1 hg with rfl | hg
      · exact (h y (by simp)).2
      · exact h1 g hg
theorem pw_at {R : Fil → Fil → Prop} (hs : ∀ f g, R f g → R g f) : ∀ {l : List Fil}, l.Pairwise R → ∀ {f g : Fil}, f ∈ l → g ∈ l → f ≠ g → R f g
  | [], _, f, g, hf, _, _ => by cases hf
  | y :: r, hp, f, g, hf, hg, hn => by
    obtain ⟨h1, h2⟩ := List.pairwise_cons.1 hp
    rcases List.mem_cons.1 hf with ef | hf'
    · rcases List.mem_cons.1 hg with eg | hg'
      · exact absurd (ef.trans eg.symm) hn
      · rw [ef]; exact h1 g hg'
    · rcases List.mem_cons.1 hg with eg | hg'
      · rw [eg]; exact hs _ _ (h1 f hf')
      · exact pw_at hs h2 hf' hg' hn
section
variable {w w' : World} {base d mb : Nat} {l : List Fil} {on : Bool} {left : Int}
theorem Dl.apart (h : Dl w base d mb l on left) {f g : Fil} (hf : f ∈ l) (hg : g ∈ l) (hn : f.nm ≠ g.nm) : Apart f g :=
  pw_at (R := Apart) (fun _ _ h => h.symm) h.ap hf hg (fun e => hn (e ▸ rfl))
theorem Dl.setLeft (h : Dl w base d mb l on left) (k : Int) (hk : -1 ≤ k ∧ k ≤ 9223372036854775807) : Dl (w.setCell ⟨d, 2, none⟩ (.int .i64 k)) base d mb l on k := by
  have hot : ∀ b, b ≠ d → (w.setCell ⟨d, 2, none⟩ (.int .i64 k)).heap[b]? = w.heap[b]? := fun b hb => Below.heap_setCell w ⟨d, 2, none⟩ _ b hb
  exact ⟨h.dsk.set 2 _, h.map.kept (hot mb h.ne_map), fun f hf => (hot _ (h.fil_ne hf).1).trans (h.fil f hf), fun f hf => (h.row f hf).kept fun b hb => hot b (h.row_ne hf hb).1, h.sz, h.srt, h.ap, h.bs, hk, h.le⟩
theorem Dl.setOn (h : Dl w base d mb l on left) (b : Bool) : Dl (w.setCell ⟨d, 1, none⟩ (.bool b)) base d mb l b left := by
  have hot : ∀ x, x ≠ d → (w.setCell ⟨d, 1, none⟩ (.bool b)).heap[x]? = w.heap[x]? := fun x hx => Below.heap_setCell w ⟨d, 1, none⟩ _ x hx
  exact ⟨h.dsk.set 1 _, h.map.kept (hot mb h.ne_map), fun f hf => (hot _ (h.fil_ne hf).1).trans (h.fil f hf), fun f hf => (h.row f hf).kept fun b hb => hot b (h.row_ne hf hb).1, h.sz, h.srt, h.ap, h.bs, h.lf, h.le⟩
/-- a file more, or another one in its place -/
theorem Dl.put {f' : Fil} (h : Dl w base d mb l on left) (hd : w'.heap[d]? = w.heap[d]?)
    (ho : ∀ g ∈ l, g.nm ≠ f'.nm → w'.heap[g.blk]? = w.heap[g.blk]? ∧ ∀ b, g.v.ownBlock = some b → w'.heap[b]? = w.heap[b]?)
    (hm : MapF w' Try.prog 9 mb (putF f' l)) (hb : Bk w' f'.blk 69 #[f'.v, .int .i64 f'.sure]) (hr : Fb w' base f'.v f'.xs)
    (hz : f'.sure ≤ f'.xs.length ∧ f'.xs.length ≤ 1048576 ∧ okName f'.nm = true) (ha : ∀ g ∈ l, g.nm ≠ f'.nm → Apart f' g)
    (hle : (putF f' l).length ≤ 8) (hbb : base ≤ f'.blk) : Dl w' base d mb (putF f' l) on left := by
  refine ⟨hd.trans h.dsk, hm, fun g hg => ?_, fun g hg => ?_, fun g hg => ?_, srt_put h.srt, ?_, ⟨h.bs.1, h.bs.2.1, fun g hg => ?_⟩, h.lf, hle⟩
  · rcases mem_putF.1 hg with rfl | ⟨hg, hn⟩
    · exact hb
    · exact (ho g hg hn).1.trans (h.fil g hg)
  · rcases mem_putF.1 hg with rfl | ⟨hg, hn⟩
    · exact hr
    · exact (h.row g hg).kept (ho g hg hn).2
  · rcases mem_putF.1 hg with rfl | ⟨hg, hn⟩
    · exact hz
    · exact h.sz g hg
  · refine pw_ins (R := Apart) (fun g hg => ?_) (List.Pairwise.filter _ h.ap)
    obtain ⟨hg, hn⟩ := mem_delF.1 hg
    exact ⟨ha g hg hn, (ha g hg hn).symm⟩
  · rcases mem_putF.1 hg with rfl | ⟨hg, hn⟩
    · exact hbb
    · exact h.bs.2.2 g hg
theorem Dl.del (h : Dl w base d mb l on left) (nm : List UInt8) (hk : ∀ b, b ≠ mb → OwnD d mb l b → w'.heap[b]? = w.heap[b]?) (hm : MapF w' Try.prog 9 mb (delF nm l)) : Dl w' base d mb (delF nm l) on left := by
  refine ⟨(hk d (fun e => h.ne_map e.symm) (.inl rfl)).trans h.dsk, hm, fun g hg => ?_, fun g hg => ?_, fun g hg => h.sz g (mem_delF.1 hg).1, srt_del h.srt _, List.Pairwise.filter _ h.ap, ⟨h.bs.1, h.bs.2.1, fun g hg => h.bs.2.2 g (mem_delF.1 hg).1⟩, h.lf, Nat.le_trans (List.length_filter_le _ _) h.le⟩
  · have hg := (mem_delF.1 hg).1
    exact (hk g.blk (h.fil_ne hg).2 (.inr (.inr ⟨g, hg, .inl rfl⟩))).trans (h.fil g hg)
  · have hg := (mem_delF.1 hg).1
    exact (h.row g hg).kept fun b hb => hk b (h.row_ne hg hb).2.1 (.inr (.inr ⟨g, hg, .inr hb⟩))
theorem own_put {f' : Fil} {b : Nat} (h : OwnD d mb (putF f' l) b) : OwnD d mb l b ∨ b = f'.blk ∨ f'.v.ownBlock = some b := by
  rcases h with h | h | ⟨g, hg, h⟩
  · exact .inl (.inl h)
  · exact .inl (.inr (.inl h))
  · rcases mem_putF.1 hg with rfl | ⟨hg, _⟩
    · exact .inr h
    · exact .inl (.inr (.inr ⟨g, hg, h⟩))
theorem own_del {nm : List UInt8} {b : Nat} (h : OwnD d mb (delF nm l) b) : OwnD d mb l b := by
  rcases h with h | h | ⟨g, hg, h⟩
  · exact .inl h
  · exact .inr (.inl h)
  · exact .inr (.inr ⟨g, (mem_delF.1 hg).1, h⟩)
/-- a file's own two cells are written anew, and perhaps its row -/
theorem Dl.write {f : Fil} (h : Dl w base d mb l on left) (hf : f ∈ l) (v' : Value) (xs' : List UInt8) (sure' : Nat)
    (hk : ∀ b, b < w.heap.size → b ≠ f.blk → f.v.ownBlock ≠ some b → w'.heap[b]? = w.heap[b]?) (hsz : w.heap.size ≤ w'.heap.size)
    (hb : Bk w' f.blk 69 #[v', .int .i64 sure']) (hr : Fb w' base v' xs') (hz : sure' ≤ xs'.length ∧ xs'.length ≤ 1048576) (hv : ∀ b, v'.ownBlock = some b → f.v.ownBlock = some b ∨ w.heap.size ≤ b) :
    Dl w' base d mb (putF ⟨f.nm, f.blk, v', xs', sure'⟩ l) on left := by
  have hne : ∀ g ∈ l, g.nm ≠ f.nm → Apart f g := fun g hg hn => h.apart hf hg (fun e => hn e.symm)
  have hrd : ∀ b, f.v.ownBlock = some b → b ≠ d ∧ b ≠ mb ∧ ∀ g ∈ l, b ≠ g.blk := fun b hb => h.row_ne hf hb
  refine h.put (f' := ⟨f.nm, f.blk, v', xs', sure'⟩) (hk d h.dsk.lt (fun e => (h.fil_ne hf).1 e.symm) (fun e => (hrd d e).1 rfl)) (fun g hg hn => ⟨?_, fun b hb => ?_⟩) ?_ hb hr ⟨hz.1, hz.2, (h.sz f hf).2.2⟩ (fun g hg hn => ⟨(hne g hg hn).1, fun b hb hb' => ?_⟩) ?_ (h.bs.2.2 f hf)
  · exact hk _ (h.fil g hg).lt (fun e => (hne g hg hn).1 e.symm) (fun e => (hrd _ e).2.2 g hg rfl)
  · exact hk b (h.lt b (.inr (.inr ⟨g, hg, .inr hb⟩))).1 (fun e => (h.row_ne hg hb).2.2 f hf e) (fun e => (hne g hg hn).2 b e hb)
  · have hm := h.map.kept (hk mb h.map.lt (fun e => (h.fil_ne hf).2 e.symm) (fun e => (hrd mb e).2.1 rfl))
    exact hm.same (putF_same h.srt hf rfl rfl)
  · rcases hv b hb with h1 | h1
    · exact (hne g hg hn).2 b h1 hb'
    · have := (h.lt b (.inr (.inr ⟨g, hg, .inr hb'⟩))).1
      omega
  · rw [putF_len (f := ⟨f.nm, f.blk, v', xs', sure'⟩) h.srt ⟨f, hf, rfl⟩]; exact h.le
theorem Dl.remap (h : Dl w base d mb l on left) (hg : w.grownBy w' (some mb)) (hm : MapF w' Try.prog 9 mb l) : Dl w' base d mb l on left :=
  ⟨(hg.block d h.dsk.lt (fun e => h.ne_map (Option.some.inj e).symm)).trans h.dsk, hm, fun g hg' => (hg.block g.blk (h.fil g hg').lt (fun e => (h.fil_ne hg').2 (Option.some.inj e))).trans (h.fil g hg'),
    fun g hg' => (h.row g hg').kept fun b hb => hg.block b (h.lt b (.inr (.inr ⟨g, hg', .inr hb⟩))).1 (fun e => (h.row_ne hg' hb).2.1 (Option.some.inj e)), h.sz, h.srt, h.ap, h.bs, h.lf, h.le⟩
end
end Go.Proofs.Ytfkmakkofeedpaa
