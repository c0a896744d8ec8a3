/-
  The sums of bytes, as calls that are known to the evaluator.
-/
import Derived.Test.YtooiaadnhglifaaDoorSum
import Derived.Test.YtooiaadnhglifaaDoorRsm
import Derived.Test.YtooiaadnhglifaaDoorGeD
set_option linter.unusedVariables false
set_option linter.unusedSimpArgs false
namespace Go.Proofs.YtooiaadnhglifaaDoor
open Go.RowKit Go.Ge

noncomputable def hasTabs (h : Ge.Heap) : Bool :=
  match h.get 0, h.get 1 with
  | some (.tab i c), some (.tab j d) => decide (i = 0) && decide (j = 1) && sameL c (cells32 firstS.l) && sameL d (cells32 roundsS)
  | _, _ => false
theorem tab_at {μ : Mu} {h : Ge.Heap} {w : World} (r : Rel μ h w) {g : Nat} {c : List Value} (hg : h.get g = some (.tab g c)) : ∀ (i : Nat) (v : Value), c[i]? = some v → w.cell? ⟨g, i, none⟩ = some v := by
  intro i v hv
  obtain ⟨q, hq, rfl, c', e, fz, h1, h2⟩ : ∃ q, μ g = some q ∧ q = ⟨g, 0, 0, .nilFunc⟩ ∧ ∃ (c' : Array Value) (e : TypeId) (fz : Nat × Nat), w.heap[q.blk]? = some (.cells c' e fz) ∧ ∀ (i : Nat) (v : Value), c[i]? = some v → c'[i]? = some v ∧ dat v = true := r.live g _ hg
  simp [World.cell?, h1, (h2 i v hv).1]
theorem env_of_tabs {μ : Mu} {h : Ge.Heap} {w : World} (r : Rel μ h w) (hk : hasTabs h = true) : Env w := by
  unfold hasTabs at hk
  split at hk
  · rename_i i c j d h1 h2
    simp only [Bool.and_eq_true, decide_eq_true_eq] at hk
    obtain ⟨⟨⟨rfl, rfl⟩, h3⟩, h4⟩ := hk
    rw [sameL_eq h3] at h1
    rw [sameL_eq h4] at h2
    exact ⟨tab_at r h1, tab_at r h2⟩
  · cases hk

/-- which bytes have which sum -/
def lookB : List (List UInt8 × List UInt8) → List UInt8 → Option (List UInt8)
  | [], _ => none
  | (a, d) :: l, m => if a = m then some d else lookB l m
theorem lookB_eq : ∀ {l : List (List UInt8 × List UInt8)}, (∀ p ∈ l, sumS p.1 = p.2) → ∀ {m d : List UInt8}, lookB l m = some d → d = sumS m
  | [], _, m, d, h => by cases h
  | (a, e) :: l, hl, m, d, h => by
    unfold lookB at h
    split at h
    · rename_i ha
      cases h
      subst ha
      exact (hl _ (List.mem_cons_self ..)).symm
    · exact lookB_eq (fun p hp => hl p (List.mem_cons_of_mem _ hp)) h

noncomputable def knS (pre : List (List UInt8 × List UInt8)) : Kn := fun f args S =>
  if f = 65 ∨ f = 26 then
    (match args with
    | [x] => if hasTabs S.h = true then
        (match reads8 S.h x with
        | some m => if m.length < 100000 then (match lookB pre m with
            | some d => some (.agg ⟨d.map fun b => Value.int .u8 b.toNat⟩, S)
            | none => none) else none
        | none => none)
      else none
    | _ => none)
  else none
theorem knS_ok {pre : List (List UInt8 × List UInt8)} (hpre : ∀ p ∈ pre, sumS p.1 = p.2) : KnOk Tryd.prog (knS pre) := by
  intro f args S v S' h μ w args' g ha
  unfold knS at h
  split at h
  · rename_i hf
    split at h
    · rename_i x
      split at h
      · rename_i ht
        split at h
        · rename_i m hm
          split at h
          · rename_i hl
            split at h
            · rename_i d hd
              cases h
              have hds := lookB_eq hpre hd
              subst hds
              have hE := env_of_tabs g.rel ht
              cases ha with
              | cons hx hn =>
                cases hn
                rename_i x'
                obtain ⟨q, c, rfl, h0, hq⟩ := reads8_eq g.rel hx hm
                have hc : m.length ≤ c := by
                  cases q with
                  | none => rw [h0 rfl]; exact Nat.zero_le _
                  | some a => exact (hq a rfl).1
                have hR : Rd0 w q m := by
                  cases q with
                  | none => exact .inl (h0 rfl)
                  | some a =>
                    obtain ⟨h1, h2, h3, h4⟩ := hq a rfl
                    obtain ⟨b, o, s⟩ := a
                    simp only at h2 h3
                    subst h2
                    refine .inr ⟨b, o, rfl, h3, fun i v hv => ?_⟩
                    have := h4 i v hv
                    rw [add_none] at this
                    exact this
                have hv : VR μ (.agg ⟨(sumS m).map fun b => Value.int .u8 b.toNat⟩) (.agg (cells8 (sumS m)).toArray) :=
                  .agg (VRs.dats (bytes8_dat _))
                rcases hf with rfl | rfl
                · exact CallsIn.of_below g hv (sum_any q c m w hR hc hE (by omega) (sumS m) rfl)
                · exact CallsIn.of_below g hv (rsum_any q c m w hR (by omega) (sumS m) rfl)
            · cases h
          · cases h
        · cases h
      · cases h
    · cases h
  · cases h
end Go.Proofs.YtooiaadnhglifaaDoor
