/-
  Lists of entries; contracts: the reference's right.
-/
import Derived.Test.YtammglimobninaaDoorHeq
import Derived.Deep.MidRow
set_option linter.unusedVariables false
set_option linter.unusedSimpArgs false
namespace Go.Proofs.YtammglimobninaaDoor
open Go.RowKit Nm

/-- a list of entries in memory -/
structure Ens (w : World) (q : Option Addr) (l : List En) : Prop where
  at_ : l = [] ∨ ∃ b off, q = some ⟨b, off, none⟩ ∧ b < w.heap.size ∧ ∀ i (h : i < l.length), w.rangeAt b (off + i * 35) (l[i]).cells
  ok : ∀ e ∈ l, e.Ok
theorem Ens.on {w w' : World} {q : Option Addr} {l : List En} (h : Ens w q l) (hb : Below w.heap.size w w') : Ens w' q l := by
  refine ⟨?_, h.ok⟩
  rcases h.at_ with h | ⟨b, off, h1, h2, h3⟩
  · exact .inl h
  · exact .inr ⟨b, off, h1, Nat.lt_of_lt_of_le h2 hb.size, fun i hi j v hv => by rw [hb.cell (p := ⟨b, off + i * 35 + j, none⟩) h2]; exact h3 i hi j v hv⟩
theorem Ens.at {w : World} {q : Option Addr} {l : List En} (h : Ens w q l) (k : Nat) (hk : k < l.length) : ∃ b off, q = some ⟨b, off, none⟩ ∧ b < w.heap.size ∧ w.rangeAt b (off + k * 35) (l[k]).cells := by
  rcases h.at_ with h | ⟨b, off, h1, h2, h3⟩
  · subst h; simp at hk
  · exact ⟨b, off, h1, h2, h3 k hk⟩
theorem En.length {e : En} : e.cells.length = 35 := by simp [En.cells, cells8_len, e.len]

set_option maxRecDepth 100000 in
set_option maxHeartbeats 1000000 in
theorem right_any (cut : Int) (q : Option Addr) (l : List En) (c : Nat) (w : World) (hL : Ens w q l) (hn : l.length ≤ 9223372036854775807) :
    Calls Tryd.prog 40 #[.int .i64 cut, .slice q l.length c] w fun r w' => r = .returned (.bool (l.all goodB && (decide (1 ≤ cut) && decide (cut ≤ 32)))) ∧ Below w.heap.size w w' := by
  have HL := Lib.hid hL
  clear hL
  go_enter Tryd.func40, Tryd.ntmps40
  go_wp2_with fail
  go_loopw [5] (fun i wr => ∃ k : Nat, k ≤ l.length ∧ i = .int .i64 k ∧ Hid ((l.take k).all goodB = true) ∧ Below w.heap.size w wr) (fun i _ => l.length - (intOf i).toNat)
  case atStart => exact ⟨0, by omega, rfl, Lib.hid rfl, Below.refl _ _⟩
  case round =>
    obtain ⟨k, hk, rfl, HG, hb⟩ := hrel
    have HB := Lib.hid hb
    clear hb
    have w3 : (0 : Int) ≤ (k : Int) := by omega
    by_cases hlt : k < l.length
    · have w4 : (k : Int) < (l.length : Int) := by omega
      have HLW := Lib.hid (HL.out.on HB.out)
      obtain ⟨b, off, rfl, hbl, hr⟩ := HLW.out.at k hlt
      have HR := Lib.hid hr
      have HK := Lib.hid (HL.out.ok l[k] (List.getElem_mem hlt))
      have HT := Lib.hid (List.take_succ_eq_append_getElem hlt)
      have HA := Lib.hid (show goodB l[k] = false → l.all goodB = false from fun h => by
        rw [Bool.eq_false_iff]; intro hh
        have := List.all_eq_true.1 hh _ (List.getElem_mem hlt)
        rw [h] at this; cases this)
      clear hr
      generalize l[k] = e at *
      rcases Bool.eq_false_or_eq_true (goodB e) with h1 | h1
      · go_wp2_with (first
          | (refine wpList_load_mid rfl 24 _ rfl b (off + k * 35) rfl _ _ HR.out Tryd.underlying24 rfl (by rw [En.length]; kernel_rfl) ?_)
          | (go_at_call 15; refine (refgood_any e HK.out _).mono ?_; rw [h1]; rintro r w2 ⟨rfl, hb⟩; have HB2 := Lib.hid (HB.out.trans (hb.mono HB.out.size)); clear hb))
        go_roundw
        case rel => exact ⟨k + 1, by omega, by go_num, Lib.hid (by rw [HT.out, List.all_append, HG.out]; simp [h1]), HB2.out⟩
        case measure => simp [intOf]; omega
      · go_wp2_with (first
          | (refine wpList_load_mid rfl 24 _ rfl b (off + k * 35) rfl _ _ HR.out Tryd.underlying24 rfl (by rw [En.length]; kernel_rfl) ?_)
          | (go_at_call 15; refine (refgood_any e HK.out _).mono ?_; rw [h1]; rintro r w2 ⟨rfl, hb⟩; have HB2 := Lib.hid (HB.out.trans (hb.mono HB.out.size)); clear hb))
        go_ret
        exact ⟨by rw [HA.out h1]; rfl, HB2.out⟩
    · obtain rfl : k = l.length := by omega
      have hG := HG.out
      rw [List.take_length] at hG
      have HG := Lib.hid hG
      clear hG
      obtain ⟨wq, rfl⟩ : ∃ wq : World, wq = wr := ⟨_, rfl⟩
      by_cases h1 : 1 ≤ cut
      · by_cases h2 : cut ≤ 32
        all_goals
          go_wp2_with fail
          all_goals first
            | (exfalso; omega)
            | (go_ret; exact ⟨by rw [HG.out]; simp [h1, h2], HB.out⟩)
            | exact ⟨by rw [HG.out]; simp [h1, h2], HB.out⟩
      · go_wp2_with fail
        all_goals first
          | (exfalso; omega)
          | (go_ret; exact ⟨by rw [HG.out]; first | (simp [h1]; done) | (simp; omega), HB.out⟩)
          | exact ⟨by rw [HG.out]; first | (simp [h1]; done) | (simp; omega), HB.out⟩
end Go.Proofs.YtammglimobninaaDoor
