/-
  Both Bytes, at any place and any entry; what the laws' examples say.
-/
import Derived.Test.YtammglimobninaaDoorHrb
import Derived.Test.YtammglimobninaaDoorHeq
import Derived.Test.YtammglimobninaaDoorKnw
import Derived.Lib.LaidTab
import Derived.Lib.TrailingZeros
set_option linter.unusedVariables false
set_option linter.unusedSimpArgs false
namespace Go.Proofs.YtammglimobninaaDoor
open Go.RowKit Nm

/-- what an entry's bytes are, an error's number -/
def bytesR (i : Int) (e : En) : List UInt8 := if 0 ≤ i ∧ goodB e = true then bytesS i.toNat e else []
def bytesE (i : Int) (e : En) : Int := if 0 ≤ i ∧ goodB e = true then 0 else 1
theorem bytes_both (i : Int) (hi : i ≤ 9223372036854775807) (e : En) (hk : e.Ok) (w : World) :
    Calls Tryd.prog 11 #[.int .i64 i, .agg e.cells.toArray] w fun r w' => ∃ q c, r = .returned (.tuple #[.slice q (bytesR i e).length c, .int .i64 (bytesE i e)]) ∧ Rd0 w' q (bytesR i e) ∧ Below w.heap.size w w' := by
  by_cases h : 0 ≤ i ∧ goodB e = true
  · obtain ⟨n, rfl⟩ : ∃ n : Nat, i = (n : Int) := ⟨i.toNat, by omega⟩
    have e1 : bytesR (n : Int) e = bytesS n e := by unfold bytesR; rw [if_pos h]; rfl
    have e2 : bytesE (n : Int) e = 0 := by unfold bytesE; rw [if_pos h]
    rw [e1, e2]
    refine (bytes_good n e hk w (by omega) h.2).mono ?_
    rintro r w' ⟨v', base, rfl, hb0, hA, hb⟩
    obtain ⟨q, c, rfl, _, hR⟩ := hA.rd
    exact ⟨q, c, rfl, hR, hb⟩
  · have e1 : bytesR i e = [] := by unfold bytesR; rw [if_neg h]
    have e2 : bytesE i e = 1 := by unfold bytesE; rw [if_neg h]
    rw [e1, e2]
    refine (bytes_bad i e hk w (by
      by_cases h0 : i < 0
      · exact .inl h0
      · exact .inr (by cases hg : goodB e with | false => rfl | true => exact absurd ⟨by omega, hg⟩ h))).mono ?_
    rintro r w' ⟨rfl, hb⟩
    exact ⟨none, 0, rfl, .inl rfl, hb⟩
theorem refbytes_both (i : Int) (hi : i ≤ 9223372036854775807) (e : En) (hk : e.Ok) (w : World) :
    Calls Tryd.prog 12 #[.int .i64 i, .agg e.cells.toArray] w fun r w' => ∃ q c, r = .returned (.tuple #[.slice q (bytesR i e).length c, .int .i64 (bytesE i e)]) ∧ Rd0 w' q (bytesR i e) ∧ Below w.heap.size w w' := by
  by_cases h : 0 ≤ i ∧ goodB e = true
  · obtain ⟨n, rfl⟩ : ∃ n : Nat, i = (n : Int) := ⟨i.toNat, by omega⟩
    have e1 : bytesR (n : Int) e = bytesS n e := by unfold bytesR; rw [if_pos h]; rfl
    have e2 : bytesE (n : Int) e = 0 := by unfold bytesE; rw [if_pos h]
    rw [e1, e2]
    refine (refbytes_good n e hk w (by omega) h.2).mono ?_
    rintro r w' ⟨v', rfl, hA, hb⟩
    obtain ⟨q, c, rfl, _, hR⟩ := hA.rd
    exact ⟨q, c, rfl, hR, hb⟩
  · have e1 : bytesR i e = [] := by unfold bytesR; rw [if_neg h]
    have e2 : bytesE i e = 1 := by unfold bytesE; rw [if_neg h]
    rw [e1, e2]
    refine (refbytes_bad i e hk w (by
      by_cases h0 : i < 0
      · exact .inl h0
      · exact .inr (by cases hg : goodB e with | false => rfl | true => exact absurd ⟨by omega, hg⟩ h))).mono ?_
    rintro r w' ⟨rfl, hb⟩
    exact ⟨none, 0, rfl, .inl rfl, hb⟩

/-! ### the examples -/
def deB : List Value := Lib.deBruijn64tab.map fun n : Nat => .int .u8 (n : Int)
def pre1 : List (List UInt8 × List UInt8) := [(List.replicate 40 0 ++ [3, 97, 110, 110, 0, 0, 0, 0, 0, 0, 0, 3, 0, 0, 0, 10, 113, 117, 101, 114, 121, 32, 112, 40, 88, 41] ++ List.replicate 32 0,
  [23, 61, 244, 173, 118, 23, 33, 8, 141, 126, 154, 6, 83, 168, 125, 159, 134, 158, 120, 24, 171, 138, 30, 128, 137, 7, 34, 150, 5, 233, 58, 198])]
theorem pre1_ok : ∀ p ∈ pre1, sumS p.1 = p.2 := by
  intro p hp
  obtain rfl : p = _ := by simpa [pre1] using hp
  decide +kernel
noncomputable def tabs3 : List (Nat × List Value) := [(0, cells32 firstS.l), (1, deB), (2, cells32 roundsS)]
theorem fixed_true : Ge.saysTrue ((Ge.levK Tryd.prog (Ge.drawF Tryd.prog) (knS pre1) 30).call 13 [] ⟨Ge.tabsH tabs3, 3⟩) = true := by kernel_rfl
/-- the three variables -/
structure Env3 (w : World) : Prop where
  env : Env w
  deb : ∀ (i : Nat) v, deB[i]? = some v → w.cell? ⟨1, i, none⟩ = some v
theorem Env3.lt {w : World} (h : Env3 w) : 1 < w.heap.size := lt_of_cell (h.deb 0 _ rfl)
theorem Env3.on {w w' : World} (h : Env3 w) (hb : Below w.heap.size w w') : Env3 w' :=
  ⟨h.env.on hb h.env.size, fun i v hv => by rw [hb.cell (p := ⟨1, i, none⟩) h.lt]; exact h.deb i v hv⟩
theorem fixed_any (w : World) (h : Env3 w) : Calls Tryd.prog 13 #[] w fun e w' => e = .returned (.bool true) ∧ Below w.heap.size w w' := by
  refine Ge.groundE (Ge.levK_ok (Ge.drawF_ok Tryd.prog) (knS_ok pre1_ok) 30) (n := 3) tabs3 (by decide +kernel) (by decide) [] fixed_true .nil w ?_
  intro g cs hm
  simp only [tabs3, List.mem_cons, List.not_mem_nil, or_false, Prod.mk.injEq] at hm
  rcases hm with ⟨rfl, rfl⟩ | ⟨rfl, rfl⟩ | ⟨rfl, rfl⟩
  · exact h.env.fst
  · exact h.deb
  · exact h.env.cst
end Go.Proofs.YtammglimobninaaDoor
