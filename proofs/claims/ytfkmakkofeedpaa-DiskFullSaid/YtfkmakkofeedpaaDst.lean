/-
  Plain: what acts leave with power for ever.
-/
import Derived.Test.YtfkmakkofeedpaaDtn
set_option linter.unusedVariables false
set_option linter.unusedSimpArgs false
namespace Go.Proofs.Ytfkmakkofeedpaa
open Go.Maps Go.RowKit

theorem use_ever (n : Nat) : useS (-1) n = (n, -1, true) := rfl
theorem app_absent {fs : List Fil} {nm m : List UInt8} (hn : okName nm = true) (hg : getF nm fs = none) (hl : fs.length < 8) (hm : m.length ≤ 1048576) : appS ⟨fs, true, -1⟩ nm m = (⟨putF (mkF nm m 0) fs, true, -1⟩, 0) := by
  unfold appS
  rw [if_neg (by simp), if_neg (by rw [hn]; simp)]
  simp only [hg]
  rw [if_neg (by omega), if_neg (by omega), use_ever, List.take_of_length_le (Nat.le_refl _)]
  rfl
theorem app_there {fs : List Fil} {nm m : List UInt8} {f : Fil} (hn : okName nm = true) (hg : getF nm fs = some f) (hm : f.xs.length + m.length ≤ 1048576) : appS ⟨fs, true, -1⟩ nm m = (⟨putF (mkF nm (f.xs ++ m) f.sure) fs, true, -1⟩, 0) := by
  unfold appS
  rw [if_neg (by simp), if_neg (by rw [hn]; simp)]
  simp only [hg]
  rw [if_neg (by omega), use_ever, List.take_of_length_le (Nat.le_refl _)]
  rfl
theorem sync_there {fs : List Fil} {nm : List UInt8} {f : Fil} (hg : getF nm fs = some f) : syncS ⟨fs, true, -1⟩ nm = (⟨putF (mkF nm f.xs f.xs.length) fs, true, -1⟩, 0) := by
  unfold syncS
  rw [if_neg (by simp)]
  simp only [hg]
  rfl
theorem sure_1 (a : List UInt8) (ha : a.length ≤ 2000) : appS newS [102] a = (⟨[mkF [102] a 0], true, -1⟩, 0) := app_absent okF rfl (by simp) (by omega)
theorem sure_2 (a : List UInt8) : syncS ⟨[mkF [102] a 0], true, -1⟩ [102] = (⟨[mkF [102] a a.length], true, -1⟩, 0) := sync_there (f := mkF [102] a 0) rfl
theorem sure_3 (a b : List UInt8) (ha : a.length ≤ 2000) (hb : b.length ≤ 2000) : appS ⟨[mkF [102] a a.length], true, -1⟩ [102] b = (⟨[mkF [102] (a ++ b) a.length], true, -1⟩, 0) := app_there okF (f := mkF [102] a a.length) rfl (by show a.length + b.length ≤ _; omega)
theorem sure_4 (a b : List UInt8) (keep : Int) : crashS ⟨[mkF [102] (a ++ b) a.length], true, -1⟩ keep = ⟨[mkF [102] (a ++ b.take (min keep.toNat b.length)) (a.length + min keep.toNat b.length)], true, -1⟩ := by
  unfold crashS crF
  rw [List.map_cons, List.map_nil]
  have e1 : (mkF [102] (a ++ b) a.length).xs.length - (mkF [102] (a ++ b) a.length).sure = b.length := by
    show (a ++ b).length - a.length = _
    rw [List.length_append]; omega
  have e2 : (mkF [102] (a ++ b) a.length).sure = a.length := rfl
  rw [e1, e2]
  have e3 : (mkF [102] (a ++ b) a.length).xs.take (a.length + min keep.toNat b.length) = a ++ b.take (min keep.toNat b.length) := by
    show (a ++ b).take _ = _
    rw [List.take_append, List.take_of_length_le (by omega), show a.length + min keep.toNat b.length - a.length = min keep.toNat b.length by omega]
  rw [e3]; rfl
theorem sure_5 (nm xs : List UInt8) (n : Nat) (hn : n = xs.length) (left : Int) (on : Bool) : crashS ⟨[mkF nm xs n], on, left⟩ 0 = ⟨[mkF nm xs n], true, -1⟩ := by
  subst hn
  unfold crashS crF
  rw [List.map_cons, List.map_nil]
  have e1 : (mkF nm xs xs.length).sure + min (0 : Int).toNat ((mkF nm xs xs.length).xs.length - (mkF nm xs xs.length).sure) = xs.length := by
    show xs.length + min 0 _ = _
    omega
  rw [e1]
  show (⟨[mkF nm (xs.take xs.length) xs.length], true, -1⟩ : DS) = _
  rw [List.take_of_length_le (Nat.le_refl _)]
theorem read_one (nm xs : List UInt8) (n : Nat) : readS ⟨[mkF nm xs n], true, -1⟩ nm = (xs, 0) := by
  unfold readS
  rw [if_neg (by simp)]
  have : getF nm [mkF nm xs n] = some (mkF nm xs n) := by unfold getF; rw [List.find?_cons_of_pos (by simp [mkF])]
  simp only [this]
  rfl
end Go.Proofs.Ytfkmakkofeedpaa
