/-
  Contracts: bind.comparisons, bind.Holds.
-/
import Derived.Test.YtmfaallipfhajaaBfl
import Derived.Test.YtmfaallipfhajaaCmp
namespace Go.Proofs.Ytmfaallipfhajaa
open Go.RowKit

def cmpEnts : Array MapEntry := #[{ key := .int .u8 3, val := .func (.func 31) #[] #[], born := 0 }, { key := .int .u8 4, val := .func (.func 32) #[] #[], born := 1 }]
theorem underM : Try.prog.underlying 60 = some (.map 5 58) := Try.underlying60

theorem set_alloc (w : World) (o o' : Obj) : ({ w.alloc o with heap := (w.alloc o).heap.setIfInBounds w.heap.size o' } : World) = w.alloc o' := by
  have h : (w.heap.push o).setIfInBounds w.heap.size o' = w.heap.push o' := by
    apply Array.ext_getElem?
    intro i
    rw [Array.getElem?_setIfInBounds]
    by_cases h : w.heap.size = i
    · subst h; simp
    · simp [h, Array.getElem?_push, Ne.symm h]
  unfold World.alloc
  simp only [h]
theorem checkU (w : World) (e : Bool) (k : Int) : (Instr.checkKey e 10000 5 (.int .u8 k)).run Try.prog w = .ok () w := by
  show (Instr.checkKey e (9999 + 1) 5 (.int .u8 k)).run Try.prog w = .ok () w
  unfold Instr.checkKey
  simp [run_underlying Try.underlying5]
theorem ins1 (w : World) : (Instr.mapUpdate 60 (.map (some w.heap.size)) (.int .u8 3) (.func (.func 31) #[] #[])).run Try.prog (w.alloc (.map #[] 0)) = .ok () (w.alloc (.map #[{ key := .int .u8 3, val := .func (.func 31) #[] #[], born := 0 }] 1)) := by
  have hb : (w.alloc (.map #[] 0)).heap[w.heap.size]? = some (.map #[] 0) := heap_alloc_new w _
  have hs := MapKept.run_setObj_map (P := Try.prog) (.map #[{ key := .int .u8 3, val := .func (.func 31) #[] #[], born := 0 }] 1) hb
  rw [set_alloc] at hs
  simp [Instr.mapUpdate, run_underlying underM, MapKept.run_getObj_map hb, checkU, Instr.findKey, run_underlying Try.underlying5, Instr.findNow, hs, Result.andThen]
theorem ins2 (w : World) : (Instr.mapUpdate 60 (.map (some w.heap.size)) (.int .u8 4) (.func (.func 32) #[] #[])).run Try.prog (w.alloc (.map #[{ key := .int .u8 3, val := .func (.func 31) #[] #[], born := 0 }] 1)) = .ok () (w.alloc (.map cmpEnts 2)) := by
  have hb : (w.alloc (.map #[{ key := .int .u8 3, val := .func (.func 31) #[] #[], born := 0 }] 1)).heap[w.heap.size]? = some (.map #[{ key := .int .u8 3, val := .func (.func 31) #[] #[], born := 0 }] 1) := heap_alloc_new w _
  have hs := MapKept.run_setObj_map (P := Try.prog) (.map cmpEnts 2) hb
  rw [set_alloc] at hs
  unfold cmpEnts at hs ⊢
  simp [Instr.mapUpdate, run_underlying underM, MapKept.run_getObj_map hb, checkU, Instr.findKey, run_underlying Try.underlying5, Instr.findNow, Instr.sameNow, hs, Result.andThen]
/-- the function of a kind, if there is one -/
def cmpOf (k : Int) : Value := if k == 3 then .tuple #[.func (.func 31) #[] #[], .bool true] else if k == 4 then .tuple #[.func (.func 32) #[] #[], .bool true] else .tuple #[.nilFunc, .bool false]
theorem zeroF (w : World) : (zeroValue 58).run Try.prog w = .ok .nilFunc w := by kernel_rfl
theorem look3 (w : World) (b : Nat) (k : Int) (hb : w.heap[b]? = some (.map cmpEnts 2)) : (Instr.lookup 60 (.map (some b)) (.int .u8 k) true).run Try.prog w = .ok (cmpOf k) w := by
  unfold cmpEnts at hb
  unfold cmpOf
  cases h3 : k == 3 <;> cases h4 : k == 4 <;> simp [Instr.lookup, run_underlying underM, MapKept.run_getObj_map hb, checkU, Instr.findKey, run_underlying Try.underlying5, Instr.findNow, Instr.sameNow, h3, h4, Result.andThen]

theorem comparisons_any (w : World) :
    Calls Try.prog 25 #[] w fun e w' => e = .returned (.map (some w.heap.size)) ∧ w' = w.alloc (.map cmpEnts 2) := by
  have hmm := @run_makeMap Try.prog
  have i1 := ins1 w
  have i2 := ins2 w
  go_enter Try.func25, Try.ntmps25
  go_wp2_with fail
  go_ret
  exact ⟨rfl, rfl⟩
/-- whether a comparison holds; whether it can be told -/
def holdsS (k : Int) (args b : List Tm) : Bool × Bool :=
  match args with
  | [x, y] => match look b x, look b y with
    | some u, some v => if k == 3 then (decide (cmpW u.1 u.2 v.1 v.2 < 0), true) else if k == 4 then (cmpW u.1 u.2 v.1 v.2 != 0, true) else (false, false)
    | _, _ => (false, false)
  | _ => (false, false)

theorem cless_any (n : Int) (w : World) : Calls Try.prog 31 #[.int .i64 n] w fun e w' => e = .returned (.bool (decide (n < 0))) ∧ w = w' := by
  go_enter Try.func31, Try.ntmps31
  go_wp2_with fail
  go_ret
  exact ⟨rfl, rfl⟩
theorem cunlike_any (n : Int) (w : World) : Calls Try.prog 32 #[.int .i64 n] w fun e w' => e = .returned (.bool (n != 0)) ∧ w = w' := by
  go_enter Try.func32, Try.ntmps32
  go_wp2_with fail
  go_ret
  exact ⟨rfl, rfl⟩

theorem comparisons_at (k : Int) (fk : Value) (ok : Bool) (hk : cmpOf k = .tuple #[fk, .bool ok]) (w : World) :
    Calls Try.prog 25 #[] w fun e w' => ∃ b, e = .returned (.map (some b)) ∧ (Instr.lookup 60 (.map (some b)) (.int .u8 k) true).run Try.prog w' = .ok (.tuple #[fk, .bool ok]) w' ∧ Below w.heap.size w w' :=
  (comparisons_any w).mono fun e w' ⟨he, hw⟩ => by
    subst hw
    exact ⟨_, he, by rw [← hk]; exact look3 _ _ k (heap_alloc_new w _), below1 w _⟩

set_option maxHeartbeats 8000000 in
set_option maxRecDepth 100000 in
theorem holds_no (k : Int) (fk : Value) (ok : Bool) (hk : cmpOf k = .tuple #[fk, .bool ok]) (p : ByteArray) (qa qb : Option Addr) (n nb ca cb : Nat) (w : World) (_hn : n ≤ maxLen) (h : ok = false ∨ n ≠ 2) :
    Calls Try.prog 15 #[.agg #[.int .u8 k, .string p, .slice qa n ca], .slice qb nb cb] w fun e w' => e = .returned (.tuple #[.bool false, .bool false]) ∧ Below w.heap.size w w' := by
  have HB := Lib.hid (below2 w (.cells #[.int .u8 k, .string p, .slice qa n ca] 24) (.cells #[.slice qb nb cb] 28))
  have HC := Lib.hid (fun wx => comparisons_at k fk ok hk wx)
  skip
  clear hk
  go_enter Try.func15, Try.ntmps15
  go_wp2_with fail
  have c0 : ((w.alloc (.cells #[.int .u8 k, .string p, .slice qa n ca] 24)).alloc (.cells #[.slice qb nb cb] 28)).cell? ⟨w.heap.size, 0, none⟩ = some (.int .u8 k) := by simp [go_sem]
  have c2 : ((w.alloc (.cells #[.int .u8 k, .string p, .slice qa n ca] 24)).alloc (.cells #[.slice qb nb cb] 28)).cell? ⟨w.heap.size, 2, none⟩ = some (.slice qa n ca) := by simp [go_sem]
  have hz : w.heap.size < ((w.alloc (.cells #[.int .u8 k, .string p, .slice qa n ca] 24)).alloc (.cells #[.slice qb nb cb] 28)).heap.size := by simp; omega
  generalize (w.alloc (.cells #[.int .u8 k, .string p, .slice qa n ca] 24)).alloc (.cells #[.slice qb nb cb] 28) = W1 at *
  generalize hhs : w.heap.size = hs at *
  have HH := Lib.hid hhs
  clear hhs
  rcases h with rfl | h
  · go_region_with (go_at_call 25; refine (HC.out _).mono ?_; rintro e wn ⟨b, rfl, hl, hbn⟩; have e0 : wn.cell? ⟨hs, 0, none⟩ = some (.int .u8 k) := (hbn.cell (p := ⟨hs, 0, none⟩) hz).trans c0)
    all_goals
      go_wp2_with fail
      go_ret2
      exact ⟨rfl, HH.out.symm ▸ HB.out.trans ((Below.drew (Below.refl _ _)).trans (hbn.mono (Nat.le_of_lt hz)))⟩
  · have hne : ((n : Int) != 2) = true := by simp; omega
    cases ok
    all_goals
      go_region_with (go_at_call 25; refine (HC.out _).mono ?_; rintro e wn ⟨b, rfl, hl, hbn⟩; have e0 : wn.cell? ⟨hs, 0, none⟩ = some (.int .u8 k) := (hbn.cell (p := ⟨hs, 0, none⟩) hz).trans c0; have e2 : wn.cell? ⟨hs, 2, none⟩ = some (.slice qa n ca) := (hbn.cell (p := ⟨hs, 2, none⟩) hz).trans c2)
      all_goals
        go_wp2_with fail
        go_ret2
        exact ⟨rfl, HH.out.symm ▸ HB.out.trans ((Below.drew (Below.refl _ _)).trans (hbn.mono (Nat.le_of_lt hz)))⟩
end Go.Proofs.Ytmfaallipfhajaa
