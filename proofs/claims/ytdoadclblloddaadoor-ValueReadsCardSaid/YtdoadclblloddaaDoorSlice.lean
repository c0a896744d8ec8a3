/-
  Contracts: sort.pdqsort_func at no more than 12, sort.Slice at the named slice type value.tuples.
-/
import Derived.Test.YtdoadclblloddaaDoorIns
import Derived.LoopN
namespace Go.Proofs.YtdoadclblloddaaDoor
open Go.RowKit Go.Sort Go.Extern Go.Extern.Rtype

set_option maxHeartbeats 2000000 in
set_option maxRecDepth 100000 in
theorem pdq_small (sf : Nat) (sb : Array Value) (blk off c B a b : Nat) (lim : Int) (d : Array Tp) (w : World) (hSw : SwOk sf sb blk off d.size) (hH : Rw w blk off d) (hA : AllIn B d w) (hB : B ≤ blk) (hblk : blk < w.heap.size) (hab : a ≤ b) (hb : b ≤ d.size) (hsz : d.size < 4611686018427387904) (h12 : b - a ≤ 12) :
    Calls Tryd.prog 54 #[.agg #[.func (.func 44) #[.slice (some ⟨blk, off, none⟩) d.size c] #[], .func (.func sf) #[] sb], .int .i64 a, .int .i64 b, .int .i64 lim] w fun e w' =>
      e = .returned (.tuple #[]) ∧ Kp blk w w' ∧ Rw w' blk off (insertionSort ltT d a b) := by
  have hB1 := Lib.hid (show Below w.heap.size w (w.alloc (.cells #[.func (.func 44) #[.slice (some ⟨blk, off, none⟩) d.size c] #[], .func (.func sf) #[] sb] 80)) from (Below.refl _ _).alloc (Nat.le_refl _) _)
  have hi := insertion_any sf sb blk off c B a b d _ hSw (hH.below hB1.out hblk) (hA.on (hB1.out.mono (by omega))) hB (by simp; omega) hab hb hsz
  have HI := Lib.hid hi
  clear hi hSw hH hA
  go_enter Tryd.func54, Tryd.ntmps54
  go_wp2
  refine wp_loop_rounds 1 ?_
  rw [rounds_succ]
  go_wp2_with (go_at_call 75; refine HI.out.mono ?_; rintro e w' ⟨rfl, hk, hr⟩)
  (try simp only [Exit.inBlock, Exit.then])
  refine bodyPost_ret (results_none rfl _ _ _) rfl ?_
  exact ⟨rfl, (Kp.of_below hB1.out).trans hk, hr⟩

theorem valueOf60 (p : Option Addr) (n c : Nat) (w : World) :
    (ReflectliteValue.unpack (.iface 60 (.slice p n c))).run Tryd.prog w = .ok (.agg #[typeHandle Tryd.prog 60, .pointer (some ⟨w.heap.size, 0, none⟩), .int .u64 151]) (w.alloc (.cells #[.slice p n c] 60)) := by
  kernel_rfl
theorem swapper60 (p : Option Addr) (n c : Nat) (w : World) :
    (ReflectliteSwapper.swapper "internal/reflectlite" (ReflectliteValue.valueError "Swapper") #[.iface 60 (.slice p (n + 2) c)]).run Tryd.prog w = .ok (.func (.func 72) #[] #[.slice p (n + 2) c, typeHandle Tryd.prog 28]) w := by
  kernel_rfl
noncomputable def inf41 : TypeInfo := (Tryd.prog.info? 41).get (by kernel_rfl)
theorem under60 (w : World) : (under 60).run Tryd.prog w = .ok (41, inf41) w := by kernel_rfl
theorem desc41 : inf41.desc = .slice 28 := by kernel_rfl
theorem underly60 : Tryd.prog.underlying 60 = some (.slice 28) := by kernel_rfl
theorem valueLen60 (a : Addr) (p : Option Addr) (n c : Nat) (w : World) (ha : w.cell? a = some (.slice p n c)) :
    (ReflectliteValue.method (ReflectliteValue.valueError "reflectlite.Value.Len" 0) ReflectliteValue.len #[.agg #[typeHandle Tryd.prog 60, .pointer (some a), .int .u64 151]]).run Tryd.prog w = .ok (.int .i64 n) w := by
  rw [Lib.rl_method]
  simp only [Sem.run_bind, Lib.run_parts (P := Tryd.prog) 60 a (by kernel_rfl) w, Result.andThen]
  simp [ReflectliteValue.len, under60, desc41, loadVar, isAgg, underlying, ha, Builtin.len_, goInt, Result.andThen]

theorem hand60 : typeHandle Tryd.prog 60 = .pointer (some ⟨5, 60, none⟩) := by kernel_rfl

set_option maxHeartbeats 2000000 in
set_option maxRecDepth 100000 in
theorem sortSlice_small (blk off c B : Nat) (d : Array Tp) (w : World) (h2 : 2 ≤ d.size) (hH : Rw w blk off d) (hA : AllIn B d w) (hB : B ≤ blk) (hblk : blk < w.heap.size) (h12 : d.size ≤ 12) :
    Calls Tryd.prog 43 #[.iface 60 (.slice (some ⟨blk, off, none⟩) d.size c), .func (.func 44) #[.slice (some ⟨blk, off, none⟩) d.size c] #[]] w fun e w' =>
      e = .returned (.tuple #[]) ∧ Kp blk w w' ∧ Rw w' blk off (insertionSort ltT d 0 d.size) := by
  have HH := Lib.hid hH
  have HA := Lib.hid hA
  obtain ⟨m, hm⟩ : ∃ m, d.size = m + 2 := ⟨d.size - 2, by omega⟩
  have hs : ∀ w, (ReflectliteSwapper.swapper "internal/reflectlite" (ReflectliteValue.valueError "Swapper") #[.iface 60 (.slice (some ⟨blk, off, none⟩) d.size c)]).run Tryd.prog w = .ok (.func (.func 72) #[] (swB blk off d.size c)) w := fun w => by
    rw [hm]; exact swapper60 _ _ _ _
  have hSw : SwOk 72 (swB blk off d.size c) blk off d.size := fun W dk h hn i j hi hj => swap_any blk off d.size c W dk h hn i j hi hj
  generalize hsf : 72 = sf at hs hSw
  clear hsf
  generalize swB blk off d.size c = sb at hs hSw
  have HSW := Lib.hid hSw
  have HM := Lib.hid hm
  clear hH hA hSw hm
  have hv := valueOf60 (some ⟨blk, off, none⟩) d.size c w
  have hl := fun a w ha => valueLen60 a (some ⟨blk, off, none⟩) d.size c w ha
  have hb := fun w => Tryd.bits_Len (d.size : Int) w (by omega) (by omega)
  rw [hand60] at hv
  simp only [hand60] at hl
  have wr : IntKind.u64.wrap (d.size : Int) = d.size := by simp [IntKind.wrap, IntKind.bits, IntKind.signed]; omega
  go_enter Tryd.func43, Tryd.ntmps43
  go_wp2_with fail
  rw [run_callFunc_extern Tryd.func50 (by kernel_rfl) (by kernel_rfl) (by kernel_rfl) (e := fun args => Extern.ReflectliteValue.unpack (args.getD 0 (.tuple #[]))) (by kernel_rfl),
    show Sem.run Tryd.prog ((fun args : Array Value => Extern.ReflectliteValue.unpack (args.getD 0 (.tuple #[]))) #[.iface 60 (.slice (some ⟨blk, off, none⟩) d.size c)]) w = _ from hv]
  simp only [Result.andThen]
  rw [Oper.upon_value]
  go_wp2_with fail
  rw [run_callFunc_extern Tryd.func51 (by kernel_rfl) (by kernel_rfl) (by kernel_rfl) (e := Extern.ReflectliteSwapper.swapper "internal/reflectlite" (Extern.ReflectliteValue.valueError "Swapper")) (by kernel_rfl), hs]
  simp only [Result.andThen]
  rw [Oper.upon_value]
  go_wp2_with fail
  rw [run_callFunc_extern Tryd.func52 (by kernel_rfl) (by kernel_rfl) (by kernel_rfl) (e := Extern.ReflectliteValue.method (Extern.ReflectliteValue.valueError "reflectlite.Value.Len" 0) Extern.ReflectliteValue.len) (by kernel_rfl),
    hl _ _ (by simp)]
  simp only [Result.andThen]
  rw [Oper.upon_value]
  go_wp2_with (go_at_call 53; refine (hb _).mono ?_; rintro e w' ⟨rfl, rfl⟩)
  have hB1 := Lib.hid (below2 w (.cells #[.slice (some ⟨blk, off, none⟩) d.size c] 60) (.cells #[.pointer (some ⟨5, 60, none⟩), .pointer (some ⟨w.heap.size, 0, none⟩), .int .u64 151] 71))
  refine (pdq_small sf sb blk off c B 0 d.size _ d _ HSW.out (HH.out.below hB1.out hblk) (HA.out.on (hB1.out.mono (by omega))) hB (by simp; omega) (Nat.zero_le _) (Nat.le_refl _) (by omega) (by omega)).mono ?_
  rintro e w1 ⟨rfl, hk, hr⟩
  go_wp2_with fail
  go_end0
  exact ⟨rfl, (Kp.of_below hB1.out).trans hk, hr⟩
end Go.Proofs.YtdoadclblloddaaDoor
