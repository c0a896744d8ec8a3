/-
  Contracts: plan.Vars; the reference's Vars of a flat literal.
-/
import Derived.Test.YtbkdpdklpmcdgaaRfn
set_option linter.unusedVariables false
set_option linter.unusedSimpArgs false
namespace Go.Proofs.Ytbkdpdklpmcdgaa
open Go.Maps Go.ChangeMaps Go.WideMaps Go.RowKit

theorem rd_fresh {α : Type} {enc : α → List Value} {k : Nat} (w : World) (T : TypeId) (cs : Array Value) (x : α) (h : cs.toList = enc x) : Rd enc k (w.alloc (.cells cs T)) (w.alloc (.cells cs T)).heap.size (some ⟨w.heap.size, 0, none⟩) [x] := by
  refine .inr ⟨w.heap.size, 0, rfl, by simp, fun i hi r u hu => ?_⟩
  have hi0 : i = 0 := by simp at hi; exact hi
  subst hi0
  have := news_alloc w cs T r u (by rw [h]; exact hu)
  rw [Addr.add_lit, Nat.zero_add] at this
  simpa using this

theorem vars1_any (f : Fl) (q : Option Addr) (c : Nat) (w : World) (hr : Rd encF 3 w w.heap.size q [f]) (ha : Tms w w.heap.size f.ptr f.args) (hz : ∀ t ∈ f.args, t.v.size ≤ maxLen) (hl : f.args.length * 16 ≤ 140737488355328) :
    Calls Try.prog 24 #[.slice q 1 c] w fun e w' => ∃ q c, e = .returned (.slice q (litN [] f).length c) ∧ Rd encS 1 w' w'.heap.size q (litN [] f) ∧ Below w.heap.size w w' := by
  have e : varsN [f] = litN [] f := rfl
  have h := variables_any q [f] c w hr (fun g hg => by rw [List.mem_singleton.1 hg]; exact ha) (fun g hg => by rw [List.mem_singleton.1 hg]; exact hz) (by simp) (fun g hg => by rw [List.mem_singleton.1 hg]; omega) (by simpa [cntN] using hl)
  rw [e] at h
  simp only [List.length_singleton] at h
  exact h

set_option maxHeartbeats 1000000 in
set_option maxRecDepth 100000 in
theorem plvars_any (f : Fl) (w : World) (ha : Tms w w.heap.size f.ptr f.args) (hz : ∀ t ∈ f.args, t.v.size ≤ maxLen) (hl : f.args.length * 16 ≤ 140737488355328) :
    Calls Try.prog 14 #[f.agg] w fun e w' => ∃ q c, e = .returned (.slice q (litN [] f).length c) ∧ Rd encS 1 w' w'.heap.size q (litN [] f) ∧ Below w.heap.size w w' := by
  have HA := Lib.hid ha
  have HV := Lib.hid (fun (q : Option Addr) (c : Nat) (wx : World) (h1 : Rd encF 3 wx wx.heap.size q [f]) (h2 : Tms wx wx.heap.size f.ptr f.args) => vars1_any f q c wx h1 h2 hz hl)
  have HB2 := Lib.hid (fun o o' : Obj => below2 w o o')
  have HW1 := Lib.hid (show ∀ o : Obj, (w.alloc o).heap.size = w.heap.size + 1 from fun o => by simp)
  have HQ := Lib.hid (show ∀ o : Obj, Calls Try.prog 24 #[.slice (some ⟨w.heap.size + 1, 0, none⟩) 1 1] ((w.alloc o).alloc (.cells #[.int .u8 f.kind, .string f.pred, .slice f.ptr f.args.length f.cap] 24)) _ from fun o => (HW1.out o) ▸ HV.out (some ⟨(w.alloc o).heap.size, 0, none⟩) 1 _ (rd_fresh (enc := encF) (k := 3) (w.alloc o) 24 #[.int .u8 f.kind, .string f.pred, .slice f.ptr f.args.length f.cap] f rfl) (HA.out.grow (HB2.out _ _)))
  generalize litN [] f = R at *
  unfold Fl.agg
  clear ha hz hl
  go_enter Try.func14, Try.ntmps14
  go_wp2_with (go_at_call 24; refine (HQ.out _).mono ?_; rintro e w1 ⟨q, c, rfl, hr1, hb1⟩; have HR1 := Lib.hid hr1; have HB1 := Lib.hid hb1; clear hr1 hb1)
  go_ret
  first
    | exact ⟨q, c, rfl, HR1.out, (below2 w _ _).trans (HB1.out.mono (below2 w _ _).size)⟩
    | exact ⟨q, ⟨c, rfl⟩, HR1.out, (below2 w _ _).trans (HB1.out.mono (below2 w _ _).size)⟩

end Go.Proofs.Ytbkdpdklpmcdgaa
