/-
  Contracts: New, Find, Len, room of a pool.
-/
import Derived.Test.YtdoadclblloddaaPool
namespace Go.Proofs.Ytdoadclblloddaa
open Go.RowKit Go.Maps Go.WideMaps

set_option maxHeartbeats 400000 in
theorem new_any (w : World) :
    Calls Try.prog 6 #[] w fun e w' => e = .returned (.pointer (some ⟨w.heap.size + 1, 0, none⟩)) ∧ Pool w' (w.heap.size + 1) w.heap.size (.slice none 0 0) [] ∧ Below w.heap.size w w' := by
  have hmm := @run_makeMap Try.prog
  go_enter Try.func6, Try.ntmps6
  go_wp2_with fail
  go_ret
  refine ⟨by simp, ⟨by simp [go_sem], by simp [go_sem], by simp [go_sem], by simp [go_sem], ?_, World.ownsRow_nil _ _ _ _, List.nodup_nil, fun v h => by simp at h, by simp [Value.ownBlock], by simp⟩, ((Below.refl _ _).alloc (Nat.le_refl _) _).alloc (by simp) _⟩
  refine ⟨0, ?_⟩
  rw [Below.heap_alloc _ _ _ (by simp)]
  exact (MapKept.heap_alloc w _).1

set_option maxHeartbeats 400000 in
theorem find_nil (s : ByteArray) (n : Int) (w : World) :
    Calls Try.prog 10 #[.pointer none, .agg #[.string s, .int .i64 n]] w fun e w' => e = .returned (.tuple #[.int .i64 0, .bool false]) ∧ Below w.heap.size w w' := by
  go_enter Try.func10, Try.ntmps10
  go_wp2_with fail
  go_ret2
  exact ⟨rfl, (Below.refl _ _).alloc (Nat.le_refl _) _⟩

theorem below_drewN {B : Nat} {a w : World} (h : Below B a w) (m : Nat) : Below B a (w.drewN m) := ⟨h.os, h.tape, h.output, h.size, h.block⟩
theorem alloc_below (w : World) (o : Obj) : Below w.heap.size w (w.alloc o) := (Below.refl _ _).alloc (Nat.le_refl _) o

set_option maxHeartbeats 1000000 in
set_option maxRecDepth 100000 in
theorem find_in_any (s : ByteArray) (n : Int) (w : World) {pb bm : Nat} {sv : Value} {l : List Vl} (h : Pool w pb bm sv l) (ho : Ok (s, n)) (j : Nat) (hj : j < l.length) (e : l[j] = (s, n)) :
    Calls Try.prog 10 #[.pointer (some ⟨pb, 0, none⟩), .agg #[.string s, .int .i64 n]] w fun e w' => e = .returned (.tuple #[.int .i64 j, .bool true]) ∧ Below w.heap.size w w' := by
  have h1 := h.alloc (.cells #[.string s, .int .i64 n] 31)
  have HB := Lib.hid (alloc_below w (.cells #[.string s, .int .i64 n] 31))
  have r1 : ∀ wx, Pool wx pb bm sv l → (Instr.lookup 54 (.map (some bm)) (.agg #[.string s, .int .i64 n]) true).run Try.prog wx = .ok (.tuple #[.int .i64 j, .bool true]) wx :=
    fun wx hx => look_in law31 Try.underlying54 hx.m hx.keys hx.n (s, n) (key_ok _ ho) j hj e
  have r2 := r1 _ h1
  have r3 : ∀ m, (Instr.lookup 54 (.map (some bm)) (.agg #[.string s, .int .i64 n]) true).run Try.prog ((w.alloc (.cells #[.string s, .int .i64 n] 31)).drewN m) = .ok (.tuple #[.int .i64 j, .bool true]) ((w.alloc (.cells #[.string s, .int .i64 n] 31)).drewN m) := fun m => r1 _ (h1.kept (fun b _ _ => rfl))
  have c0 := h1.c0
  have hlt := h.lt
  clear r1 h ho e h1
  go_enter Try.func10, Try.ntmps10
  go_wp2_with fail
  go_quiet (fail)
  all_goals
    go_wp2_with fail
    go_ret2
    exact ⟨rfl, below_drewN HB.out _⟩

set_option maxHeartbeats 1000000 in
set_option maxRecDepth 100000 in
theorem find_out_any (s : ByteArray) (n : Int) (w : World) {pb bm : Nat} {sv : Value} {l : List Vl} (h : Pool w pb bm sv l) (ho : Ok (s, n)) (hn : (s, n) ∉ l) :
    Calls Try.prog 10 #[.pointer (some ⟨pb, 0, none⟩), .agg #[.string s, .int .i64 n]] w fun e w' => e = .returned (.tuple #[.int .i64 0, .bool false]) ∧ Below w.heap.size w w' := by
  have h1 := h.alloc (.cells #[.string s, .int .i64 n] 31)
  have HB := Lib.hid (alloc_below w (.cells #[.string s, .int .i64 n] 31))
  have r1 : ∀ wx, Pool wx pb bm sv l → (Instr.lookup 54 (.map (some bm)) (.agg #[.string s, .int .i64 n]) true).run Try.prog wx = .ok (.tuple #[.int .i64 0, .bool false]) wx :=
    fun wx hx => look_out law31 Try.underlying54 (zero3 wx) hx.m hx.keys (s, n) (key_ok _ ho) hn
  have r3 : ∀ m, (Instr.lookup 54 (.map (some bm)) (.agg #[.string s, .int .i64 n]) true).run Try.prog ((w.alloc (.cells #[.string s, .int .i64 n] 31)).drewN m) = .ok (.tuple #[.int .i64 0, .bool false]) ((w.alloc (.cells #[.string s, .int .i64 n] 31)).drewN m) := fun m => r1 _ (h1.kept (fun b _ _ => rfl))
  have c0 := h1.c0
  have hlt := h.lt
  clear r1 h ho hn h1
  go_enter Try.func10, Try.ntmps10
  go_wp2_with fail
  go_quiet (fail)
  all_goals
    go_wp2_with fail
    go_ret2
    exact ⟨rfl, below_drewN HB.out _⟩

theorem slice_of {w : World} {pb bm : Nat} {sv : Value} {l : List Vl} (h : Pool w pb bm sv l) : ∃ q c, sv = .slice q l.length c := by
  obtain ⟨_, h2⟩ := h.r
  rcases h2 with ⟨rfl, e⟩ | ⟨g, cap, cur, rfl, _⟩
  · exact ⟨none, 0, by rw [e]⟩
  · exact ⟨_, cap, rfl⟩

set_option maxHeartbeats 400000 in
theorem len_nil (w : World) : Calls Try.prog 18 #[.pointer none] w fun e w' => e = .returned (.int .i64 0) ∧ w = w' := by
  go_enter Try.func18, Try.ntmps18
  go_wp2_with fail
  go_ret
  exact ⟨rfl, rfl⟩
set_option maxHeartbeats 400000 in
theorem len_any (w : World) {pb bm : Nat} {sv : Value} {l : List Vl} (h : Pool w pb bm sv l) : Calls Try.prog 18 #[.pointer (some ⟨pb, 0, none⟩)] w fun e w' => e = .returned (.int .i64 l.length) ∧ w = w' := by
  obtain ⟨q, c, rfl⟩ := slice_of h
  have c1 := h.c1
  clear h
  go_enter Try.func18, Try.ntmps18
  go_wp2_with fail
  go_ret
  exact ⟨rfl, rfl⟩
set_option maxHeartbeats 400000 in
theorem room_nil (w : World) : Calls Try.prog 21 #[.pointer none] w fun e w' => e = .returned (.int .i64 0) ∧ w = w' := by
  go_enter Try.func21, Try.ntmps21
  go_wp2_with fail
  go_ret
  exact ⟨rfl, rfl⟩
set_option maxHeartbeats 400000 in
theorem room_any (w : World) {pb bm : Nat} {sv : Value} {l : List Vl} (h : Pool w pb bm sv l) : Calls Try.prog 21 #[.pointer (some ⟨pb, 0, none⟩)] w fun e w' => e = .returned (.int .i64 (4096 - l.length)) ∧ w = w' := by
  obtain ⟨q, c, rfl⟩ := slice_of h
  have c1 := h.c1
  have hle := h.le
  clear h
  go_enter Try.func21, Try.ntmps21
  go_wp2_with fail
  go_ret
  exact ⟨rfl, rfl⟩

set_option maxHeartbeats 400000 in
theorem get_nil (k : Int) (w : World) :
    Calls Try.prog 12 #[.pointer none, .int .i64 k] w fun e w' => e = .returned (.tuple #[.agg #[.string ⟨#[]⟩, .int .i64 0], .bool false]) ∧ Below w.heap.size w w' := by
  by_cases hk : k < 0
  · go_enter Try.func12, Try.ntmps12
    go_wp2_with fail
    refine bodyPost_ret (v := .tuple #[.agg #[.string ⟨#[]⟩, .int .i64 0], .bool false]) (by simp [results, Try.results12, go_sem]) rfl ⟨rfl, ?_⟩
    exact alloc_below _ _
  · have hk0 : 0 ≤ k := by omega
    go_enter Try.func12, Try.ntmps12
    go_wp2_with (go_at_call 18; refine (len_nil _).mono ?_; rintro e w' ⟨rfl, rfl⟩)
    refine bodyPost_ret (v := .tuple #[.agg #[.string ⟨#[]⟩, .int .i64 0], .bool false]) (by simp [results, Try.results12, go_sem]) rfl ⟨rfl, ?_⟩
    exact alloc_below _ _
set_option maxHeartbeats 400000 in
theorem get_out (k : Int) (w : World) {pb bm : Nat} {sv : Value} {l : List Vl} (h : Pool w pb bm sv l) (ho : k < 0 ∨ (l.length : Int) ≤ k) :
    Calls Try.prog 12 #[.pointer (some ⟨pb, 0, none⟩), .int .i64 k] w fun e w' => e = .returned (.tuple #[.agg #[.string ⟨#[]⟩, .int .i64 0], .bool false]) ∧ Below w.heap.size w w' := by
  by_cases hk : k < 0
  · clear ho
    go_enter Try.func12, Try.ntmps12
    go_wp2_with fail
    refine bodyPost_ret (v := .tuple #[.agg #[.string ⟨#[]⟩, .int .i64 0], .bool false]) (by simp [results, Try.results12, go_sem]) rfl ⟨rfl, ?_⟩
    exact alloc_below _ _
  · have hk0 : 0 ≤ k := by omega
    have hk1 : (l.length : Int) ≤ k := by omega
    have h1 := h.alloc (.cells #[.string ⟨#[]⟩, .int .i64 0] 31)
    have HP := Lib.hid h1
    clear ho h h1
    go_enter Try.func12, Try.ntmps12
    go_wp2_with (go_at_call 18; refine (len_any _ HP.out).mono ?_; rintro e w' ⟨rfl, rfl⟩)
    refine bodyPost_ret (v := .tuple #[.agg #[.string ⟨#[]⟩, .int .i64 0], .bool false]) (by simp [results, Try.results12, go_sem]) rfl ⟨rfl, ?_⟩
    exact alloc_below _ _

theorem row_cell {w : World} {pb bm : Nat} {sv : Value} {l : List Vl} (h : Pool w pb bm sv l) (k : Nat) (hk : k < l.length) : ∃ g c, sv = .slice (some ⟨g, 0, none⟩) l.length c ∧ g < w.heap.size ∧ w.cell? ⟨g, k * 2, none⟩ = some (.string l[k].1) ∧ w.cell? ⟨g, k * 2 + 1, none⟩ = some (.int .i64 l[k].2) := by
  obtain ⟨p, q⟩ := flatV_get l k hk
  obtain ⟨_, h2⟩ := h.r
  rcases h2 with ⟨rfl, e⟩ | ⟨g, cap, cur, rfl, _, hg, _⟩
  · omega
  · have a := h.r.cells (g := g) rfl (k * 2) _ p
    have b := h.r.cells (g := g) rfl (k * 2 + 1) _ q
    rw [Addr.add_lit, Nat.zero_add] at a b
    exact ⟨g, cap, rfl, (Array.getElem?_eq_some_iff.1 hg).1, a, b⟩

set_option maxHeartbeats 1000000 in
set_option maxRecDepth 100000 in
theorem get_any (k : Nat) (w : World) {pb bm : Nat} {sv : Value} {l : List Vl} (h : Pool w pb bm sv l) (hk : k < l.length) :
    Calls Try.prog 12 #[.pointer (some ⟨pb, 0, none⟩), .int .i64 k] w fun e w' => e = .returned (.tuple #[.agg #[.string l[k].1, .int .i64 l[k].2], .bool true]) ∧ Below w.heap.size w w' := by
  have h1 := h.alloc (.cells #[.string ⟨#[]⟩, .int .i64 0] 31)
  obtain ⟨g, c, rfl, hg, x0, x1⟩ := row_cell h k hk
  obtain ⟨g', c', e', hg', y0, y1⟩ := row_cell h1 k hk
  injection e' with e1 e2 e3
  cases e1
  have c1 := h1.c1
  have HP := Lib.hid h1
  have hlt := h.lt
  have hle := h.le
  generalize hs : l[k].1 = s at *
  generalize hn : l[k].2 = n at *
  clear h h1 x0 x1 hg' hs hn e3
  go_enter Try.func12, Try.ntmps12
  go_wp2_with (go_at_call 18; refine (len_any _ HP.out).mono ?_; rintro e w' ⟨rfl, rfl⟩)
  refine bodyPost_ret (v := .tuple #[.agg #[.string s, .int .i64 n], .bool true]) (by simp [results, Try.results12, go_sem]) rfl ⟨rfl, ?_⟩
  exact alloc_below _ _
end Go.Proofs.Ytdoadclblloddaa
