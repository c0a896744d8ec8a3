/-
  Contracts: strconv.FormatInt at base 10 with 'Below', value.Text, value.Read; the tables and sentinels that they read.
-/
import Derived.Test.YtpkccmceobonnaaDoorGood
import Derived.Test.YtpkccmceobonnaaDoorShelf
import Derived.Lib.SmallJoins
namespace Go.Proofs.YtpkccmceobonnaaDoor
open Go.RowKit Go.Sort

/-- What the listed variables hold, as the walks need it. -/
structure Env (w : World) : Prop where
  tab : Lib.TabIs Tryd.prog w "internal/strconv.uint64pow10" .u64 Lib.pow10Tab
  syn : ∃ t p, w.var? Tryd.prog "strconv.ErrSyntax" = some #[.iface t p]
  rng : ∃ t p, w.var? Tryd.prog "strconv.ErrRange" = some #[.iface t p]
theorem var_on {w w' : World} {n : String} {v : Array Value} (h : w.var? Tryd.prog n = some v) (hb : Below w.heap.size w w') : w'.var? Tryd.prog n = some v := by
  unfold World.var? at *
  cases hg : Tryd.prog.globalNamed n with
  | none => simp [hg] at h
  | some g =>
    simp only [hg, Option.bind_some] at h ⊢
    have hlt : g < w.heap.size := by
      rcases Nat.lt_or_ge g w.heap.size with h' | h'
      · exact h'
      · rw [Array.getElem?_eq_none h'] at h; simp at h
    rw [hb.block g hlt]
    exact h
theorem Env.on {w w' : World} (h : Env w) (hb : Below w.heap.size w w') : Env w' :=
  ⟨var_on h.tab hb, by obtain ⟨t, p, e⟩ := h.syn; exact ⟨t, p, var_on e hb⟩, by obtain ⟨t, p, e⟩ := h.rng; exact ⟨t, p, var_on e hb⟩⟩

theorem below_grow (w : World) (os : Array Obj) : Below w.heap.size w (grow w os) :=
  ⟨rfl, rfl, rfl, by simp [grow], fun k hk => by simp [grow, Array.getElem?_append, hk]⟩
theorem below_drewN' {B : Nat} {a w : World} (h : Below B a w) : ∀ n, Below B a (w.drewN n)
  | 0 => h
  | n + 1 => (below_drewN' h n).drew

def itoaS (n : Int) : ByteArray := ⟨(Lib.itoa n).toArray⟩

theorem formatInt_any (n : Int) (w : World) (h0 : -9223372036854775808 ≤ n) (h1 : n ≤ 9223372036854775807) (he : Env w) :
    Calls Tryd.prog 26 #[.int .i64 n, .int .i64 10] w fun e w' => e = .returned (.string (itoaS n)) ∧ Below w.heap.size w w' := by
  refine (Tryd.strconv_FormatInt_10 n h0 h1 w he.tab).mono ?_
  rintro e w' ⟨rfl, k, os, rfl⟩
  refine ⟨rfl, ?_⟩
  have h := below_drewN' (Below.refl w.heap.size w) k
  have g := below_grow (w.drewN k) os
  exact h.trans (g.mono h.size)

/-- what value.Text answers. -/
def textS (s : ByteArray) (n : Int) : ByteArray := if goodB s n = true then (if s.toList.isEmpty = true then itoaS n else s) else ⟨#[]⟩

theorem app1 {w w1 : World} {o : Obj} (hb : Below (w.alloc o).heap.size (w.alloc o) w1) : Below w.heap.size w w1 :=
  ((Below.refl _ _).alloc (Nat.le_refl _) _).trans (hb.mono (by simp))

set_option maxHeartbeats 400000 in
theorem read_name (s : ByteArray) (w : World) (hs : s.size ≤ maxLen) (hn : nameB s = true) :
    Calls Tryd.prog 21 #[.string s] w fun e w' => e = .returned (.tuple #[.agg #[.string s, .int .i64 0], .bool true]) ∧ Below w.heap.size w w' := by
  go_enter Tryd.func21, Tryd.ntmps21
  go_wp2_with (go_at_call 24; refine (name_any _ _ hs).mono ?_; rintro e w' ⟨rfl, rfl⟩)
  refine bodyPost_ret (v := .tuple #[.agg #[.string s, .int .i64 0], .bool true]) (by simp [results, Tryd.results21, go_sem]) rfl ⟨rfl, ?_⟩
  exact ((Below.refl _ _).alloc (Nat.le_refl _) _)

end Go.Proofs.YtpkccmceobonnaaDoor
