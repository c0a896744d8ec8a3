/-
  Contract: value.Read, whole.
-/
import Derived.Test.YtpkccmceobonnaaDoorRead
namespace Go.Proofs.YtpkccmceobonnaaDoor
open Go.RowKit Go.Sort

set_option maxHeartbeats 1000000 in
set_option maxRecDepth 100000 in
theorem read_err (s : ByteArray) (w : World) (hs : s.size ≤ 140737488351232) (hn : nameB s = false) (he : Env w) (hp : ∀ v, Lib.parseIntB 64 s.data.toList ≠ .ok v) :
    Calls Tryd.prog 21 #[.string s] w fun e w' => e = .returned (.tuple #[.agg #[.string ⟨#[]⟩, .int .i64 0], .bool false]) ∧ Below w.heap.size w w' := by
  have hm : s.size ≤ maxLen := by unfold maxLen; omega
  have hB := (Below.refl w.heap.size w).alloc (Nat.le_refl _) (.cells #[.string ⟨#[]⟩, .int .i64 0] 43)
  have he2 := he.on hB
  have HB := Lib.hid hB
  have hC : ∃ v : Int, Calls Tryd.prog 25 #[.string s, .int .i64 10, .int .i64 64] (w.alloc (.cells #[.string ⟨#[]⟩, .int .i64 0] 43)) fun e w' => ∃ N, e = .returned (.tuple #[.int .i64 v, .iface 59 (.pointer (some ⟨N, 0, none⟩))]) ∧ Below (w.alloc (.cells #[.string ⟨#[]⟩, .int .i64 0] 43)).heap.size (w.alloc (.cells #[.string ⟨#[]⟩, .int .i64 0] 43)) w' := by
    cases hpp : Lib.parseIntB 64 s.data.toList with
    | ok v => exact absurd hpp (hp v)
    | range =>
      obtain ⟨t, p, e⟩ := he2.rng
      exact ⟨_, (Any.strconv_ParseInt_10_at64_range_var Tryd.laysC174 s (by omega) hpp t p _ e).mono fun e w' ⟨N, h1, _, _, h4⟩ => ⟨N, h1, h4⟩⟩
    | _ =>
      obtain ⟨t, p, e⟩ := he2.syn
      exact ⟨_, (Any.strconv_ParseInt_10_at64_syntax_var Tryd.laysC174 s (by omega) hpp t p _ e).mono fun e w' ⟨N, h1, _, _, h4⟩ => ⟨N, h1, h4⟩⟩
  obtain ⟨v, hC⟩ := hC
  have HC := Lib.hid hC
  clear he he2 hB hp hC
  go_enter Tryd.func21, Tryd.ntmps21
  go_wp2_with (go_at_call 24; refine (name_any _ _ hm).mono ?_; rintro e w' ⟨rfl, rfl⟩)
  refine HC.out.mono ?_
  rintro e w1 ⟨N, rfl, hb1⟩
  obtain ⟨hc1, hf1⟩ := bcell hb1
  have hs1 := hb1.size
  have hz : w.heap.size < w1.heap.size := by simp at hs1; omega
  go_wp2_with fail
  refine bodyPost_ret (v := .tuple #[.agg #[.string ⟨#[]⟩, .int .i64 0], .bool false]) (by simp [results, Tryd.results21, go_sem, hc1]) rfl ⟨rfl, ?_⟩
  exact ((HB.out.trans (hb1.mono HB.out.size)).setCell (Nat.le_refl _) _).setCell (Nat.le_refl _) _

/-- WHAT value.Read ANSWERS, at every text. -/
theorem read_any (s : ByteArray) (w : World) (hs : s.size ≤ 140737488351232) (he : Env w) :
    Calls Tryd.prog 21 #[.string s] w fun e w' => e = .returned (readV s) ∧ Below w.heap.size w w' := by
  by_cases hn : nameB s = true
  · rw [show readV s = .tuple #[.agg #[.string s, .int .i64 0], .bool true] by simp [readV, hn]]
    exact read_name s w (by unfold maxLen; omega) hn
  · have hn : nameB s = false := by simpa using hn
    cases hpp : Lib.parseIntB 64 s.data.toList with
    | ok v =>
      have e : readV s = if Lib.itoa v = s.data.toList then .tuple #[.agg #[.string ⟨#[]⟩, .int .i64 v], .bool true] else .tuple #[.agg #[.string ⟨#[]⟩, .int .i64 0], .bool false] := by
        unfold readV readN; rw [hn, hpp]; by_cases h : Lib.itoa v = s.data.toList <;> simp [h]
      rw [e]; exact read_num s w hs hn v hpp he
    | _ =>
      have e : readV s = .tuple #[.agg #[.string ⟨#[]⟩, .int .i64 0], .bool false] := by
        unfold readV readN; rw [hn, hpp]; rfl
      rw [e]; exact read_err s w hs hn he (by rw [hpp]; intro v h; cases h)
end Go.Proofs.YtpkccmceobonnaaDoor
