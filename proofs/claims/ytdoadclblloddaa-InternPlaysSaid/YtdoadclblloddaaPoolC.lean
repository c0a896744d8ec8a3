/-
  Contract: unknown: how many values of a list, each once, a pool does not have.
-/
import Derived.Test.YtdoadclblloddaaPoolB
namespace Go.Proofs.Ytdoadclblloddaa
open Go.RowKit Go.Maps Go.WideMaps

/-- A slice of values in memory, below block B. -/
def Vals (w : World) (B : Nat) (p : Option Addr) (vs : List Vl) : Prop :=
  vs = [] ∨ ∃ b off, p = some ⟨b, off, none⟩ ∧ b < B ∧ ∀ i (h : i < vs.length), w.cell? ⟨b, off + i * 2, none⟩ = some (.string vs[i].1) ∧ w.cell? ⟨b, off + i * 2 + 1, none⟩ = some (.int .i64 vs[i].2)
theorem Vals.below {w w' : World} {B : Nat} {p : Option Addr} {vs : List Vl} (h : Vals w B p vs) {B' : Nat} (hb : Below B' w w') (hB : B ≤ B') : Vals w' B p vs := by
  rcases h with h | ⟨b, off, rfl, hl, hc⟩
  · exact .inl h
  · refine .inr ⟨b, off, rfl, hl, fun i hi => ?_⟩
    have hl' : b < B' := Nat.lt_of_lt_of_le hl hB
    rw [hb.cell (p := ⟨b, off + i * 2, none⟩) hl', hb.cell (p := ⟨b, off + i * 2 + 1, none⟩) hl']
    exact hc i hi
theorem Vals.at {w : World} {B : Nat} {p : Option Addr} {vs : List Vl} (h : Vals w B p vs) (k : Nat) (hk : k < vs.length) : ∃ b off, p = some ⟨b, off, none⟩ ∧ b < B ∧ w.cell? ⟨b, off + k * 2, none⟩ = some (.string vs[k].1) ∧ w.cell? ⟨b, off + k * 2 + 1, none⟩ = some (.int .i64 vs[k].2) := by
  rcases h with h | ⟨b, off, rfl, hl, hc⟩
  · subst h; simp at hk
  · exact ⟨b, off, rfl, hl, hc k hk⟩
def OkAll (vs : List Vl) : Prop := ∀ v ∈ vs, Ok v
theorem OkAll.at {vs : List Vl} (h : OkAll vs) (k : Nat) (hk : k < vs.length) : Ok vs[k] := h _ (List.getElem_mem hk)

def unit : Value := .agg #[]
theorem zero61 (w : World) : (zeroValue 61).run Try.prog w = .ok unit w := by kernel_rfl
def setU : Nat → Value := fun _ => unit

/-- storing a value among those that are there, or as a new one -/
theorem put_set {w : World} {b : Nat} {l : List Vl} (hb : MapOf w b l setU) (hl : OkAll l) (hn : l.Nodup) (v : Vl) (hv : Ok v) :
    ∃ w', (Instr.mapUpdate 60 (.map (some b)) (vlV v) unit).run Try.prog w = .ok () w' ∧ MapOf w' b (addV l v) setU ∧ w.grownBy w' (some b) := by
  have hk : ∀ v ∈ l, ∃ x, keyOf Try.prog 31 (vlV v) = some x := fun v hv => key_ok v (hl v hv)
  by_cases h : v ∈ l
  · obtain ⟨w', h1, h2, h3⟩ := put_in_same law31 Try.underlying60 (u := unit) hb hk hn v h
    exact ⟨w', h1, by unfold addV; rw [if_pos h]; exact h2, h3⟩
  · obtain ⟨w', h1, h2, h3⟩ := put_out law31 Try.underlying60 (f := setU) hb hk v (key_ok v hv) h
    exact ⟨w', h1, by unfold addV; rw [if_neg h]; exact h2, h3⟩

theorem nodup_sz {w : World} {pb bm : Nat} {sv : Value} {l : List Vl} (h : Pool w pb bm sv l) : l.length ≤ 4096 := h.le

set_option maxHeartbeats 2000000 in
set_option maxRecDepth 100000 in
theorem unknown_any (w : World) {pb bm : Nat} {sv : Value} {l : List Vl} (h : Pool w pb bm sv l) (q : Option Addr) (vs : List Vl) (c : Nat) (hv : Vals w w.heap.size q vs) (ho : OkAll vs) (hm : vs.length ≤ maxLen) :
    Calls Try.prog 23 #[.pointer (some ⟨pb, 0, none⟩), .slice q vs.length c] w fun e w' => e = .returned (.int .i64 (news l vs).length) ∧ Below w.heap.size w w' := by
  have hmm := @run_makeMap Try.prog
  unfold maxLen at hm
  have HP := Lib.hid h
  have HV := Lib.hid hv
  have HO := Lib.hid ho
  clear h hv ho
  go_enter Try.func23, Try.ntmps23
  go_wp2_with fail
  go_loopw [13] (fun i wr => ∃ k : Nat, k ≤ vs.length ∧ i = .int .i64 k ∧ MapOf wr w.heap.size (news l (vs.take k)) setU ∧ Below w.heap.size w wr) (fun i _ => vs.length - (intOf i).toNat)
  case atStart => exact ⟨0, Nat.zero_le _, rfl, ⟨0, (MapKept.heap_alloc w _).1⟩, alloc_below w _⟩
  case round =>
    obtain ⟨k, hk, rfl, hms, hb⟩ := hrel
    have HMS := Lib.hid hms
    have HB := Lib.hid hb
    have hszr := hb.size
    have hsw : w.heap.size < wr.heap.size := hms.lt
    clear hms hb
    by_cases hlt : k < vs.length
    · obtain ⟨b, off, rfl, hbl, x0, x1⟩ := (HV.out.below HB.out (Nat.le_refl _)).at k hlt
      have HOK := Lib.hid (HO.out.at k hlt)
      have hsn := take_snocV vs k hlt
      have hbr : b < wr.heap.size := by omega
      have HB1 := Lib.hid (HB.out.trans ((alloc_below wr (.cells #[.string vs[k].1, .int .i64 vs[k].2] 31)).mono HB.out.size))
      by_cases hin : vs[k] ∈ l
      · have HS := Lib.hid (show news l (vs.take (k + 1)) = news l (vs.take k) by rw [hsn, news_snoc_in _ _ _ hin])
        have HIN := Lib.hid hin
        clear hsn hin
        go_wp2_with (go_at_call 10; refine (find_in_any _ _ _ (HP.out.below HB1.out) HOK.out (posOf l vs[k]) (posOf_lt HIN.out) (posOf_get HIN.out)).mono ?_; rintro e w1 ⟨rfl, hb1⟩)
        go_roundw
        case rel =>
          refine ⟨k + 1, by omega, by go_num, ?_, HB1.out.trans (hb1.mono (by simp; omega))⟩
          rw [HS.out]
          exact (HMS.out.below (alloc_below _ _)).below hb1
        case measure => simp [intOf]; omega
      · have HS := Lib.hid (show news l (vs.take (k + 1)) = addV (news l (vs.take k)) vs[k] by rw [hsn, news_snoc_out _ _ _ hin])
        have HIN := Lib.hid hin
        clear hsn hin
        go_wp2_with fail
        refine (find_out_any _ _ _ (HP.out.below HB1.out) HOK.out HIN.out).mono ?_
        rintro e w1 ⟨rfl, hb1⟩
        obtain ⟨hB1, y0, y1, hz1⟩ := box_kept vs[k].1 vs[k].2 hb1
        have hm1 := (HMS.out.below hB1)
        obtain ⟨w2, hrun, hm2, hg2⟩ := put_set hm1 (fun v hv => HO.out v (List.mem_of_mem_take (mem_news _ _ _ hv))) (news_nodup _ _) vs[k] HOK.out
        change (Instr.mapUpdate 60 (.map (some w.heap.size)) (.agg #[.string vs[k].1, .int .i64 vs[k].2]) unit).run Try.prog w1 = _ at hrun
        have HM2 := Lib.hid hm2
        have HB2 := Lib.hid ((HB.out.trans (hB1.mono HB.out.size)).grown hg2 (by omega) (fun k hk => by cases hk; exact Nat.le_refl _))
        clear hb1 hB1 hm1 hm2 hg2
        unfold unit at hrun
        go_wp2_with fail
        go_roundw
        case rel => exact ⟨k + 1, by omega, by go_num, by rw [HS.out]; exact HM2.out, HB2.out⟩
        case measure => simp [intOf]; omega
    · obtain rfl : k = vs.length := by omega
      have hms := HMS.out
      rw [List.take_length] at hms
      have hrun := len_run (ty := 3) Try.underlying60 hms
      clear hms
      go_wp2_with fail
      go_ret
      exact ⟨rfl, HB.out⟩
end Go.Proofs.Ytdoadclblloddaa
