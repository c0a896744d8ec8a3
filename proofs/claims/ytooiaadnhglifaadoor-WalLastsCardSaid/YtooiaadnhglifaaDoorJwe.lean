/-
  Wcp, Wcw, joined.
-/
import Derived.Test.YtooiaadnhglifaaDoorJwd
namespace Go.Proofs.YtooiaadnhglifaaDoor
section
set_option linter.unusedVariables false
set_option linter.unusedSimpArgs false

def lgF (ps : List (List UInt8)) : F3 := ⟨if ps = [] then none else some (Fc.sure (recsS 0 ps)), none, none⟩
def lgS (ps : List (List UInt8)) : LS := ⟨(lgF ps).d (-1), ps, false⟩
theorem lgF_at (ps : List (List UInt8)) : ((lgF ps).at_ .log).1 = recsS 0 ps := by
  unfold lgF F3.at_ F3.get
  by_cases h : ps = []
  · subst h; rfl
  · simp [h, Fc.sure]
theorem recsS_snocW : ∀ (l : List (List UInt8)) (i : Nat) (m : List UInt8), recsS i (l ++ [m]) = recsS i l ++ recS (i + l.length + 1) m := recsS_snoc
theorem recsS_bound (ps : List (List UInt8)) (i K : Nat) (hm : ∀ m ∈ ps, m.length ≤ K) : (recsS i ps).length ≤ ps.length * (K + 17) := by
  induction ps generalizing i with
  | nil => simp [recsS]
  | cons m r ih =>
    have h1 := ih (i + 1) (fun x hx => hm x (List.mem_cons_of_mem _ hx))
    have h2 := hm m (List.mem_cons_self ..)
    simp only [recsS, List.length_append, recS_len17, List.length_cons, Nat.add_mul]
    omega
theorem lg_app (ps : List (List UInt8)) (m : List UInt8) (hn : ps.length ≤ 100) (hps : ∀ x ∈ ps, x.length ≤ 300) (hm : m.length ≤ 300) : wAppS (lgS ps) m = (lgS (ps ++ [m]), 0) := by
  have hb := recsS_bound ps 0 300 hps
  have h := wapp_ever (lgF ps) ps m (by omega) (by rw [lgF_at]; omega)
  unfold lgS
  rw [h, lgF_at]
  have e := recsS_snoc ps 0 m
  rw [Nat.zero_add] at e
  have e2 : (lgF ps).set .log (some (Fc.sure (recsS 0 ps ++ recS (ps.length + 1) m))) = lgF (ps ++ [m]) := by
    rw [← e]
    unfold lgF F3.set
    simp
  rw [e2]
theorem lg_new : lgS [] = ⟨newS, [], false⟩ := rfl
theorem open_new : wOpenS newS = (lgS [], 0) := wopen_ever ⟨none, none, none⟩ (-1) rfl [] [] rfl rfl (by simp) (by simp) (by simp)
/-- behind the checkpoint -/
def ckF (ps : List (List UInt8)) : F3 := ⟨if ps = [] then none else some ([], 0), none, some (Fc.sure (recsS 0 ps))⟩
theorem lg_chk (ps : List (List UInt8)) (hz : (recsS 0 ps).length ≤ 1048576) : wChkS (lgS ps) = (⟨(ckF ps).d (-1), ps, false⟩, 0) := by
  have h := wchk_ever (lgF ps) rfl ps hz
  unfold lgS
  rw [h]
  unfold lgF ckF
  by_cases h0 : ps = []
  · subst h0; rfl
  · simp [h0]
def ekF (ps : List (List UInt8)) (m : List UInt8) : F3 := ⟨some (Fc.sure (recS (ps.length + 1) m)), none, some (Fc.sure (recsS 0 ps))⟩
theorem ck_app (ps : List (List UInt8)) (m : List UInt8) (hm : m.length ≤ 300) : wAppS ⟨(ckF ps).d (-1), ps, false⟩ m = (⟨(ekF ps m).d (-1), ps ++ [m], false⟩, 0) := by
  have hat : ((ckF ps).at_ .log).1 = [] := by
    unfold ckF F3.at_ F3.get
    by_cases h : ps = []
    · subst h; rfl
    · simp [h]
  have h := wapp_ever (ckF ps) ps m (by omega) (by rw [hat]; simp; omega)
  rw [h, hat, List.nil_append]
  rfl
theorem ek_crash (ps : List (List UInt8)) (m : List UInt8) (k : Int) : crashS ((ekF ps m).d (-1)) k = (ekF ps m).d (-1) := by
  rw [f3_crash]
  unfold F3.crash ekF
  simp [crC_sure]
theorem ek_open (ps : List (List UInt8)) (m : List UInt8) (hn : ps.length ≤ 100) (hps : ∀ x ∈ ps, x.length ≤ 300) (hm : m.length ≤ 300) : wOpenS ((ekF ps m).d (-1)) = (⟨(ekF ps m).d (-1), ps ++ [m], false⟩, 0) :=
  wopen_ever (ekF ps m) (-1) rfl ps [m] rfl (by simp [ekF, F3.at_, F3.get, Fc.sure, recsS]) (by simp; omega) (fun x hx => by have := hps x hx; omega) (fun x hx => by obtain rfl := List.mem_singleton.1 hx; omega)
theorem ck_log (ps : List (List UInt8)) : readS ((ckF ps).d (-1)) logN = ([], if ps = [] then 4 else 0) := by
  have h : readS ((ckF ps).d (-1)) logN = _ := f3_read (ckF ps) (-1) .log
  rw [h]
  unfold ckF F3.get
  by_cases h0 : ps = []
  · subst h0; rfl
  · simp [h0]
theorem ck_snap (ps : List (List UInt8)) : readS ((ckF ps).d (-1)) snapN = (recsS 0 ps, 0) := f3_read (ckF ps) (-1) .snap
theorem ck_scan (ps : List (List UInt8)) (hn : ps.length ≤ 100) (hps : ∀ x ∈ ps, x.length ≤ 300) : (scanG (recsS 0 ps) 0 [] 0).2.1 = ps := by
  have h := scan_recs ps 0 [] whole_nil (by omega) (fun x hx => by have := hps x hx; omega)
  rw [List.append_nil] at h
  rw [h]
theorem new_sizes : (fileS (remS newS nextN).1 snapN).1.length ≤ 1500000 ∧ (fileS (remS newS nextN).1 logN).1.length ≤ 1500000 := ⟨by show (0 : Nat) ≤ _; omega, by show (0 : Nat) ≤ _; omega⟩
theorem ek_sizes (ps : List (List UInt8)) (m : List UInt8) (hn : ps.length ≤ 100) (hps : ∀ x ∈ ps, x.length ≤ 300) (hm : m.length ≤ 300) : (fileS (remS ((ekF ps m).d (-1)) nextN).1 snapN).1.length ≤ 1500000 ∧ (fileS (remS ((ekF ps m).d (-1)) nextN).1 logN).1.length ≤ 1500000 := by
  have h1 : remS ((ekF ps m).d (-1)) nextN = _ := f3_remove_none (ekF ps m) (-1) .next rfl
  have h2 : fileS ((ekF ps m).d (-1)) snapN = _ := f3_file (ekF ps m) (-1) .snap
  have h3 : fileS ((ekF ps m).d (-1)) logN = _ := f3_file (ekF ps m) (-1) .log
  have hb := recsS_bound ps 0 300 hps
  rw [h1, h2, h3]
  refine ⟨?_, ?_⟩
  · show (recsS 0 ps).length ≤ _
    have : ps.length * (300 + 17) ≤ 100 * 317 := Nat.mul_le_mul_right _ hn
    omega
  · show (recS (ps.length + 1) m).length ≤ _
    rw [recS_len17]; omega
end
section
set_option linter.unusedVariables false
set_option linter.unusedSimpArgs false
open Go.Maps Go.RowKit

theorem pl_made {w : World} {base : Nat} (hb : base ≤ w.heap.size) : Pl (w.alloc (.cells #[] 22)) base (.slice (some ⟨w.heap.size, 0, none⟩) 0 0) [] :=
  ⟨⟨_, 0, rfl, Nat.le_refl _⟩, ⟨rfl, .inr ⟨w.heap.size, 0, #[], rfl, hb, heap_alloc_new w _, Nat.le_refl _, by unfold maxLen; omega, rfl, rfl⟩⟩, fun x hx => (by cases hx), fun x hx => (by cases hx)⟩
theorem Lsa.rd {w : World} {q : Option Addr} {l : List SlA} (h : Lsa w q l) : Rd encS 1 w w.heap.size q l := by
  rcases h.at_ with h0 | ⟨b, off, h1, h2, h3⟩
  · exact .inl h0
  · refine .inr ⟨b, off, h1, h2, fun i hi r u hu => ?_⟩
    have hr : r = 0 := by have := (List.getElem?_eq_some_iff.1 hu).1; simpa [encS] using this
    subst hr
    cases hu
    rw [Nat.mul_one, Nat.add_zero]
    exact h3 i hi
theorem Lsa.onW {w w' : World} {p : Option Addr} {ls : List SlA} (h : Lsa w p ls) (hb : Below w.heap.size w w') : Lsa w' p ls := by
  refine ⟨h.at_.imp id (fun ⟨b, off, h1, h2, h3⟩ => ⟨b, off, h1, Nat.lt_of_lt_of_le h2 hb.size, fun i hi => (hb.cell (p := ⟨b, off + i, none⟩) h2).trans (h3 i hi)⟩), fun x hx => ⟨(h.el x hx).1.on hb, (h.el x hx).2⟩⟩
theorem rd0_low {w : World} {q : Option Addr} {m : List UInt8} (h : Rd0 w q m) {g : Nat} (hg : w.heap.size ≤ g) : m = [] ∨ ∀ b, q = some b → b.block ≠ g := by
  rcases h with h | ⟨b, off, rfl, h2, _⟩
  · exact .inl h
  · refine .inr fun b' hb => ?_
    cases hb
    show b ≠ g
    omega
theorem lsa_one {w : World} {T : TypeId} {q : Option Addr} {n c : Nat} {m : List UInt8} (hR : Rd0 w q m) (hn : n = m.length) (hc : m.length ≤ c) : Lsa (w.alloc (.cells #[.slice q n c] T)) (some ⟨w.heap.size, 0, none⟩) [⟨q, c, m⟩] := by
  subst hn
  refine ⟨.inr ⟨_, 0, rfl, by simp, fun i hi => ?_⟩, fun x hx => ?_⟩
  · obtain rfl : i = 0 := by simpa using hi
    simp only [Nat.zero_add]
    exact (Bk.new w T #[.slice q m.length c]).cell 0 _ rfl
  · obtain rfl := List.mem_singleton.1 hx
    exact ⟨hR.on (below1 _ _), hc⟩
theorem wpList_plN {w w0 : World} {ops : Array Oper} {rest : List Oper} {o : Oper} {a : Act} {Q : Exit → Act → World → Prop} (hw : Region.wanted o (yielded ops a.tmps) = true) (s x : Operand)
    (ho : o.op = .call { callee := .builtin .append, args := #[s, x], argTypes := #[30, 30] })
    (base : Nat) (v : Value) (l : List SlA) (hs : a.eval s = v) (hP : Pl w base v l) (q : Option Addr) (ys : List SlA) (n c : Nat) (hx : a.eval x = .slice q n c) (hn : n = ys.length) (hL : Lsa w q ys) (hY : ∀ y ∈ ys, Rd0 w0 y.q y.m) (h0 : w0.heap.size ≤ base)
    (hl : l.length + ys.length ≤ 1000000) (hbase : base ≤ w.heap.size)
    (h : ∀ p' n' c' w', n' = (l ++ ys).length → Pl w' base (.slice p' n' c') (l ++ ys) → Below base w w' → wpList Tryd.prog ops Q rest (a.put o.dst (.slice p' n' c')) w') : wpList Tryd.prog ops Q (o :: rest) a w := by
  subst hn
  have hown : ∀ g, v.ownBlock = some g → base ≤ g := fun g hg => (hP.own.lt g hg).1
  obtain ⟨p', c', w', hr, h1, h2, h3⟩ := run_plN w base v l hP q ys c hL.rd (fun y hy => ⟨hL.el y hy, fun g hg => rd0_low (hY y hy) (Nat.le_trans h0 (hown g hg))⟩) hl hbase o.type
  refine wpList_step fun K hK => ?_
  rw [if_pos hw]
  unfold Oper.wp execOp
  simp only [ho, resolve, invoke, builtin, Sem.run_bind, Sem.run_pure, Result.andThen_ok, List.map_toArray, List.map_cons, List.map_nil, hs, hx, hr]
  exact hK _ _ (h p' _ c' w' (by rw [List.length_append]) h1 ((Fr.grown (O := fun b => v.ownBlock = some b) h2 (fun b hb => hb)).below hown hbase))
theorem lw_open0 {X w : World} {s : DS} {S : LS} (h : Sd X w s) (hE : Env w) (hz : (fileS (remS s nextN).1 snapN).1.length ≤ 1500000 ∧ (fileS (remS s nextN).1 logN).1.length ≤ 1500000) (he : wOpenS s = (S, 0)) :
    Calls Tryd.prog 16 #[.pointer (some ⟨w.heap.size + 1, 0, none⟩)] X fun r w' => ∃ lb, r = .returned (.tuple #[.pointer (some ⟨lb, 0, none⟩), .int .i64 0]) ∧ Lw w' w lb S := by
  refine (lw_open h hE hz.1 hz.2).mono ?_
  rw [he]
  rintro r w' (⟨_, lb, rfl, h1⟩ | ⟨h0, _⟩)
  · exact ⟨lb, rfl, h1⟩
  · exact absurd rfl h0
theorem lw_append0 {X1 X w : World} {lb : Nat} {s S : LS} (h : Lw X1 w lb s) (hb : Below X1.heap.size X1 X) {v : Value} (m : List UInt8) (hA : Acc X X1.heap.size v m) (hE : Env w) (hl : s.ps.length ≤ 1000000) (he : wAppS s m = (S, 0)) :
    Calls Tryd.prog 17 #[.pointer (some ⟨lb, 0, none⟩), v] X fun r w' => r = .returned (.int .i64 0) ∧ Lw w' w lb S := by
  obtain ⟨q, c, rfl, hc, hr⟩ := hA.rd
  have h1 := lw_append h hb q m.length c m rfl hc hr (acc_off hA) hE hl
  rw [he] at h1
  exact h1
theorem lw_chk0 {X w : World} {lb : Nat} {s S : LS} (h : Lw X w lb s) (hE : Env w) (hl : s.ps.length ≤ 1000000) (hz : (recsS 0 s.ps).length ≤ 10000000) (he : wChkS s = (S, 0)) :
    Calls Tryd.prog 18 #[.pointer (some ⟨lb, 0, none⟩)] X fun r w' => r = .returned (.int .i64 0) ∧ Lw w' w lb S := by
  have h1 := lw_chk h hE hl hz
  rw [he] at h1
  exact h1
theorem Lw.crash {X w : World} {lb : Nat} {s : LS} (h : Lw X w lb s) (keep : Int) (hk : keep ≤ 9223372036854775807) : Calls Tryd.prog 20 #[.pointer (some ⟨w.heap.size + 1, 0, none⟩), .int .i64 keep] X fun r w' => r = .returned (.tuple #[]) ∧ Sd w' w (crashS s.d keep) := sd_crash h.sd keep hk
theorem lw_read {X w : World} {lb : Nat} {s : LS} (h : Lw X w lb s) (nm : ByteArray) (hs : nm.size ≤ maxLen) (nl : List UInt8) (hnl : nm.data.toList = nl) (m : List UInt8) (e : Int) (he : readS s.d nl = (m, e)) :
    Calls Tryd.prog 22 #[.pointer (some ⟨w.heap.size + 1, 0, none⟩), .string nm] X fun r w' => ∃ q c, r = .returned (.tuple #[.slice q m.length c, .int .i64 e]) ∧ Rd0 w' q m ∧ m.length ≤ c ∧ Below X.heap.size X w' := by
  obtain ⟨O, hD⟩ := h.sd.dk
  subst hnl
  refine (read_any w.heap.size (w.heap.size + 1) s.d O nm hs X hD).mono fun r w' ⟨v, h1, h2, h3⟩ => ?_
  obtain ⟨q, c, rfl, hc, hr⟩ := h2.rd
  rw [he] at h1 hc hr
  exact ⟨q, c, h1, hr, hc, h3⟩
theorem lw_all0 {X w : World} {lb : Nat} {s : LS} (h : Lw X w lb s) (hl : s.ps.length ≤ 1000000) (hz : ∀ m ∈ s.ps, m.length ≤ 1000000000) (ps : List (List UInt8)) (hp : s.ps = ps) :
    Calls Tryd.prog 21 #[.pointer (some ⟨lb, 0, none⟩)] X fun r w' => ∃ q l' n c, r = .returned (.slice q n c) ∧ n = l'.length ∧ Lsa w' q l' ∧ l'.map (·.m) = ps ∧ l'.length = ps.length ∧ Below X.heap.size X w' := by
  subst hp
  refine (lw_all h hl hz).mono ?_
  rintro r w' ⟨q, l', c, rfl, h1, h2, h3, h4⟩
  exact ⟨q, l', _, c, rfl, rfl, h1, h2, h3, h4⟩
theorem scan_of (q : Option Addr) (n c : Nat) (b : List UInt8) (hn : n = b.length) (w : World) (hR : Rd0 w q b) (hc : b.length ≤ c) (hE : Env w) (hz : b.length ≤ 2000000) (ps : List (List UInt8)) (hp : (scanG b 0 [] 0).2.1 = ps) :
    Calls Tryd.prog 12 #[.slice q n c] w fun r w' => ∃ f e q' l' n' c', r = .returned (.tuple #[.int .i64 f, .slice q' n' c', .int .i64 e]) ∧ n' = l'.length ∧ Lsa w' q' l' ∧ l'.map (·.m) = ps ∧ Below w.heap.size w w' := by
  refine (scan_any q n c b hn w hR hc hE hz).mono ?_
  rintro r w' ⟨⟨v, l, rfl, h1, h2⟩, h3⟩
  obtain ⟨p, dd, rfl, _⟩ := h1.form
  exact ⟨_, _, p, l, _, dd, rfl, rfl, lsa_of_pl h1, h2.trans hp, h3⟩
theorem lgS_sz (ps : List (List UInt8)) (hn : ps.length ≤ 100) (hps : ∀ x ∈ ps, x.length ≤ 300) : (recsS 0 ps).length ≤ 100000 := by
  have := recsS_bound ps 0 300 hps
  have : ps.length * (300 + 17) ≤ 100 * 317 := Nat.mul_le_mul_right _ hn
  omega

set_option maxRecDepth 100000 in
set_option maxHeartbeats 4000000 in
theorem wchecks_walk (p : Option Addr) (n d : Nat) (l : List SlA) (hn : n = l.length) (p2 : Option Addr) (n2 d2 : Nat) (m2 : List UInt8) (hn2 : n2 = m2.length) (hd2 : m2.length ≤ d2) (w : World) (hE : Env w) (hl : Lsa w p l) (hm : Rd0 w p2 m2) :
    Calls Tryd.prog 7 #[.slice p n d, .slice p2 n2 d2] w fun r w' => r = .returned (.bool true) ∧ Below w.heap.size w w' := by
  have HE := Lib.hid hE
  have HL := Lib.hid hl
  have HM := Lib.hid hm
  have HN := Lib.hid (And.intro hn (And.intro hn2 hd2))
  clear hE hl hm hn hn2 hd2
  go_enter Tryd.func7, Tryd.ntmps7
  go_upto_region 3 with (go_at_call 9; refine (wfixed_any _ HE.out).mono ?_; rintro r w1 ⟨rfl, hb⟩; have HB1 := Lib.hid hb; clear hb)
  by_cases hbig : 20 < n
  · have h1 : (20 : Int) < (n : Int) := by omega
    go_wp2_with fail
    go_ret
    exact ⟨by rfl, HB1.out⟩
  have h1 : ¬ (20 : Int) < (n : Int) := by omega
  by_cases hbig2 : 200 < n2
  · have h2 : (200 : Int) < (n2 : Int) := by omega
    go_wp2_with fail
    go_ret
    exact ⟨by rfl, HB1.out⟩
  have h2 : ¬ (200 : Int) < (n2 : Int) := by omega
  have HZ := Lib.hid (show l.length ≤ 20 ∧ m2.length ≤ 200 by have := HN.out; omega)
  clear hbig hbig2
  go_upto_region 5 with fail
  have HE1 := Lib.hid (HE.out.on HB1.out HE.out.size)
  have HL1 := Lib.hid (HL.out.onW HB1.out)
  have HM1 := Lib.hid (HM.out.on HB1.out)
  obtain ⟨K, hK⟩ : ∃ K, K = l.length := ⟨_, rfl⟩
  rw [show n = K by have := HN.out; omega]
  have HKK := Lib.hid hK
  clear hK HL HM HE h1 h2
  go_upto_region 7 with (first
    | (go_at_call 15; refine (sd_new _).mono ?_; rintro r w2 ⟨rfl, hs⟩; have H2 := Lib.hid hs; clear hs)
    | (go_at_call 16; refine (lw_open0 H2.out HE1.out new_sizes open_new).mono ?_; rintro r w3 ⟨lb, rfl, hs⟩; have H3 := Lib.hid hs; clear hs))
  go_wp2_with fail
  go_loopw [8] (fun i wr => ∃ k : Nat, k ≤ K ∧ i = .int .i64 (k : Int) ∧ Hid (Lw wr w1 lb (lgS ((l.map (·.m)).take k)) ∧ ∀ x ∈ (l.map (·.m)).take k, x.length ≤ 200)) (fun i _ => K - (intOf i).toNat)
  case atStart => exact ⟨0, Nat.zero_le _, rfl, Lib.hid ⟨H3.out, fun x hx => by simp at hx⟩⟩
  case round =>
    obtain ⟨k, hk, rfl, HW⟩ := hrel
    have k0 : (0 : Int) ≤ (k : Int) := by omega
    by_cases hlt : k < K
    · have k1 : (k : Int) < (K : Int) := by omega
      have k6 : IntKind.i64.wrap ((k : Int) + 1) = (k : Int) + 1 := IntWalk.i64_in _ (by have := HKK.out; have := HZ.out; omega)
      have hx1 : k < l.length := by rw [← HKK.out]; exact hlt
      obtain ⟨g1, o1, rfl, hg1, hc1, hr1, hd1⟩ := HL1.out.at k hx1
      have HB := Lib.hid HW.out.1.bel
      have c1 := (HB.out.cell (p := ⟨g1, o1 + k, none⟩) hg1).trans hc1
      have hgw : g1 < wr.heap.size := Nat.lt_of_lt_of_le hg1 HB.out.size
      have y1 : ∀ o, (wr.alloc o).cell? ⟨g1, o1 + k, none⟩ = some (.slice l[k].q l[k].m.length l[k].c) := fun o => ((below1 wr o).cell (p := ⟨g1, o1 + k, none⟩) hgw).trans c1
      have HR := Lib.hid (fun o => (hr1.on HB.out).on (below1 wr o))
      have HTA := Lib.hid (show (l.map (·.m)).take (k + 1) = (l.map (·.m)).take k ++ [l[k].m] by rw [List.take_succ_eq_append_getElem (by simpa using hx1)]; simp)
      clear hc1 hr1 hd1
      generalize l[k].q = qx at *
      generalize l[k].m = mx at *
      generalize l[k].c = cx at *
      by_cases hb : 200 < mx.length
      · have z1 : (200 : Int) < (mx.length : Int) := by omega
        go_wp2_with fail
        go_ret
        exact ⟨by rfl, HB1.out.trans (HB.out.mono HB1.out.size)⟩
      have z1 : ¬ (200 : Int) < (mx.length : Int) := by omega
      have HMX := Lib.hid (show mx.length ≤ 200 by omega)
      have HLK := Lib.hid (show ((l.map (·.m)).take k).length ≤ 100 by rw [List.length_take, List.length_map]; have := HZ.out; omega)
      have HAP := Lib.hid (lg_app _ mx HLK.out (fun x hx => by have := HW.out.2 x hx; omega) (by omega))
      rw [← HTA.out] at HAP
      have HNX := Lib.hid (show ∀ x ∈ (l.map (·.m)).take (k + 1), x.length ≤ 200 from fun x hx => by
        rw [HTA.out] at hx
        rcases List.mem_append.1 hx with hx | hx
        · exact HW.out.2 x hx
        · obtain rfl := List.mem_singleton.1 hx; exact HMX.out)
      clear hb hx1
      go_wp2_with (first
        | (refine wpList_app8 rfl _ _ rfl rfl wr.heap.size _ [] rfl (acc_made (Nat.le_refl _)) qx mx _ cx rfl rfl (HR.out _) (by have := HMX.out; simp; omega) (by simp) ?_; intro v5 w5 hA5 hb5; rw [List.nil_append] at hA5; have HA5 := Lib.hid hA5; have HB5 := Lib.hid ((below1 wr (.cells #[] 5)).trans hb5); clear hA5 hb5)
        | (go_at_call 17; refine (lw_append0 HW.out.1 HB5.out mx HA5.out HE1.out (by show ((l.map (·.m)).take k).length ≤ _; have := HLK.out; omega) HAP.out).mono ?_; rintro r w6 ⟨rfl, hs⟩; have H6 := Lib.hid hs; clear hs))
      go_roundw
      case rel => exact ⟨k + 1, hlt, rfl, Lib.hid ⟨H6.out, HNX.out⟩⟩
      case measure => simp [intOf]; omega
    · obtain rfl : k = K := by omega
      have HTK := Lib.hid (show (l.map (·.m)).take k = l.map (·.m) by rw [HKK.out, ← List.length_map (f := (·.m)), List.take_length])
      obtain ⟨ps, hps⟩ : ∃ ps, ps = l.map (·.m) := ⟨_, rfl⟩
      rw [HTK.out, ← hps] at HW
      have HPS := Lib.hid (show ps = l.map (·.m) ∧ ps.length = k ∧ ps.length ≤ 20 ∧ (∀ x ∈ ps, x.length ≤ 200) from ⟨hps, by rw [hps, List.length_map]; exact HKK.out.symm, by rw [hps, List.length_map]; exact HZ.out.1, HW.out.2⟩)
      have HPX := Lib.hid (show ps.length ≤ 100 ∧ (∀ x ∈ ps, x.length ≤ 300) ∧ m2.length ≤ 300 from ⟨by have := HPS.out; omega, fun x hx => by have := HPS.out.2.2.2 x hx; omega, by have := HZ.out; omega⟩)
      have hlt' : ¬ (k : Int) < (k : Int) := by omega
      have HCK := Lib.hid (lg_chk ps (by have := lgS_sz ps HPX.out.1 HPX.out.2.1; omega))
      have HSZ := Lib.hid (lgS_sz ps HPX.out.1 HPX.out.2.1)
      have HSA := Lib.hid (ck_app ps m2 HPX.out.2.2)
      have HEK := Lib.hid (ek_crash ps m2 0)
      have HEO := Lib.hid (ek_open ps m2 HPX.out.1 HPX.out.2.1 HPX.out.2.2)
      have HES := Lib.hid (ek_sizes ps m2 HPX.out.1 HPX.out.2.1 HPX.out.2.2)
      have HRL := Lib.hid (ck_log ps)
      have HRS := Lib.hid (ck_snap ps)
      have HSC := Lib.hid (ck_scan ps HPX.out.1 HPX.out.2.1)
      obtain ⟨ef, hef⟩ : ∃ ef : Int, ef = if ps = [] then 4 else 0 := ⟨_, rfl⟩
      rw [← hef] at HRL
      have HEF := Lib.hid (show 0 < k → ef = 0 from fun h => by rw [hef, if_neg]; intro e; have := HPS.out.2.1; rw [e] at this; simp at this; omega)
      have HCL := Lib.hid (show ps.length ≤ 1000000 ∧ ∀ m ∈ ps, m.length ≤ 1000000000 from ⟨by have := HPX.out; omega, fun x hx => by have := HPX.out.2.1 x hx; omega⟩)
      have HKL := Lib.hid (show k = l.length ∧ l.length ≤ 1000000000 from ⟨HKK.out, by have := HZ.out; omega⟩)
      clear hef hps HTK
      go_upto_region 18 with (first
        | (go_at_call 14; refine (sameL_any q5 p n5 k c5 d l5 l HN5.out HKL.out.1 _ HA5.out.1 (HL1.out.onW (H4.out.on HB5.out).bel) (by rw [HA5.out.2.2]; have := HCL.out.1; omega) HKL.out.2).mono ?_; rintro r w6 ⟨⟨kb, rfl, hkb⟩, hb⟩; obtain rfl : kb = true := hkb.2 (HA5.out.2.1.trans HPS.out.1); have H6 := Lib.hid ((H4.out.on HB5.out).on hb); clear hkb hb)
        | (go_at_call 21; refine (lw_all0 H4.out HCL.out.1 HCL.out.2 ps rfl).mono ?_; rintro r w5 ⟨q5, l5, n5, c5, rfl, hn5, h1, h2, h3, hb⟩; have HN5 := Lib.hid hn5; have HA5 := Lib.hid (And.intro h1 (And.intro h2 h3)); have HB5 := Lib.hid hb; clear hn5 h1 h2 h3 hb)
        | (go_at_call 18; refine (lw_chk0 HW.out.1 HE1.out HCL.out.1 (by have := HSZ.out; show (recsS 0 ps).length ≤ _; omega) HCK.out).mono ?_; rintro r w4 ⟨rfl, hs⟩; have H4 := Lib.hid hs; clear hs))
      go_upto_region 21 with (first
        | (go_at_call 12; refine (scan_of q8 _ c8 (recsS 0 ps) rfl _ HR8.out.1 HR8.out.2 (HE1.out.on H8.out.bel HE1.out.size) (by have := HSZ.out; omega) ps HSC.out).mono ?_; rintro r w9 ⟨f9, e9, q9, l9, n9, c9, rfl, hn9, h1, h2, hb⟩; have HN9 := Lib.hid hn9; have HA9 := Lib.hid (And.intro h1 h2); have H9 := Lib.hid (H8.out.on hb); clear hn9 h1 h2 hb)
        | (go_at_call 22; refine (lw_read H7.out snapB (by decide) snapN rfl _ _ HRS.out).mono ?_; rintro r w8 ⟨q8, c8, rfl, h1, h2, hb⟩; have HR8 := Lib.hid (And.intro h1 h2); have H8 := Lib.hid (H7.out.on hb); clear h1 h2 hb)
        | (go_at_call 22; refine (lw_read H6.out logB (by decide) logN rfl _ _ HRL.out).mono ?_; rintro r w7 ⟨q7, c7, rfl, h1, h2, hb⟩; have H7 := Lib.hid (H6.out.on hb); clear h1 h2 hb))
      go_cut [104] (fun s wx => s = .bool false ∧ Hid (Lw wx w1 lb ⟨(ckF ps).d (-1), ps, false⟩))
      case first =>
        by_cases hk0 : 0 < k
        · obtain rfl : ef = 0 := HEF.out hk0
          have z5 : (0 : Int) < (k : Int) := by omega
          go_wp2_with (go_at_call 14; refine (sameL_any q9 p n9 k c9 d l9 l HN9.out HKL.out.1 _ HA9.out.1 (HL1.out.onW H9.out.bel) (by have := congrArg List.length HA9.out.2; rw [List.length_map] at this; have := HCL.out.1; omega) HKL.out.2).mono ?_; rintro r w10 ⟨⟨kb, rfl, hkb⟩, hb⟩; obtain rfl : kb = true := hkb.2 (HA9.out.2.trans HPS.out.1); have H10 := Lib.hid (H9.out.on hb); clear hkb hb)
          go_meet
          exact ⟨rfl, H10⟩
        · have z5 : ¬ (0 : Int) < (k : Int) := by omega
          go_wp2_with (go_at_call 14; refine (sameL_any q9 p n9 k c9 d l9 l HN9.out HKL.out.1 _ HA9.out.1 (HL1.out.onW H9.out.bel) (by have := congrArg List.length HA9.out.2; rw [List.length_map] at this; have := HCL.out.1; omega) HKL.out.2).mono ?_; rintro r w10 ⟨⟨kb, rfl, hkb⟩, hb⟩; obtain rfl : kb = true := hkb.2 (HA9.out.2.trans HPS.out.1); have H10 := Lib.hid (H9.out.on hb); clear hkb hb)
          go_meet
          exact ⟨rfl, H10⟩
      obtain ⟨rfl, H10⟩ := hcut
      clear HN9 HA9 H9 HR8 H8 H7 H6 HN5 HA5 HB5 H4
      go_upto_region 25 with (first
        | (refine wpList_app8 rfl _ _ rfl rfl wc.heap.size _ [] rfl (acc_made (Nat.le_refl _)) p2 m2 n2 d2 rfl HN.out.2.1 ((HM1.out.on H10.out.bel).on (below1 _ _)) (by have := HZ.out; simp; omega) (by simp) ?_; intro v11 w11 hA hb; rw [List.nil_append] at hA; have HA11 := Lib.hid hA; have HB11 := Lib.hid ((below1 wc (.cells #[] 5)).trans hb); clear hA hb)
        | (go_at_call 17; refine (lw_append0 H10.out HB11.out m2 HA11.out HE1.out HCL.out.1 HSA.out).mono ?_; rintro r w12 ⟨rfl, hs⟩; have H12 := Lib.hid hs; clear hs))
      go_upto_region 27 with (first
        | (go_at_call 20; refine (H12.out.crash 0 (by decide)).mono ?_; rintro r w13 ⟨rfl, hs⟩; rw [HEK.out] at hs; have H13 := Lib.hid hs; clear hs)
        | (go_at_call 16; refine (lw_open0 H13.out HE1.out HES.out HEO.out).mono ?_; rintro r w14 ⟨lc, rfl, hs⟩; have H14 := Lib.hid hs; clear hs))
      have HCM := Lib.hid (show (ps ++ [m2]).length ≤ 1000000 ∧ ∀ m ∈ ps ++ [m2], m.length ≤ 1000000000 from ⟨by have := HPX.out.1; simp; omega, fun x hx => by
        rcases List.mem_append.1 hx with hx | hx
        · exact HCL.out.2 x hx
        · obtain rfl := List.mem_singleton.1 hx; have := HZ.out; omega⟩)
      have HY := Lib.hid (show (l ++ [(⟨p2, d2, m2⟩ : SlA)]).map (·.m) = ps ++ [m2] ∧ (l ++ [(⟨p2, d2, m2⟩ : SlA)]).length ≤ 1000000000 from ⟨by rw [List.map_append, HPS.out.1]; rfl, by have := HZ.out; simp; omega⟩)
      go_wp2_with (first
        | (go_at_call 14; refine (sameL_any q15 pv n15 nv c15 dv l15 _ HN15.out HN17.out _ (HA15.out.1.onW HB17.out) (lsa_of_pl HP17.out) (by rw [HA15.out.2.2]; have := HCM.out.1; omega) HY.out.2).mono ?_; rintro r w18 ⟨⟨kb, rfl, hkb⟩, hb⟩; obtain rfl : kb = true := hkb.2 (HA15.out.2.1.trans HY.out.1.symm); have H18 := Lib.hid ((H15.out.on HB17.out).on hb); clear hkb hb)
        | (have _hq := HP16; refine wpList_plN (w0 := w1) rfl _ _ rfl w15.heap.size _ l rfl (HP16.out.on (below1 _ _)) (some ⟨w16.heap.size, 0, none⟩) [⟨p2, d2, m2⟩] 1 1 rfl rfl (lsa_one (T := 22) (HM1.out.on ((H15.out.on HB16.out).bel)) HN.out.2.1 HN.out.2.2) (fun y hy => by obtain rfl := List.mem_singleton.1 hy; exact HM1.out) H15.out.bel.size (by have := HZ.out; simp; omega) (by have := HB16.out.size; simp; omega) ?_; intro pv nv dv w17 hnv hP hb; have HN17 := Lib.hid hnv; have HP17 := Lib.hid hP; have HB17 := Lib.hid (HB16.out.trans (((below1 w16 _).mono HB16.out.size).trans hb)); clear hP hb hnv)
        | (refine wpList_plN (w0 := w1) rfl _ _ rfl w15.heap.size _ [] rfl (pl_made (Nat.le_refl _)) p l k d rfl HKL.out.1 ((HL1.out.onW H15.out.bel).onW (below1 _ _)) (fun y hy => (HL1.out.el y hy).1) H15.out.bel.size (by have := HZ.out; simp; omega) (by simp) ?_; intro pu nu du w16 hnu hP hb; rw [List.nil_append] at hP; have HP16 := Lib.hid hP; clear hnu; have HB16 := Lib.hid ((below1 w15 (.cells #[] 22)).trans hb); clear hP hb)
        | (go_at_call 21; refine (lw_all0 H14.out HCM.out.1 HCM.out.2 (ps ++ [m2]) rfl).mono ?_; rintro r w15 ⟨q15, l15, n15, c15, rfl, hn15, h1, h2, h3, hb⟩; have HN15 := Lib.hid hn15; have HA15 := Lib.hid (And.intro h1 (And.intro h2 h3)); have H15 := Lib.hid (H14.out.on hb); clear hn15 h1 h2 h3 hb))
      go_ret
      exact ⟨by rfl, HB1.out.trans (H18.out.bel.mono HB1.out.size)⟩
end
end Go.Proofs.YtooiaadnhglifaaDoor
