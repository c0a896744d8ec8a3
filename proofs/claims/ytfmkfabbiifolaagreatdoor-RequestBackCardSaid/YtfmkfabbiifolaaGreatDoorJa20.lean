/-
  Joined of: Rne, Rpl, Rqc.
-/
import Derived.Test.YtfmkfabbiifolaaGreatDoorJa18
import Derived.Test.YtfmkfabbiifolaaGreatDoorJa19
set_option linter.unusedVariables false
set_option linter.unusedSimpArgs false
/-
  Plain: an error's number is never that of none.
-/
namespace Go.Proofs.YtfmkfabbiifolaaGreatDoor
open Go.RowKit

def NE {α : Type} (R : Except (Int × Int) α) : Prop := ∀ e, R = .error e → e.1 ≠ 0
theorem NE.ok {α : Type} (x : α) : NE (.ok x : Except (Int × Int) α) := fun e h => by cases h
theorem NE.six {α : Type} (p : Int) : NE (.error (6, p) : Except (Int × Int) α) := fun e h => by injection h with h; subst h; exact (by decide : (6 : Int) ≠ 0)
theorem NE.two {α : Type} (p : Int) : NE (.error (2, p) : Except (Int × Int) α) := fun e h => by injection h with h; subst h; exact (by decide : (2 : Int) ≠ 0)
theorem NE.on {α β : Type} {R : Except (Int × Int) α} (h : NE R) {e : Int × Int} (he : R = .error e) : NE (.error e : Except (Int × Int) β) := fun e' h' => by injection h' with h'; subst h'; exact h e he
section
variable (s : ByteArray) (ts : List Tok)
theorem ne_moreT : ∀ (n : Nat) (acc : List Tm) (k : Nat), NE (moreT s ts n acc k)
  | 0, acc, k => by unfold moreT; split; exact .two _; exact .ok _
  | n + 1, acc, k => by
    unfold moreT; split
    · split; exact ne_moreT n _ _; exact .six _
    · exact .ok _
theorem ne_listT (n k : Nat) : NE (listT s ts n k) := by
  unfold listT; split; exact ne_moreT s ts _ _ _; exact .six _
theorem ne_atomR (k : Nat) : NE (atomR s ts k) := by
  unfold atomR; split
  · split
    · split
      · rename_i e he; exact (ne_listT s ts 3 (k + 2)).on he
      · split; exact .ok _; exact .six _
    · exact .ok _
  · exact .six _
theorem ne_saidR (kd : Int) (k : Nat) : NE (saidR s ts kd k) := by
  unfold saidR; split
  · split
    · split
      · rename_i e he; exact (ne_atomR s ts (k + 2)).on he
      · exact .ok _
    · exact .six _
  · split
    · rename_i e he; exact (ne_atomR s ts k).on he
    · exact .ok _
theorem ne_compR (k : Nat) : NE (compR s ts k) := by
  unfold compR; split
  · split
    · split; exact .ok _; exact .six _
    · split
      · split; exact .ok _; exact .six _
      · exact .six _
  · exact .six _
theorem ne_litR (k : Nat) : NE (litR s ts k) := by
  unfold litR; split
  · exact ne_saidR s ts _ _
  · split; exact ne_compR s ts _; exact ne_saidR s ts _ _
theorem ne_moreL : ∀ (n : Nat) (acc : List Lq) (k : Nat), NE (moreL s ts n acc k)
  | 0, acc, k => by unfold moreL; split; exact .two _; exact .ok _
  | n + 1, acc, k => by
    unfold moreL; split
    · split
      · rename_i e he; exact (ne_litR s ts (k + 1)).on he
      · exact ne_moreL n _ _
    · exact .ok _
theorem ne_listL (n k : Nat) : NE (listL s ts n k) := by
  unfold listL; split
  · rename_i e he; exact (ne_litR s ts k).on he
  · exact ne_moreL s ts _ _ _
theorem ne_clauseR (k : Nat) : NE (clauseR s ts k) := by
  unfold clauseR; split
  · rename_i e he; exact (ne_atomR s ts k).on he
  · split
    · split
      · rename_i e he; exact (ne_listL s ts _ _).on he
      · split; exact .ok _; exact .six _
    · split; exact .ok _; exact .six _
theorem ne_wholeR {α : Type} {R : Except (Int × Int) (α × Nat)} (h : NE R) : NE (wholeR s ts R) := by
  unfold wholeR; split
  · rename_i e; exact h.on rfl
  · split; exact .ok _; exact .six _
end
theorem parseLitR_ne {s : ByteArray} {n p : Int} (h : parseLitR s = .error (n, p)) : n ≠ 0 := by
  unfold parseLitR at h
  split at h
  · exact ne_wholeR s _ (ne_saidR s _ _ _) _ h
  · rename_i he
    injection h with h
    injection h with h _
    exact h ▸ he
theorem parseR_ne {s : ByteArray} {n p : Int} (h : parseR s = .error (n, p)) : n ≠ 0 := by
  unfold parseR at h
  split at h
  · exact ne_wholeR s _ (ne_clauseR s _ _) _ h
  · rename_i he
    injection h with h
    injection h with h _
    exact h ▸ he
end Go.Proofs.YtfmkfabbiifolaaGreatDoor

/-
  Plain: the place of an error is one of the text's.
-/
set_option linter.unusedVariables false
set_option linter.unusedSimpArgs false
namespace Go.Proofs.YtfmkfabbiifolaaGreatDoor
open Go.RowKit

def PB {α : Type} (s : ByteArray) (R : Except (Int × Int) α) : Prop := ∀ e, R = .error e → 0 ≤ e.2 ∧ e.2 ≤ (s.size : Int)
theorem PB.ok {α : Type} {s : ByteArray} (x : α) : PB s (.ok x : Except (Int × Int) α) := fun e h => by cases h
theorem PB.pl {α : Type} {s : ByteArray} {ts : List Tok} (hp : ∀ k, 0 ≤ placeAt s ts k ∧ placeAt s ts k ≤ (s.size : Int)) (n : Int) (k : Nat) : PB s (.error (n, placeAt s ts k) : Except (Int × Int) α) := fun e h => by injection h with h; subst h; exact hp k
theorem PB.on {α β : Type} {s : ByteArray} {R : Except (Int × Int) α} (h : PB s R) {e : Int × Int} (he : R = .error e) : PB s (.error e : Except (Int × Int) β) := fun e' h' => by injection h' with h'; subst h'; exact h e he
section
variable (s : ByteArray) (ts : List Tok) (hp : ∀ k, 0 ≤ placeAt s ts k ∧ placeAt s ts k ≤ (s.size : Int))
include hp
theorem pb_moreT : ∀ (n : Nat) (acc : List Tm) (k : Nat), PB s (moreT s ts n acc k)
  | 0, acc, k => by unfold moreT; split; exact PB.pl hp _ _; exact .ok _
  | n + 1, acc, k => by
    unfold moreT; split
    · split; exact pb_moreT n _ _; exact PB.pl hp _ _
    · exact .ok _
theorem pb_listT (n k : Nat) : PB s (listT s ts n k) := by
  unfold listT; split; exact pb_moreT s ts hp _ _ _; exact PB.pl hp _ _
theorem pb_atomR (k : Nat) : PB s (atomR s ts k) := by
  unfold atomR; split
  · split
    · split
      · rename_i e he; exact (pb_listT s ts hp 3 (k + 2)).on he
      · split; exact .ok _; exact PB.pl hp _ _
    · exact .ok _
  · exact PB.pl hp _ _
theorem pb_saidR (kd : Int) (k : Nat) : PB s (saidR s ts kd k) := by
  unfold saidR; split
  · split
    · split
      · rename_i e he; exact (pb_atomR s ts hp (k + 2)).on he
      · exact .ok _
    · exact PB.pl hp _ _
  · split
    · rename_i e he; exact (pb_atomR s ts hp k).on he
    · exact .ok _
theorem pb_compR (k : Nat) : PB s (compR s ts k) := by
  unfold compR; split
  · split
    · split; exact .ok _; exact PB.pl hp _ _
    · split
      · split; exact .ok _; exact PB.pl hp _ _
      · exact PB.pl hp _ _
  · exact PB.pl hp _ _
theorem pb_litR (k : Nat) : PB s (litR s ts k) := by
  unfold litR; split
  · exact pb_saidR s ts hp _ _
  · split; exact pb_compR s ts hp _; exact pb_saidR s ts hp _ _
theorem pb_moreL : ∀ (n : Nat) (acc : List Lq) (k : Nat), PB s (moreL s ts n acc k)
  | 0, acc, k => by unfold moreL; split; exact PB.pl hp _ _; exact .ok _
  | n + 1, acc, k => by
    unfold moreL; split
    · split
      · rename_i e he; exact (pb_litR s ts hp (k + 1)).on he
      · exact pb_moreL n _ _
    · exact .ok _
theorem pb_listL (n k : Nat) : PB s (listL s ts n k) := by
  unfold listL; split
  · rename_i e he; exact (pb_litR s ts hp k).on he
  · exact pb_moreL s ts hp _ _ _
theorem pb_clauseR (k : Nat) : PB s (clauseR s ts k) := by
  unfold clauseR; split
  · rename_i e he; exact (pb_atomR s ts hp k).on he
  · split
    · split
      · rename_i e he; exact (pb_listL s ts hp _ _).on he
      · split; exact .ok _; exact PB.pl hp _ _
    · split; exact .ok _; exact PB.pl hp _ _
theorem pb_wholeR {α : Type} {R : Except (Int × Int) (α × Nat)} (h : PB s R) : PB s (wholeR s ts R) := by
  unfold wholeR; split
  · rename_i e; exact h.on rfl
  · split; exact .ok _; exact PB.pl hp _ _
end
theorem allF_plc : ∀ (f k : Nat) (l : List UInt8), 0 ≤ (allF f k l).pl ∧ (allF f k l).pl ≤ ((k + l.length : Nat) : Int)
  | 0, k, l => by rw [allF]; exact ⟨Int.le_refl _, by simp only; omega⟩
  | f + 1, k, [] => by rw [allF]; exact ⟨Int.le_refl _, by simp only; omega⟩
  | f + 1, k, c :: r => by
    rw [allF]
    split
    · have := allF_plc f (k + 1) r
      simp only [List.length_cons]
      omega
    · split
      · rename_i h0
        have hb := ((oneL_bd (c :: r) (by simp)).1 h0).2
        have := allF_plc f (k + (oneL (c :: r)).len) ((c :: r).drop (oneL (c :: r)).len)
        rw [List.length_drop] at this
        unfold Toks.put
        split
        · exact ⟨Int.le_refl _, by simp only; omega⟩
        · simp only
          omega
      · exact ⟨by simp only; omega, by simp only [List.length_cons]; omega⟩
theorem allL_pl (s : ByteArray) : 0 ≤ (allL s.data.toList).pl ∧ (allL s.data.toList).pl ≤ (s.size : Int) := by
  unfold allL
  split
  · exact ⟨Int.le_refl _, by simp only; omega⟩
  · have := allF_plc s.data.toList.length 0 s.data.toList
    have hs : s.data.toList.length = s.size := by simp
    omega
theorem src_place {s : ByteArray} {ts : List Tok} (h : Srcs s ts) (k : Nat) : ∃ g : Nat, placeAt s ts k = (g : Int) ∧ g ≤ s.size := by
  unfold placeAt
  split
  · rename_i t ht
    have := h.pos t (List.mem_of_getElem? ht)
    exact ⟨t.fr.toNat, by omega, by omega⟩
  · exact ⟨s.size, rfl, Nat.le_refl _⟩
theorem TokS.place {s : ByteArray} {ts : List Tok} (h : TokS s ts) (k : Nat) : ∃ g : Nat, placeAt s ts k = (g : Int) ∧ g ≤ s.size := src_place h.src k
theorem place_bd {s : ByteArray} {ts : List Tok} (h : Srcs s ts) (k : Nat) : 0 ≤ placeAt s ts k ∧ placeAt s ts k ≤ (s.size : Int) := by
  obtain ⟨g, h1, h2⟩ := src_place h k
  omega
theorem parseLitR_place {s : ByteArray} {n p : Int} (h : parseLitR s = .error (n, p)) : 0 ≤ p ∧ p ≤ (s.size : Int) := by
  unfold parseLitR at h
  split at h
  · rename_i he
    exact pb_wholeR s _ (place_bd (src_of s he)) (pb_saidR s _ (place_bd (src_of s he)) _ _) _ h
  · injection h with h
    injection h with _ h
    exact h ▸ allL_pl s
theorem parseR_place {s : ByteArray} {n p : Int} (h : parseR s = .error (n, p)) : 0 ≤ p ∧ p ≤ (s.size : Int) := by
  unfold parseR at h
  split at h
  · rename_i he
    exact pb_wholeR s _ (place_bd (src_of s he)) (pb_clauseR s _ (place_bd (src_of s he)) _) _ h
  · injection h with h
    injection h with _ h
    exact h ▸ allL_pl s
theorem tail_size (s : ByteArray) (fr : Int) : (tailS s fr).size ≤ s.size := by
  unfold tailS
  rw [ByteArray.size_extract]; omega
end Go.Proofs.YtfmkfabbiifolaaGreatDoor

/-
  Contracts: request.rest at a clause, at a literal. (Made by tools/mk_rqc.py.)
-/
set_option linter.unusedVariables false
set_option linter.unusedSimpArgs false
namespace Go.Proofs.YtfmkfabbiifolaaGreatDoor
open Go.RowKit

theorem Rb.low {w w' : World} {rb : Nat} {s : ByteArray} {q : Option Addr} {c : Nat} {ts : List Tok} {k : Nat} {at_ er : Int} {B : Nat} (h : Rb w rb s q c ts k at_ er) (hb : Below B w w') (hB : rb < B) : Rb w' rb s q c ts k at_ er :=
  ⟨h.box.below hb hB, h.rd.below hb (Nat.le_of_lt hB), h.le, h.src, h.env.on (hb.mono (Nat.le_of_lt hB))⟩
/-- what is read of the rest of a text -/
def RestPost (w : World) (rb : Nat) (s : ByteArray) (q : Option Addr) (c : Nat) (ts : List Tok) (k : Nat) (at_ er : Int) (R : Except (Int × Int) Cq) (e : Ending) (w' : World) : Prop := match R with
  | .ok x => ∃ cl : Kp, cl.q = x ∧ e = .returned cl.agg ∧ ClMem w' cl ∧ ClFar w.heap.size cl ∧ Below w.heap.size w w'
  | .error (n, p) => e = .returned kpZ.agg ∧ Rb w' rb s q c ts k (firstW er (placeAt s ts k + p) n at_).1 (firstW er (placeAt s ts k + p) n at_).2 ∧ Only rb w w'
def RestLPost (w : World) (rb : Nat) (s : ByteArray) (q : Option Addr) (c : Nat) (ts : List Tok) (k : Nat) (at_ er : Int) (R : Except (Int × Int) Lq) (e : Ending) (w' : World) : Prop := match R with
  | .ok x => ∃ qx cx, e = .returned (x.at qx cx).agg ∧ Tms w' w'.heap.size qx x.args ∧ (∀ b, qx = some b → w.heap.size ≤ b.block) ∧ Below w.heap.size w w'
  | .error (n, p) => e = .returned lpZ.agg ∧ Rb w' rb s q c ts k (firstW er (placeAt s ts k + p) n at_).1 (firstW er (placeAt s ts k + p) n at_).2 ∧ Only rb w w'
set_option maxHeartbeats 8000000 in
set_option maxRecDepth 100000 in
theorem restC_any (w : World) (rb : Nat) (s : ByteArray) (q : Option Addr) (c : Nat) (ts : List Tok) (k : Nat) (at_ er : Int) (h : Rb w rb s q c ts k at_ er) :
    Calls Tryz.prog 46 #[.pointer (some ⟨rb, 0, none⟩), .func (.func 47) #[] #[]] w (RestPost w rb s q c ts k at_ er (parseR (tailS s (placeAt s ts k)))) := by
  obtain ⟨g, hg, hgs⟩ := src_place h.src k
  have HB := Lib.hid (below1 w)
  have HOK := Lib.hid (fun X (hX : Below w.heap.size w X) => h.on hX)
  have HPL := Lib.hid (fun X (hX : Below w.heap.size w X) => rplace_any X rb s q c ts k at_ er (h.on hX))
  have hsz := h.src.size
  have hpb := h.lt
  have hts : (tailS s (placeAt s ts k)).size ≤ 140737488351232 := Nat.le_trans (tail_size s _) (by omega)
  have HPA := Lib.hid (fun X (hX : Below w.heap.size w X) => parse_any (tailS s (placeAt s ts k)) X hts (h.on hX).env.env)
  have HTL := Lib.hid (show tailS s (placeAt s ts k) = s.extract g s.size by unfold tailS; rw [hg]; rfl)
  have HWR := Lib.hid (fun (n p : Int) X (hX : Below w.heap.size w X) => rwrong_any X rb s q c ts k at_ er (placeAt s ts k + p) n (h.on hX))
  have HNE := Lib.hid (fun (n p : Int) (e : parseR (tailS s (placeAt s ts k)) = .error (n, p)) => parseR_ne e)
  have HPB := Lib.hid (fun (n p : Int) (e : parseR (tailS s (placeAt s ts k)) = .error (n, p)) => parseR_place e)
  have htl := tail_size s (placeAt s ts k)
  unfold RestPost
  rw [hg] at HPL HWR ⊢
  rw [hg] at HPA HNE HPB htl HTL
  clear h hts
  generalize hR : parseR (tailS s (g : Int)) = R at *
  rw [HTL.out] at HPA
  clear hR HTL hg
  have hg0 : (0 : Int) ≤ (g : Int) := by omega
  have hg1 : (g : Int) ≤ (s.size : Int) := by omega
  match R, HPA, HNE, HPB with
  | .error (n, p), HPA, HNE, HPB =>
    have hne : (n != 0) = true := by rw [bne_iff_ne]; exact HNE.out n p rfl
    obtain ⟨hp0, hp1⟩ := HPB.out n p rfl
    have hgp : (g : Int) + p ≤ 10000 := by omega
    have hgq : (0 : Int) ≤ (g : Int) + p := by omega
    have HWR := Lib.hid (HWR.out n p)
    clear HNE HPB
    go_enter Tryz.func46, Tryz.ntmps46
    go_wp2_with (first
      | (go_at_call 19; refine (HPL.out _ (HB.out _)).mono ?_; rintro e w1 ⟨rfl, hb1⟩; have HB1 := Lib.hid ((HB.out _).trans (hb1.mono (HB.out _).size)); have HZ1 := Lib.hid ((Bk.new w _ _).on hb1); have c0 := (HOK.out _ HB1.out).c0; have hs1 : w.heap.size + 1 ≤ w1.heap.size := (by simpa using hb1.size); clear hb1)
      | (go_at_call 47; refine (HPA.out _ HB1.out).mono ?_; rintro e w2 ⟨rfl, hb2⟩; have HB3 := Lib.hid ((HB1.out.trans (hb2.mono HB1.out.size)).trans ((below1 w2 (.cells #[.int .u8 0, .string ⟨#[]⟩, .string ⟨#[]⟩, .int .i64 0, .string ⟨#[]⟩, .slice none 0 0, .slice none 0 0] 31)).mono (HB1.out.trans (hb2.mono HB1.out.size)).size)); have HZ3 := Lib.hid ((HZ1.out.on hb2).on (below1 w2 (.cells #[.int .u8 0, .string ⟨#[]⟩, .string ⟨#[]⟩, .int .i64 0, .string ⟨#[]⟩, .slice none 0 0, .slice none 0 0] 31))); have HM3 := Lib.hid (Bk.new w2 31 #[.int .u8 0, .string ⟨#[]⟩, .string ⟨#[]⟩, .int .i64 0, .string ⟨#[]⟩, .slice none 0 0, .slice none 0 0]); have hs2 : w1.heap.size ≤ w2.heap.size := hb2.size; unfold kpZ lpZ Kp.agg tmZ; clear hb2)
      | (go_at_call 18; refine (HWR.out _ HB3.out).mono ?_; rintro e w4 ⟨rfl, hr4, ho4⟩; have HR4 := Lib.hid hr4; have HO4 := Lib.hid ((Only.of HB3.out).trans ho4); have HZ4 := Lib.hid (HZ3.out.only ho4 (by omega)); have HM4 := Lib.hid (HM3.out.only ho4 (by omega)); obtain ⟨r0, r1, r2, r3, r4, r5, r6⟩ := HM4.out.seven; obtain ⟨z0, z1, z2, z3, z4, z5, z6⟩ := HZ4.out.softs; obtain ⟨t0, t1, t2, t3, t4, t5, t6⟩ := HZ4.out.seven; clear hr4 ho4))
    obtain ⟨q0, q1, q2, q3, q4, q5, q6⟩ := (load7 HZ4.out (.int .u8 0) (.string ⟨#[]⟩) (.string ⟨#[]⟩) (.int .i64 0) (.string ⟨#[]⟩) (.slice none 0 0) (.slice none 0 0)).seven
    refine bodyPost_ret (v := kpZ.agg) ?_ rfl ?_
    · simp [results, Tryz.results46, go_sem, q0, q1, q2, q3, q4, q5, q6, kpZ, lpZ, Kp.agg, tmZ]
    · exact ⟨rfl, HR4.out.low (set7 (Nat.le_refl w.heap.size) _ _ _ _ _ _ _ ) hpb, HO4.out.add (set7 (Nat.le_refl w.heap.size) _ _ _ _ _ _ _ )⟩
  | .ok x, HPA, HNE, HPB =>
    clear HNE HPB HWR
    go_enter Tryz.func46, Tryz.ntmps46
    go_wp2_with (first
      | (go_at_call 19; refine (HPL.out _ (HB.out _)).mono ?_; rintro e w1 ⟨rfl, hb1⟩; have HB1 := Lib.hid ((HB.out _).trans (hb1.mono (HB.out _).size)); have HZ1 := Lib.hid ((Bk.new w _ _).on hb1); have c0 := (HOK.out _ HB1.out).c0; have hs1 : w.heap.size + 1 ≤ w1.heap.size := (by simpa using hb1.size); clear hb1)
      | (go_at_call 47; refine (HPA.out _ HB1.out).mono ?_; rintro e w2 ⟨cl, hcl, rfl, hcm, hcf, hb2⟩; have HB3 := Lib.hid ((HB1.out.trans (hb2.mono HB1.out.size)).trans ((below1 w2 (.cells #[.int .u8 cl.head.kind, .string cl.head.who.v, .string cl.head.who.s, .int .i64 cl.head.who.n, .string cl.head.pred, .slice cl.head.ptr cl.head.args.length cl.head.cap, .slice cl.ptr cl.body.length cl.cap] 31)).mono (HB1.out.trans (hb2.mono HB1.out.size)).size)); have HZ3 := Lib.hid ((HZ1.out.on hb2).on (below1 w2 (.cells #[.int .u8 cl.head.kind, .string cl.head.who.v, .string cl.head.who.s, .int .i64 cl.head.who.n, .string cl.head.pred, .slice cl.head.ptr cl.head.args.length cl.head.cap, .slice cl.ptr cl.body.length cl.cap] 31))); have HM3 := Lib.hid (Bk.new w2 31 #[.int .u8 cl.head.kind, .string cl.head.who.v, .string cl.head.who.s, .int .i64 cl.head.who.n, .string cl.head.pred, .slice cl.head.ptr cl.head.args.length cl.head.cap, .slice cl.ptr cl.body.length cl.cap]); have hs2 : w1.heap.size ≤ w2.heap.size := hb2.size; have HCL := Lib.hid hcl; have HCM := Lib.hid (hcm.on (below1 w2 (.cells #[.int .u8 cl.head.kind, .string cl.head.who.v, .string cl.head.who.s, .int .i64 cl.head.who.n, .string cl.head.pred, .slice cl.head.ptr cl.head.args.length cl.head.cap, .slice cl.ptr cl.body.length cl.cap] 31))); have HCF := Lib.hid hcf; obtain ⟨r0, r1, r2, r3, r4, r5, r6⟩ := HM3.out.seven; obtain ⟨z0, z1, z2, z3, z4, z5, z6⟩ := HZ3.out.softs; obtain ⟨t0, t1, t2, t3, t4, t5, t6⟩ := HZ3.out.seven; unfold Kp.agg; clear hb2 hcm hcf hcl))
    obtain ⟨q0, q1, q2, q3, q4, q5, q6⟩ := (load7 HZ3.out (.int .u8 cl.head.kind) (.string cl.head.who.v) (.string cl.head.who.s) (.int .i64 cl.head.who.n) (.string cl.head.pred) (.slice cl.head.ptr cl.head.args.length cl.head.cap) (.slice cl.ptr cl.body.length cl.cap)).seven
    refine bodyPost_ret (v := cl.agg) ?_ rfl ?_
    · simp [results, Tryz.results46, go_sem, q0, q1, q2, q3, q4, q5, q6, Kp.agg]
    · have hf := HCF.out.mono (B' := w.heap.size + 1) (by omega)
      exact ⟨cl, HCL.out, rfl, HCM.out.above hf ((Above.refl _ _).set7 (by omega) _ _ _ _ _ _ _) (set7 (Nat.le_refl w.heap.size) _ _ _ _ _ _ _).size, hf.mono (by omega), HB3.out.trans (set7 (Nat.le_refl _) _ _ _ _ _ _ _)⟩
set_option maxHeartbeats 8000000 in
set_option maxRecDepth 100000 in
theorem restL_any (w : World) (rb : Nat) (s : ByteArray) (q : Option Addr) (c : Nat) (ts : List Tok) (k : Nat) (at_ er : Int) (h : Rb w rb s q c ts k at_ er) :
    Calls Tryz.prog 52 #[.pointer (some ⟨rb, 0, none⟩), .func (.func 53) #[] #[]] w (RestLPost w rb s q c ts k at_ er (parseLitR (tailS s (placeAt s ts k)))) := by
  obtain ⟨g, hg, hgs⟩ := src_place h.src k
  have HB := Lib.hid (below1 w)
  have HOK := Lib.hid (fun X (hX : Below w.heap.size w X) => h.on hX)
  have HPL := Lib.hid (fun X (hX : Below w.heap.size w X) => rplace_any X rb s q c ts k at_ er (h.on hX))
  have hsz := h.src.size
  have hpb := h.lt
  have hts : (tailS s (placeAt s ts k)).size ≤ 140737488351232 := Nat.le_trans (tail_size s _) (by omega)
  have HPA := Lib.hid (fun X (hX : Below w.heap.size w X) => parseLit_any (tailS s (placeAt s ts k)) X hts (h.on hX).env.env)
  have HTL := Lib.hid (show tailS s (placeAt s ts k) = s.extract g s.size by unfold tailS; rw [hg]; rfl)
  have HWR := Lib.hid (fun (n p : Int) X (hX : Below w.heap.size w X) => rwrong_any X rb s q c ts k at_ er (placeAt s ts k + p) n (h.on hX))
  have HNE := Lib.hid (fun (n p : Int) (e : parseLitR (tailS s (placeAt s ts k)) = .error (n, p)) => parseLitR_ne e)
  have HPB := Lib.hid (fun (n p : Int) (e : parseLitR (tailS s (placeAt s ts k)) = .error (n, p)) => parseLitR_place e)
  have htl := tail_size s (placeAt s ts k)
  unfold RestLPost
  rw [hg] at HPL HWR ⊢
  rw [hg] at HPA HNE HPB htl HTL
  clear h hts
  generalize hR : parseLitR (tailS s (g : Int)) = R at *
  rw [HTL.out] at HPA
  clear hR HTL hg
  have hg0 : (0 : Int) ≤ (g : Int) := by omega
  have hg1 : (g : Int) ≤ (s.size : Int) := by omega
  match R, HPA, HNE, HPB with
  | .error (n, p), HPA, HNE, HPB =>
    have hne : (n != 0) = true := by rw [bne_iff_ne]; exact HNE.out n p rfl
    obtain ⟨hp0, hp1⟩ := HPB.out n p rfl
    have hgp : (g : Int) + p ≤ 10000 := by omega
    have hgq : (0 : Int) ≤ (g : Int) + p := by omega
    have HWR := Lib.hid (HWR.out n p)
    clear HNE HPB
    go_enter Tryz.func52, Tryz.ntmps52
    go_wp2_with (first
      | (go_at_call 19; refine (HPL.out _ (HB.out _)).mono ?_; rintro e w1 ⟨rfl, hb1⟩; have HB1 := Lib.hid ((HB.out _).trans (hb1.mono (HB.out _).size)); have HZ1 := Lib.hid ((Bk.new w _ _).on hb1); have c0 := (HOK.out _ HB1.out).c0; have hs1 : w.heap.size + 1 ≤ w1.heap.size := (by simpa using hb1.size); clear hb1)
      | (go_at_call 53; refine (HPA.out _ HB1.out).mono ?_; rintro e w2 ⟨rfl, hb2⟩; have HB3 := Lib.hid ((HB1.out.trans (hb2.mono HB1.out.size)).trans ((below1 w2 (.cells #[.int .u8 0, .string ⟨#[]⟩, .string ⟨#[]⟩, .int .i64 0, .string ⟨#[]⟩, .slice none 0 0] 28)).mono (HB1.out.trans (hb2.mono HB1.out.size)).size)); have HZ3 := Lib.hid ((HZ1.out.on hb2).on (below1 w2 (.cells #[.int .u8 0, .string ⟨#[]⟩, .string ⟨#[]⟩, .int .i64 0, .string ⟨#[]⟩, .slice none 0 0] 28))); have HM3 := Lib.hid (Bk.new w2 28 #[.int .u8 0, .string ⟨#[]⟩, .string ⟨#[]⟩, .int .i64 0, .string ⟨#[]⟩, .slice none 0 0]); have hs2 : w1.heap.size ≤ w2.heap.size := hb2.size; unfold lpZ Lp.agg tmZ; clear hb2)
      | (go_at_call 18; refine (HWR.out _ HB3.out).mono ?_; rintro e w4 ⟨rfl, hr4, ho4⟩; have HR4 := Lib.hid hr4; have HO4 := Lib.hid ((Only.of HB3.out).trans ho4); have HZ4 := Lib.hid (HZ3.out.only ho4 (by omega)); have HM4 := Lib.hid (HM3.out.only ho4 (by omega)); obtain ⟨r0, r1, r2, r3, r4, r5⟩ := HM4.out.six; obtain ⟨z0, z1, z2, z3, z4, z5, z6⟩ := HZ4.out.softs; obtain ⟨t0, t1, t2, t3, t4, t5⟩ := HZ4.out.six; clear hr4 ho4))
    obtain ⟨q0, q1, q2, q3, q4, q5⟩ := (load6 HZ4.out (.int .u8 0) (.string ⟨#[]⟩) (.string ⟨#[]⟩) (.int .i64 0) (.string ⟨#[]⟩) (.slice none 0 0)).six
    refine bodyPost_ret (v := lpZ.agg) ?_ rfl ?_
    · simp [results, Tryz.results52, go_sem, q0, q1, q2, q3, q4, q5, lpZ, Lp.agg, tmZ]
    · exact ⟨rfl, HR4.out.low (set6 (Nat.le_refl w.heap.size) _ _ _ _ _ _ ) hpb, HO4.out.add (set6 (Nat.le_refl w.heap.size) _ _ _ _ _ _ )⟩
  | .ok x, HPA, HNE, HPB =>
    clear HNE HPB HWR
    go_enter Tryz.func52, Tryz.ntmps52
    go_wp2_with (first
      | (go_at_call 19; refine (HPL.out _ (HB.out _)).mono ?_; rintro e w1 ⟨rfl, hb1⟩; have HB1 := Lib.hid ((HB.out _).trans (hb1.mono (HB.out _).size)); have HZ1 := Lib.hid ((Bk.new w _ _).on hb1); have c0 := (HOK.out _ HB1.out).c0; have hs1 : w.heap.size + 1 ≤ w1.heap.size := (by simpa using hb1.size); clear hb1)
      | (go_at_call 53; refine (HPA.out _ HB1.out).mono ?_; rintro e w2 ⟨qx, cx, rfl, hcm, hcf, hb2⟩; have HB3 := Lib.hid ((HB1.out.trans (hb2.mono HB1.out.size)).trans ((below1 w2 (.cells #[.int .u8 x.kind, .string x.who.v, .string x.who.s, .int .i64 x.who.n, .string x.pred, .slice qx x.args.length cx] 28)).mono (HB1.out.trans (hb2.mono HB1.out.size)).size)); have HZ3 := Lib.hid ((HZ1.out.on hb2).on (below1 w2 (.cells #[.int .u8 x.kind, .string x.who.v, .string x.who.s, .int .i64 x.who.n, .string x.pred, .slice qx x.args.length cx] 28))); have HM3 := Lib.hid (Bk.new w2 28 #[.int .u8 x.kind, .string x.who.v, .string x.who.s, .int .i64 x.who.n, .string x.pred, .slice qx x.args.length cx]); have hs2 : w1.heap.size ≤ w2.heap.size := hb2.size; have HCM := Lib.hid (hcm.grow (below1 w2 (.cells #[.int .u8 x.kind, .string x.who.v, .string x.who.s, .int .i64 x.who.n, .string x.pred, .slice qx x.args.length cx] 28))); have HCF := Lib.hid hcf; obtain ⟨r0, r1, r2, r3, r4, r5⟩ := HM3.out.six; obtain ⟨z0, z1, z2, z3, z4, z5, z6⟩ := HZ3.out.softs; obtain ⟨t0, t1, t2, t3, t4, t5⟩ := HZ3.out.six; unfold Lp.agg Lq.at; clear hb2 hcm hcf))
    obtain ⟨q0, q1, q2, q3, q4, q5⟩ := (load6 HZ3.out (.int .u8 x.kind) (.string x.who.v) (.string x.who.s) (.int .i64 x.who.n) (.string x.pred) (.slice qx x.args.length cx)).six
    refine bodyPost_ret (v := (x.at qx cx).agg) ?_ rfl ?_
    · simp [results, Tryz.results52, go_sem, q0, q1, q2, q3, q4, q5, Lp.agg, Lq.at]
    · have hf : ∀ b, qx = some b → w.heap.size + 1 ≤ b.block := fun b hb => Nat.le_trans (by omega) (HCF.out b hb)
      exact ⟨qx, cx, rfl, ((Above.refl (w.heap.size + 1) _).set6 (b := w.heap.size) (by omega) _ _ _ _ _ _).rd HCM.out hf (set6 (Nat.le_refl w.heap.size) _ _ _ _ _ _).size, fun b hb => Nat.le_trans (by omega) (hf b hb), HB3.out.trans (set6 (Nat.le_refl _) _ _ _ _ _ _)⟩
end Go.Proofs.YtfmkfabbiifolaaGreatDoor
