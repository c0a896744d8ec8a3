/-
  append([]int{}, l...): a copy of a list of numbers; and the pool's Values over numbers of any sign.
-/
import Derived.Test.YtdoadclblloddaaPlaysL
namespace Go.Proofs.Ytdoadclblloddaa
open Go.RowKit Go.Maps Go.WideMaps

theorem run_append_zeroI (w : World) (ty : TypeId) (B : Nat) (q : Option Addr) (c : Nat) : (Builtin.append_ #[27, 27] ty #[.slice (some ⟨B, 0, none⟩) 0 0, .slice q 0 c]).run Try.prog w = .ok (.slice (some ⟨B, 0, none⟩) 0 0) w := by
  obtain ⟨i0, hi, hz0, hz1, hz2⟩ := info_parts info3
  cases q <;> simp [Builtin.append_, run_underlying Try.underlying27, sizeOf, typeInfo, hi, Builtin.lenOf, Builtin.firstCells, loadCells, loadCellsFrom, storeCells, Result.andThen]

theorem ints_cells {w : World} {B : Nat} {q : Option Addr} {l : List Int} (hl : 0 < l.length) (h : Ints w B q l) : ∃ b off, q = some ⟨b, off, none⟩ ∧ ∀ j u, (l.map fun z => Value.int .i64 z)[j]? = some u → w.cell? ((⟨b, off, none⟩ : Addr).add j) = some u := by
  rcases h with h | ⟨b, off, he, hb, hc⟩
  · subst h; simp at hl
  · refine ⟨b, off, he, ?_⟩
    intro j u hu
    rw [List.getElem?_map] at hu
    rcases Nat.lt_or_ge j l.length with hj | hj
    · rw [List.getElem?_eq_getElem hj] at hu
      rw [← Option.some.inj hu, Addr.add_lit]
      exact hc j hj
    · rw [List.getElem?_eq_none hj] at hu; cases hu

/-- the copy at the append, for the walk -/
theorem wpList_copyI (w : World) {ops : Array Oper} {rest : List Oper} {o : Oper} {a : Act} {Q : Exit → Act → World → Prop} (hgd : o.guard = none) (s x : Operand)
    (ho : o.op = .call { callee := .builtin .append, args := #[s, x], argTypes := #[27, 27] }) (B : Nat) (hs : a.eval s = .slice (some ⟨B, 0, none⟩) 0 0) (hB : RowOf w B 3 [])
    (q : Option Addr) (ns : List Int) (c : Nat) (hx : a.eval x = .slice q ns.length c) {B0 : Nat} (hv : Ints w B0 q ns) (hm : ns.length * 8 ≤ 140737488355328)
    (h : ∀ g cap w', B ≤ g → g < w'.heap.size → Ints w' w'.heap.size (some ⟨g, 0, none⟩) ns → Below B w w' → wpList Try.prog ops Q rest (a.put o.dst (.slice (some ⟨g, 0, none⟩) ns.length cap)) w') : wpList Try.prog ops Q (o :: rest) a w := by
  rcases Nat.eq_zero_or_pos ns.length with h0 | h0
  · have he : ns = [] := List.length_eq_zero_iff.1 h0
    subst he
    refine wpList_plain hgd fun K hK => ?_
    have hrun := run_append_zeroI w o.type B q c
    have hK2 := hK _ _ (h B 0 w (Nat.le_refl _) hB.lt (.inl rfl) (Below.refl _ _))
    unfold Oper.wp execOp
    simp only [List.length_nil] at hx hK2
    simp only [ho, resolve, invoke, builtin, Sem.run_bind, Sem.run_pure, Result.andThen_ok, List.map_toArray, List.map_cons, List.map_nil, hs, hx, hrun]
    exact hK2
  · obtain ⟨i0, hi, hz0, hz1, hz2⟩ := info_parts info3
    obtain ⟨b, off, rfl, hc⟩ := ints_cells h0 hv
    have hown : w.ownsRow 0 3 1 (.slice (some ⟨B, 0, none⟩) 0 0) 0 [] := ⟨rfl, .inr ⟨B, 0, #[], rfl, Nat.zero_le _, hB, Nat.le_refl _, by unfold maxLen; omega, rfl, rfl⟩⟩
    refine wpList_append_lies w hgd s x 27 ho 0 3 i0 _ 1 8 Try.underlying27 hi hz0 hz1 hz2 rfl (by omega) _ 0 [] hs hown ⟨b, off, none⟩ ns.length c (ns.map fun z => .int .i64 z) hx (by simp) hc (by intro u hu; obtain ⟨z, _, rfl⟩ := List.mem_map.1 hu; rfl) h0 (by unfold maxLen; omega) (by omega) (Nat.zero_le _) _ rfl ?_
    intro g cap w' hw hg hat hlt
    rw [Nat.zero_add, List.nil_append] at hw
    rw [Nat.zero_add]
    have hBg : B ≤ g := by
      rcases hat with e | e
      · simp [Value.ownBlock] at e; omega
      · have := hB.lt; omega
    refine h g cap w' hBg hlt (.inr ⟨g, 0, rfl, hlt, fun i hi => ?_⟩) ?_
    · have c1 := hw.cells (g := g) rfl i (.int .i64 ns[i]) (by rw [List.getElem?_map, List.getElem?_eq_getElem hi]; rfl)
      rw [Addr.add_lit] at c1
      exact c1
    · exact (Below.refl _ _).grown hg (Nat.le_of_lt hB.lt) (fun k hk => by simp [Value.ownBlock] at hk; omega)

theorem ints_toNat {ns : List Int} (h : ∀ z ∈ ns, 0 ≤ z) : ints (ns.map Int.toNat) = ns := by
  unfold ints
  rw [List.map_map]
  exact (List.map_congr_left (fun z hz => by have := h z hz; simp; omega)).trans (List.map_id _)

theorem values_okI (w : World) {pb bm : Nat} {sv : Value} {l : List Vl} (h : Pool w pb bm sv l) (q : Option Addr) (ns : List Int) (c : Nat) (hv : Ints w w.heap.size q ns) (hall : ∀ z ∈ ns, 0 ≤ z ∧ z < (l.length : Int)) (hm : ns.length ≤ 50) :
    Calls Try.prog 15 #[.pointer (some ⟨pb, 0, none⟩), .slice q ns.length c] w fun e w' => ∃ R, e = .returned (.tuple #[.slice (some ⟨R, 0, none⟩) ns.length ns.length, .bool true]) ∧ RowOf w' R 31 (flatV (sel l (ns.map Int.toNat))) ∧ w.heap.size ≤ R ∧ Below w.heap.size w w' := by
  have e := ints_toNat (fun z hz => (hall z hz).1)
  have hl : (ns.map Int.toNat).length = ns.length := by simp
  have := values_ok w (some ⟨pb, 0, none⟩) l (fun wx hb k hk => get_any k wx (h.below hb) hk) q (ns.map Int.toNat) c (by rw [e]; exact hv) (fun k hk => by obtain ⟨z, hz, rfl⟩ := List.mem_map.1 hk; have := hall z hz; omega) (by rw [hl]; unfold maxLen; omega) (by rw [hl]; omega)
  rw [hl] at this
  exact this
theorem values_noI (w : World) {pb bm : Nat} {sv : Value} {l : List Vl} (h : Pool w pb bm sv l) (q : Option Addr) (ns : List Int) (c : Nat) (hv : Ints w w.heap.size q ns) (hbad : ∃ n ∈ ns, n < 0 ∨ (l.length : Int) ≤ n) (hm : ns.length ≤ 50) :
    Calls Try.prog 15 #[.pointer (some ⟨pb, 0, none⟩), .slice q ns.length c] w fun e w' => e = .returned (.tuple #[.slice none 0 0, .bool false]) ∧ Below w.heap.size w w' :=
  values_no w (some ⟨pb, 0, none⟩) l (fun wx hb k hk => get_any k wx (h.below hb) hk) (fun wx hb k hk => get_out k wx (h.below hb) hk) q ns c hv hbad (by unfold maxLen; omega) (by omega)
end Go.Proofs.Ytdoadclblloddaa
