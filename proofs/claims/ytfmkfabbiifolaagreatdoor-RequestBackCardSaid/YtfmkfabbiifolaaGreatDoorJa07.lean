/-
  Joined of: Rws, PrsA.
-/
import Derived.Test.YtfmkfabbiifolaaGreatDoorJa06
set_option linter.unusedVariables false
set_option linter.unusedSimpArgs false
/-
  Rows of elements in memory: what a slice reads, appending one list behind another one. Any element type.
-/
namespace Go.Proofs.YtfmkfabbiifolaaGreatDoor
open Go.RowKit

section
variable {α : Type} (enc : α → List Value) (k : Nat)
structure Enc : Prop where
  len : ∀ a, (enc a).length = k
  pos : 0 < k
  one : ∀ a, ∀ u ∈ enc a, u.oneCell' = true
def flatE (l : List α) : List Value := l.flatMap enc
/-- A slice in memory, below block B, reads as l. -/
def Rd (w : World) (B : Nat) (p : Option Addr) (l : List α) : Prop :=
  l = [] ∨ ∃ b off, p = some ⟨b, off, none⟩ ∧ b < B ∧ ∀ i (h : i < l.length) r u, (enc l[i])[r]? = some u → w.cell? ⟨b, off + i * k + r, none⟩ = some u
end

section
variable {α : Type} {enc : α → List Value} {k : Nat}
theorem Rd.nil {w : World} {B : Nat} {p : Option Addr} : Rd enc k w B p [] := .inl rfl
theorem Rd.below {w w' : World} {B B' : Nat} {p : Option Addr} {l : List α} (h : Rd enc k w B p l) (hb : Below B' w w') (hB : B ≤ B') : Rd enc k w' B p l := by
  rcases h with h | ⟨b, off, rfl, hl, hc⟩
  · exact .inl h
  · refine .inr ⟨b, off, rfl, hl, fun i hi r u hu => ?_⟩
    rw [hb.cell (p := ⟨b, off + i * k + r, none⟩) (Nat.lt_of_lt_of_le hl hB)]
    exact hc i hi r u hu
theorem Rd.mono {w : World} {B B' : Nat} {p : Option Addr} {l : List α} (h : Rd enc k w B p l) (hB : B ≤ B') : Rd enc k w B' p l := by
  rcases h with h | ⟨b, off, rfl, hl, hc⟩
  · exact .inl h
  · exact .inr ⟨b, off, rfl, Nat.lt_of_lt_of_le hl hB, hc⟩
theorem Rd.grow {w w' : World} {p : Option Addr} {l : List α} (h : Rd enc k w w.heap.size p l) (hb : Below w.heap.size w w') : Rd enc k w' w'.heap.size p l := (h.below hb (Nat.le_refl _)).mono hb.size
theorem Rd.at {w : World} {B : Nat} {p : Option Addr} {l : List α} (h : Rd enc k w B p l) (i : Nat) (hi : i < l.length) : ∃ b off, p = some ⟨b, off, none⟩ ∧ b < B ∧ ∀ r u, (enc l[i])[r]? = some u → w.cell? ⟨b, off + i * k + r, none⟩ = some u := by
  rcases h with h | ⟨b, off, rfl, hl, hc⟩
  · subst h; simp at hi
  · exact ⟨b, off, rfl, hl, hc i hi⟩

theorem flatE_length (E : Enc enc k) (l : List α) : (flatE enc l).length = l.length * k := by
  unfold flatE
  induction l with
  | nil => simp
  | cons x r ih => rw [List.flatMap_cons, List.length_append, ih, E.len]; simp [Nat.succ_mul]; omega
theorem flatE_snoc (l : List α) (x : α) : flatE enc (l ++ [x]) = flatE enc l ++ enc x := by simp [flatE]
theorem flatE_one (E : Enc enc k) (l : List α) : ∀ u ∈ flatE enc l, u.oneCell' = true := by
  intro u hu
  obtain ⟨t, _, ht⟩ := List.mem_flatMap.1 hu
  exact E.one t u ht
theorem flatE_get (E : Enc enc k) (l : List α) (i : Nat) (hi : i < l.length) (r : Nat) (hr : r < k) : (flatE enc l)[i * k + r]? = (enc l[i])[r]? := by
  unfold flatE
  induction l generalizing i with
  | nil => simp at hi
  | cons x t ih =>
    have e := E.len x
    cases i with
    | zero =>
      rw [List.flatMap_cons, List.getElem?_append_left (by omega)]
      simp
    | succ i =>
      have := ih i (by simpa using hi)
      rw [List.flatMap_cons, List.getElem?_append_right (by rw [e, Nat.succ_mul]; omega), e, show (i + 1) * k + r - k = i * k + r by rw [Nat.succ_mul]; omega, this]
      simp
theorem flatE_cells (E : Enc enc k) {w : World} {B : Nat} {b off : Nat} {l : List α} (hl : 0 < l.length) (h : Rd enc k w B (some ⟨b, off, none⟩) l) : ∀ j u, (flatE enc l)[j]? = some u → w.cell? ((⟨b, off, none⟩ : Addr).add j) = some u := by
  intro j u hu
  have hj : j < l.length * k := by rw [← flatE_length E]; exact (List.getElem?_eq_some_iff.1 hu).1
  have hk := E.pos
  have hi : j / k < l.length := Nat.div_lt_of_lt_mul (by rw [Nat.mul_comm]; exact hj)
  have hr : j % k < k := Nat.mod_lt _ hk
  have e : j = j / k * k + j % k := by rw [Nat.mul_comm]; exact (Nat.div_add_mod j k).symm
  obtain ⟨b', off', he, _, hc⟩ := h.at (j / k) hi
  cases he
  rw [Addr.add_lit, show off + j = off + j / k * k + j % k by omega]
  refine hc _ _ ?_
  rw [← flatE_get E l (j / k) hi _ hr, ← e, hu]
theorem rd_of_owns (E : Enc enc k) {w : World} {base g cap : Nat} {T : TypeId} {l : List α} (hg : g < w.heap.size) (h : w.ownsRow base T k (.slice (some ⟨g, 0, none⟩) l.length cap) l.length (flatE enc l)) : Rd enc k w w.heap.size (some ⟨g, 0, none⟩) l := by
  refine .inr ⟨g, 0, rfl, hg, fun i hi r u hu => ?_⟩
  have hr : r < k := by rw [← E.len l[i]]; exact (List.getElem?_eq_some_iff.1 hu).1
  have := h.cells (g := g) rfl (i * k + r) u (by rw [flatE_get E l i hi r hr, hu])
  rw [Addr.add_lit] at this
  rw [Nat.add_assoc]; exact this
end

/-- What may be appended to, and what that leaves of memory below base as it was: a slice without spare room that lies below base, or a row of the call's own. -/
def Grw (w : World) (base : Nat) (E k : Nat) (v : Value) (n : Nat) (xs : List Value) : Prop :=
  (∃ q, v = .slice q n n ∧ (q = none → n = 0) ∧ xs.length = n * k ∧ ∀ b, q = some b → ∀ j u, xs[j]? = some u → b.block < base ∧ w.cell? (b.add j) = some u) ∨ w.ownsRow base E k v n xs

theorem owns_on {w w' : World} {base E k n : Nat} {v : Value} {xs : List Value} (h : w.ownsRow base E k v n xs) {B : Nat} (hb : Below B w w') (hB : w.heap.size ≤ B) : w'.ownsRow base E k v n xs := by
  obtain ⟨h1, h2⟩ := h
  refine ⟨h1, ?_⟩
  rcases h2 with h2 | ⟨g, cap, cur, h3, h4, h5, h6⟩
  · exact .inl h2
  · refine .inr ⟨g, cap, cur, h3, h4, ?_, h6⟩
    have hlt : g < w.heap.size := by
      rcases Nat.lt_or_ge g w.heap.size with h' | h'
      · exact h'
      · rw [Array.getElem?_eq_none h'] at h5; cases h5
    rw [hb.block g (by omega)]; exact h5
theorem addr_add_block (b : Addr) (j : Nat) : (b.add j).block = b.block := by
  unfold Addr.add; split <;> rfl
theorem Grw.on {w w' : World} {base E k n : Nat} {v : Value} {xs : List Value} (h : Grw w base E k v n xs) (hbase : base ≤ w.heap.size) (hb : Below w.heap.size w w') : Grw w' base E k v n xs := by
  rcases h with ⟨q, h1, h2, h3, h4⟩ | h
  · refine .inl ⟨q, h1, h2, h3, fun b hq j u hu => ?_⟩
    obtain ⟨x, y⟩ := h4 b hq j u hu
    refine ⟨x, ?_⟩
    rw [hb.cell (p := b.add j) (by rw [addr_add_block]; omega)]; exact y
  · exact .inr (owns_on h hb (Nat.le_refl _))
theorem Grw.set {w : World} {base E k n : Nat} {v : Value} {xs : List Value} (h : Grw w base E k v n xs) {B : Nat} (hB : B < base) (hfar : ∀ b, v = .slice (some b) n n → b.block ≠ B) (o : Nat) (u : Value) : Grw (w.setCell ⟨B, o, none⟩ u) base E k v n xs := by
  rcases h with ⟨q, h1, h2, h3, h4⟩ | h
  · refine .inl ⟨q, h1, h2, h3, fun b hq j x hx => ?_⟩
    obtain ⟨y, z⟩ := h4 b hq j x hx
    refine ⟨y, ?_⟩
    have hne : b.block ≠ B := hfar b (by rw [h1, hq])
    rw [World.cell?_of_block (w := w) (Below.heap_setCell w ⟨B, o, none⟩ u _ (by rw [addr_add_block]; exact hne))]
    exact z
  · exact .inr (ownsRow_setCell_below h (a := ⟨B, o, none⟩) hB u)
theorem Grw.drew {w : World} {base E k n : Nat} {v : Value} {xs : List Value} (h : Grw w base E k v n xs) (hbase : base ≤ w.heap.size) : Grw w.drew base E k v n xs := h.on hbase (Below.refl _ _).drew

theorem run_append_grw {P : Program} (w : World) (t ty : TypeId) (base : Nat) (e : TypeId) (i : TypeInfo) (z : Value) (size bytes : Nat) (ht : P.underlying t = some (.slice e)) (hi : P.info? e = some i) (hz : i.zero = some z)
    (hsize : i.size = size) (hby : i.bytes = bytes) (hzs : z.cells.size = size) (hsz : 0 < size)
    (v : Value) (n : Nat) (xs : List Value) (hG : Grw w base e size v n xs)
    (ad : Addr) (m c : Nat) (news : List Value) (hl : news.length = m * size) (hnews : ∀ j u, news[j]? = some u → w.cell? (ad.add j) = some u) (h1 : ∀ u ∈ news, u.oneCell' = true)
    (hm : 0 < m) (h63 : n + m ≤ maxLen) (hbytes : (n + m) * bytes ≤ 140737488355328) (hbase : base ≤ w.heap.size) :
    ∃ g cap w', (Builtin.append_ #[t, t] ty #[v, .slice (some ad) m c]).run P w = .ok (.slice (some ⟨g, 0, none⟩) (n + m) cap) w' ∧
      w'.ownsRow base e size (.slice (some ⟨g, 0, none⟩) (n + m) cap) (n + m) (xs ++ news) ∧ Below base w w' ∧ base ≤ g ∧ g < w'.heap.size := by
  rcases hG with ⟨q, rfl, h2, h3, h4⟩ | hown
  · cases q with
    | none =>
      obtain rfl := h2 rfl
      obtain rfl : xs = [] := List.eq_nil_of_length_eq_zero (by simpa using h3)
      obtain ⟨g, cap, w', hr, ho, hg, hat, hlt⟩ := run_append_lies (P := P) w t ty base e i z size bytes ht hi hz hsize hby hzs hsz (.slice none 0 0) 0 [] (World.ownsRow_nil _ _ _ _) ad m c news hl hnews h1 hm h63 hbytes hbase w.heap.size rfl
      have hgg : g = w.heap.size := by rcases hat with h | h; · simp [Value.ownBlock] at h
                                       · exact h
      exact ⟨g, cap, w', hr, ho, (Below.refl _ _).grown hg hbase (fun k hk => by simp [Value.ownBlock] at hk), by omega, hlt⟩
    | some b =>
      obtain ⟨v', w', hr, ho, hg⟩ := run_append_arg_grows (P := P) w t ty e i z size bytes ht hi hz hsize hby hzs hsz b n n xs h3 (fun j u hu => (h4 b rfl j u hu).2) ad m c news hl hnews (by omega) h63 hbytes
      obtain ⟨g, cap, rfl, hge, hlt⟩ := ho.form (by omega)
      refine ⟨g, cap, w', hr, ?_, (Below.refl _ _).grown hg hbase (fun k hk => by cases hk), by omega, hlt⟩
      obtain ⟨o1, o2⟩ := ho
      refine ⟨o1, ?_⟩
      rcases o2 with o2 | ⟨g', cap', cur, o3, o4, o5⟩
      · exact .inl o2
      · exact .inr ⟨g', cap', cur, o3, by omega, o5⟩
  · obtain ⟨g, cap, w', hr, ho, hg, hat, hlt⟩ := run_append_lies (P := P) w t ty base e i z size bytes ht hi hz hsize hby hzs hsz v n xs hown ad m c news hl hnews h1 hm h63 hbytes hbase w.heap.size rfl
    have hgb : base ≤ g := by
      rcases hat with h | h
      · exact (hown.lt g h).1
      · omega
    exact ⟨g, cap, w', hr, ho, (Below.refl _ _).grown hg hbase (fun k hk => (hown.lt k hk).1), hgb, hlt⟩

theorem wp_append_grw {P : Program} {w : World} {o : Oper} {a : Act} {K : Act → World → Prop} {Q : Exit → Act → World → Prop} (s x : Operand) (t : TypeId)
    (ho : o.op = .call { callee := .builtin .append, args := #[s, x], argTypes := #[t, t] })
    (base : Nat) (e : TypeId) (i : TypeInfo) (z : Value) (size bytes : Nat) (ht : P.underlying t = some (.slice e)) (hi : P.info? e = some i) (hz : i.zero = some z)
    (hsize : i.size = size) (hby : i.bytes = bytes) (hzs : z.cells.size = size) (hsz : 0 < size)
    (v : Value) (n : Nat) (xs : List Value) (hs : a.eval s = v) (hG : Grw w base e size v n xs)
    (ad : Addr) (m c : Nat) (news : List Value) (hx : a.eval x = .slice (some ad) m c) (hl : news.length = m * size) (hnews : ∀ j u, news[j]? = some u → w.cell? (ad.add j) = some u) (h1 : ∀ u ∈ news, u.oneCell' = true)
    (hm : 0 < m) (h63 : n + m ≤ maxLen) (hbytes : (n + m) * bytes ≤ 140737488355328) (hbase : base ≤ w.heap.size)
    (h : ∀ g cap w', w'.ownsRow base e size (.slice (some ⟨g, 0, none⟩) (n + m) cap) (n + m) (xs ++ news) → Below base w w' → base ≤ g → g < w'.heap.size → K (a.put o.dst (.slice (some ⟨g, 0, none⟩) (n + m) cap)) w') : o.wp P a w K Q := by
  obtain ⟨g, cap, w', hr, h2, h3, h4, h5⟩ := run_append_grw (P := P) w t o.type base e i z size bytes ht hi hz hsize hby hzs hsz v n xs hG ad m c news hl hnews h1 hm h63 hbytes hbase
  unfold Oper.wp execOp
  simp only [ho, resolve, invoke, builtin, Sem.run_bind, Sem.run_pure, Result.andThen_ok, List.map_toArray, List.map_cons, List.map_nil, hs, hx, hr]
  exact h g cap w' h2 h3 h4 h5

theorem wpList_append_grw {P : Program} {w : World} {ops : Array Oper} {rest : List Oper} {o : Oper} {a : Act} {Q : Exit → Act → World → Prop} (hgd : o.guard = none) (s x : Operand) (t : TypeId)
    (ho : o.op = .call { callee := .builtin .append, args := #[s, x], argTypes := #[t, t] })
    (base : Nat) (e : TypeId) (i : TypeInfo) (z : Value) (size bytes : Nat) (ht : P.underlying t = some (.slice e)) (hi : P.info? e = some i) (hz : i.zero = some z)
    (hsize : i.size = size) (hby : i.bytes = bytes) (hzs : z.cells.size = size) (hsz : 0 < size)
    (v : Value) (n : Nat) (xs : List Value) (hs : a.eval s = v) (hG : Grw w base e size v n xs)
    (ad : Addr) (m c : Nat) (news : List Value) (hx : a.eval x = .slice (some ad) m c) (hl : news.length = m * size) (hnews : ∀ j u, news[j]? = some u → w.cell? (ad.add j) = some u) (h1 : ∀ u ∈ news, u.oneCell' = true)
    (hm : 0 < m) (h63 : n + m ≤ maxLen) (hbytes : (n + m) * bytes ≤ 140737488355328) (hbase : base ≤ w.heap.size)
    (h : ∀ g cap w', w'.ownsRow base e size (.slice (some ⟨g, 0, none⟩) (n + m) cap) (n + m) (xs ++ news) → Below base w w' → base ≤ g → g < w'.heap.size → wpList P ops Q rest (a.put o.dst (.slice (some ⟨g, 0, none⟩) (n + m) cap)) w') : wpList P ops Q (o :: rest) a w :=
  wpList_plain hgd fun _ hK => wp_append_grw s x t ho base e i z size bytes ht hi hz hsize hby hzs hsz v n xs hs hG ad m c news hx hl hnews h1 hm h63 hbytes hbase fun g cap w' h2 h3 h4 h5 => hK _ _ (h g cap w' h2 h3 h4 h5)

theorem step_append_grw {P : Program} {w : World} {ops : Array Oper} {o : Oper} {a : Act} {K : Act → World → Prop} {Q : Exit → Act → World → Prop} {E : Prop} (hgd : o.guard = none) (s x : Operand) (t : TypeId)
    (ho : o.op = .call { callee := .builtin .append, args := #[s, x], argTypes := #[t, t] })
    (base : Nat) (e : TypeId) (i : TypeInfo) (z : Value) (size bytes : Nat) (ht : P.underlying t = some (.slice e)) (hi : P.info? e = some i) (hz : i.zero = some z)
    (hsize : i.size = size) (hby : i.bytes = bytes) (hzs : z.cells.size = size) (hsz : 0 < size)
    (v : Value) (n : Nat) (xs : List Value) (hs : a.eval s = v) (hG : Grw w base e size v n xs)
    (ad : Addr) (m c : Nat) (news : List Value) (hx : a.eval x = .slice (some ad) m c) (hl : news.length = m * size) (hnews : ∀ j u, news[j]? = some u → w.cell? (ad.add j) = some u) (h1 : ∀ u ∈ news, u.oneCell' = true)
    (hm : 0 < m) (h63 : n + m ≤ maxLen) (hbytes : (n + m) * bytes ≤ 140737488355328) (hbase : base ≤ w.heap.size)
    (h : ∀ g cap w', w'.ownsRow base e size (.slice (some ⟨g, 0, none⟩) (n + m) cap) (n + m) (xs ++ news) → Below base w w' → base ≤ g → g < w'.heap.size → K (a.put o.dst (.slice (some ⟨g, 0, none⟩) (n + m) cap)) w') :
    if Region.wanted o (yielded ops a.tmps) = true then Oper.wp P o a w K Q else E := by
  have hw : Region.wanted o (yielded ops a.tmps) = true := by simp [Region.wanted, hgd]
  rw [if_pos hw]
  exact wp_append_grw s x t ho base e i z size bytes ht hi hz hsize hby hzs hsz v n xs hs hG ad m c news hx hl hnews h1 hm h63 hbytes hbase h

/-- append onto an empty list without room of its own, of any slice: a copy. -/
theorem run_append_none {P : Program} (w : World) (t ty e : TypeId) (i : TypeInfo) (ht : P.underlying t = some (.slice e)) (hi : P.info? e = some i) (p q : Option Addr) (d c : Nat) : (Builtin.append_ #[t, t] ty #[.slice p 0 d, .slice q 0 c]).run P w = .ok (.slice p 0 d) w := by
  cases p <;> cases q <;> simp [Builtin.append_, run_underlying ht, sizeOf, typeInfo, hi, Builtin.lenOf, Builtin.firstCells, loadCells, loadCellsFrom, storeCells, Result.andThen]

theorem wp_copyE {P : Program} {w : World} {α : Type} {enc : α → List Value} {size : Nat} (E : Enc enc size) {o : Oper} {a : Act} {K : Act → World → Prop} {Q : Exit → Act → World → Prop} (s x : Operand) (t : TypeId)
    (ho : o.op = .call { callee := .builtin .append, args := #[s, x], argTypes := #[t, t] })
    (base : Nat) (e : TypeId) (i : TypeInfo) (z : Value) (bytes : Nat) (ht : P.underlying t = some (.slice e)) (hi : P.info? e = some i) (hz : i.zero = some z)
    (hsize : i.size = size) (hby : i.bytes = bytes) (hzs : z.cells.size = size)
    (p : Option Addr) (d : Nat) (hs : a.eval s = .slice p 0 d) (hG : Grw w base e size (.slice p 0 d) 0 [])
    (q : Option Addr) (l : List α) (c : Nat) {B0 : Nat} (hx : a.eval x = .slice q l.length c) (hr : Rd enc size w B0 q l)
    (h63 : l.length ≤ maxLen) (hbytes : l.length * bytes ≤ 140737488355328) (hbase : base ≤ w.heap.size)
    (h : ∀ p' cap w', w'.ownsRow base e size (.slice p' l.length cap) l.length (flatE enc l) ∨ l = [] → Rd enc size w' w'.heap.size p' l → (l = [] → p' = p ∧ cap = d ∧ w' = w) → Below base w w' → K (a.put o.dst (.slice p' l.length cap)) w') : o.wp P a w K Q := by
  rcases Nat.eq_zero_or_pos l.length with h0 | h0
  · have he : l = [] := List.length_eq_zero_iff.1 h0
    subst he
    have hrun := run_append_none (P := P) w t o.type e i ht hi p q d c
    unfold Oper.wp execOp
    simp only [List.length_nil] at hx
    simp only [ho, resolve, invoke, builtin, Sem.run_bind, Sem.run_pure, Result.andThen_ok, List.map_toArray, List.map_cons, List.map_nil, hs, hx, hrun]
    exact h p d w (.inr rfl) .nil (fun _ => ⟨rfl, rfl, rfl⟩) (Below.refl _ _)
  · obtain ⟨b, off, rfl, _, _⟩ := hr.at 0 h0
    refine wp_append_grw s x t ho base e i z size bytes ht hi hz hsize hby hzs E.pos _ 0 [] hs hG ⟨b, off, none⟩ l.length c (flatE enc l) hx (flatE_length E l) (flatE_cells E h0 hr) (flatE_one E l) h0 (by omega) (by rw [Nat.zero_add]; exact hbytes) hbase ?_
    intro g cap w' h2 h3 h4 h5
    rw [Nat.zero_add] at h2 ⊢
    rw [List.nil_append] at h2
    exact h _ cap w' (.inl h2) (rd_of_owns E h5 h2) (fun hl => by subst hl; simp at h0) h3

theorem wpList_copyE {P : Program} {w : World} {α : Type} {enc : α → List Value} {size : Nat} (E : Enc enc size) {ops : Array Oper} {rest : List Oper} {o : Oper} {a : Act} {Q : Exit → Act → World → Prop} (hgd : o.guard = none) (s x : Operand) (t : TypeId)
    (ho : o.op = .call { callee := .builtin .append, args := #[s, x], argTypes := #[t, t] })
    (base : Nat) (e : TypeId) (i : TypeInfo) (z : Value) (bytes : Nat) (ht : P.underlying t = some (.slice e)) (hi : P.info? e = some i) (hz : i.zero = some z)
    (hsize : i.size = size) (hby : i.bytes = bytes) (hzs : z.cells.size = size)
    (p : Option Addr) (d : Nat) (hs : a.eval s = .slice p 0 d) (hG : Grw w base e size (.slice p 0 d) 0 [])
    (q : Option Addr) (l : List α) (c : Nat) {B0 : Nat} (hx : a.eval x = .slice q l.length c) (hr : Rd enc size w B0 q l)
    (h63 : l.length ≤ maxLen) (hbytes : l.length * bytes ≤ 140737488355328) (hbase : base ≤ w.heap.size)
    (h : ∀ p' cap w', w'.ownsRow base e size (.slice p' l.length cap) l.length (flatE enc l) ∨ l = [] → Rd enc size w' w'.heap.size p' l → (l = [] → p' = p ∧ cap = d ∧ w' = w) → Below base w w' → wpList P ops Q rest (a.put o.dst (.slice p' l.length cap)) w') : wpList P ops Q (o :: rest) a w :=
  wpList_plain hgd fun _ hK => wp_copyE E s x t ho base e i z bytes ht hi hz hsize hby hzs p d hs hG q l c hx hr h63 hbytes hbase fun p' cap w' h1 h2 h3 h4 => hK _ _ (h p' cap w' h1 h2 h3 h4)

theorem step_copyE {P : Program} {w : World} {α : Type} {enc : α → List Value} {size : Nat} (E : Enc enc size) {ops : Array Oper} {o : Oper} {a : Act} {K : Act → World → Prop} {Q : Exit → Act → World → Prop} {R : Prop} (hgd : o.guard = none) (s x : Operand) (t : TypeId)
    (ho : o.op = .call { callee := .builtin .append, args := #[s, x], argTypes := #[t, t] })
    (base : Nat) (e : TypeId) (i : TypeInfo) (z : Value) (bytes : Nat) (ht : P.underlying t = some (.slice e)) (hi : P.info? e = some i) (hz : i.zero = some z)
    (hsize : i.size = size) (hby : i.bytes = bytes) (hzs : z.cells.size = size)
    (p : Option Addr) (d : Nat) (hs : a.eval s = .slice p 0 d) (hG : Grw w base e size (.slice p 0 d) 0 [])
    (q : Option Addr) (l : List α) (c : Nat) {B0 : Nat} (hx : a.eval x = .slice q l.length c) (hr : Rd enc size w B0 q l)
    (h63 : l.length ≤ maxLen) (hbytes : l.length * bytes ≤ 140737488355328) (hbase : base ≤ w.heap.size)
    (h : ∀ p' cap w', w'.ownsRow base e size (.slice p' l.length cap) l.length (flatE enc l) ∨ l = [] → Rd enc size w' w'.heap.size p' l → (l = [] → p' = p ∧ cap = d ∧ w' = w) → Below base w w' → K (a.put o.dst (.slice p' l.length cap)) w') :
    if Region.wanted o (yielded ops a.tmps) = true then Oper.wp P o a w K Q else R := by
  have hw : Region.wanted o (yielded ops a.tmps) = true := by simp [Region.wanted, hgd]
  rw [if_pos hw]
  exact wp_copyE E s x t ho base e i z bytes ht hi hz hsize hby hzs p d hs hG q l c hx hr h63 hbytes hbase h

/-- a row that was just made, and nil, may be appended to -/
theorem grw_made {w : World} {base E k : Nat} (hb : base ≤ w.heap.size) : Grw (w.alloc (.cells #[] E)) base E k (.slice (some ⟨w.heap.size, 0, none⟩) 0 0) 0 [] :=
  .inr (World.ownsRow_made w #[] 0 hb (by decide) (by simp))
theorem grw_nil {w : World} {base E k : Nat} : Grw w base E k (.slice none 0 0) 0 [] := .inr (World.ownsRow_nil _ _ _ _)
theorem grw_form {α : Type} {enc : α → List Value} {k : Nat} (F : Enc enc k) {w : World} {base E : Nat} {v : Value} {l : List α} (h : Grw w base E k v l.length (flatE enc l)) (hbase : base ≤ w.heap.size) :
    ∃ q c, v = .slice q l.length c ∧ Rd enc k w w.heap.size q l ∧ (q = none → l = []) := by
  rcases h with ⟨q, rfl, h2, h3, h4⟩ | h
  · refine ⟨q, l.length, rfl, ?_, fun hq => List.length_eq_zero_iff.1 (h2 hq)⟩
    rcases Nat.eq_zero_or_pos l.length with h0 | h0
    · exact .inl (List.length_eq_zero_iff.1 h0)
    · have hk := F.pos
      have hlen := flatE_length F l
      cases q with
      | none => have := h2 rfl; omega
      | some b =>
        have hp : 0 < (flatE enc l).length := by rw [hlen]; exact Nat.mul_pos h0 hk
        obtain ⟨x, y⟩ := h4 b rfl 0 _ (List.getElem?_eq_getElem hp)
        obtain ⟨b, o, sp⟩ := b
        have hsp : sp = none := by simpa [Addr.add] using World.cell?_spot y
        subst hsp
        refine .inr ⟨b, o, rfl, Nat.lt_of_lt_of_le x hbase, fun i hi r u hu => ?_⟩
        have hr : r < k := by rw [← F.len l[i]]; exact (List.getElem?_eq_some_iff.1 hu).1
        have := (h4 _ rfl (i * k + r) u (by rw [flatE_get F l i hi r hr, hu])).2
        rw [Addr.add_lit] at this
        rw [Nat.add_assoc]; exact this
  · rcases Nat.eq_zero_or_pos l.length with h0 | h0
    · have he : l = [] := List.length_eq_zero_iff.1 h0
      subst he
      rcases h.2 with ⟨rfl, _⟩ | ⟨g, cap, cur, hv, _⟩
      · exact ⟨none, 0, rfl, .nil, fun _ => rfl⟩
      · exact ⟨_, cap, hv, .nil, fun _ => rfl⟩
    · obtain ⟨g, cap, rfl, hge, hlt⟩ := h.form h0
      exact ⟨_, cap, rfl, rd_of_owns F hlt h, fun hq => by cases hq⟩
/-- a slice without spare room, of anybody's -/
theorem grw_clip {α : Type} {enc : α → List Value} {k : Nat} (F : Enc enc k) {w : World} {B base E : Nat} {q : Option Addr} {l : List α} (h : Rd enc k w B q l) (hq : q = none → l = []) (hB : B ≤ base) : Grw w base E k (.slice q l.length l.length) l.length (flatE enc l) := by
  refine .inl ⟨q, rfl, fun e => by rw [hq e]; rfl, flatE_length F l, fun b hb j u hu => ?_⟩
  subst hb
  rcases Nat.eq_zero_or_pos l.length with h0 | h0
  · have he : l = [] := List.length_eq_zero_iff.1 h0
    subst he; simp [flatE] at hu
  · obtain ⟨b', o, he, hlt, _⟩ := h.at 0 h0
    cases he
    exact ⟨Nat.lt_of_lt_of_le hlt hB, flatE_cells F h0 h j u hu⟩
end Go.Proofs.YtfmkfabbiifolaaGreatDoor

/-
  The parser in memory; what its methods leave as it was. Contract: parser.kind.
-/
namespace Go.Proofs.YtfmkfabbiifolaaGreatDoor
open Go.RowKit

/-- What a call may have turned of what was there: one block. -/
structure Only (pb : Nat) (w w' : World) : Prop where
  os : w'.os = w.os
  tape : w'.tape = w.tape
  output : w'.output = w.output
  size : w.heap.size ≤ w'.heap.size
  block : ∀ k, k < w.heap.size → k ≠ pb → w'.heap[k]? = w.heap[k]?
theorem Only.refl (pb : Nat) (w : World) : Only pb w w := ⟨rfl, rfl, rfl, Nat.le_refl _, fun _ _ _ => rfl⟩
theorem Only.trans {pb : Nat} {a b c : World} (h : Only pb a b) (k : Only pb b c) : Only pb a c :=
  ⟨k.os.trans h.os, k.tape.trans h.tape, k.output.trans h.output, Nat.le_trans h.size k.size, fun i hi hn => (k.block i (Nat.lt_of_lt_of_le hi h.size) hn).trans (h.block i hi hn)⟩
theorem Only.of {pb : Nat} {w w' : World} (h : Below w.heap.size w w') : Only pb w w' := ⟨h.os, h.tape, h.output, h.size, fun k hk _ => h.block k hk⟩
theorem Only.below {pb : Nat} {w w' : World} (h : Only pb w w') (hp : pb ≤ w.heap.size) : Below pb w w' := ⟨h.os, h.tape, h.output, h.size, fun k hk => h.block k (by omega) (by omega)⟩
theorem Only.set (pb : Nat) (w : World) (o : Nat) (u : Value) : Only pb w (w.setCell ⟨pb, o, none⟩ u) :=
  ⟨rfl, rfl, rfl, by simp [World.setCell], fun k _ hn => Below.heap_setCell w ⟨pb, o, none⟩ u k hn⟩
theorem Only.frozen {pb : Nat} {w w' : World} (h : Only pb w w') {b o : Nat} (hb : b < w.heap.size) (hn : b ≠ pb) : w'.frozen? ⟨b, o, none⟩ = w.frozen? ⟨b, o, none⟩ := World.frozen?_of_block (w := w) (h.block b hb hn)
theorem Only.add {pb : Nat} {w a b : World} (h : Only pb w a) (k : Below w.heap.size a b) : Only pb w b :=
  ⟨k.os.trans h.os, k.tape.trans h.tape, k.output.trans h.output, Nat.le_trans h.size k.size, fun i hi hn => (k.block i hi).trans (h.block i hi hn)⟩
theorem Only.cell {pb : Nat} {w w' : World} (h : Only pb w w') {b o : Nat} (hb : b < w.heap.size) (hn : b ≠ pb) : w'.cell? ⟨b, o, none⟩ = w.cell? ⟨b, o, none⟩ := World.cell?_of_block (w := w) (h.block b hb hn)

theorem ET : Enc encT 3 := ⟨fun _ => rfl, by decide, fun a u hu => by simp [encT] at hu; rcases hu with rfl | rfl | rfl <;> rfl⟩
theorem rdT_at {w : World} {B : Nat} {p : Option Addr} {l : List Tok} (h : Rd encT 3 w B p l) (i : Nat) (hi : i < l.length) : ∃ b o, p = some ⟨b, o, none⟩ ∧ b < B ∧ w.cell? ⟨b, o + i * 3, none⟩ = some (.int .u8 l[i].kind) ∧ w.cell? ⟨b, o + i * 3 + 1, none⟩ = some (.int .i64 l[i].fr) ∧ w.cell? ⟨b, o + i * 3 + 2, none⟩ = some (.int .i64 l[i].to) := by
  obtain ⟨b, o, rfl, hb, hc⟩ := h.at i hi
  exact ⟨b, o, rfl, hb, hc 0 _ rfl, hc 1 _ rfl, hc 2 _ rfl⟩

def EnvB (B : Nat) (w : World) : Prop := ∀ w', Below B w w' → Env w'
theorem EnvB.on {B : Nat} {w w' : World} (h : EnvB B w) (hb : Below B w w') : EnvB B w' := fun w'' h' => h w'' (hb.trans h')
theorem EnvB.env {B : Nat} {w : World} (h : EnvB B w) : Env w := h w (Below.refl _ _)
/-- a text and its tokens -/
structure Srcs (s : ByteArray) (ts : List Tok) : Prop where
  size : s.size ≤ 4096
  len : ts.length ≤ 4096
  pos : ∀ t ∈ ts, 0 ≤ t.fr ∧ t.fr ≤ t.to ∧ t.to ≤ s.size
def PBox (w : World) (pb : Nat) (s : ByteArray) (q : Option Addr) (n c k : Nat) : Prop := w.heap[pb]? = some (.cells #[.string s, .slice q n c, .int .i64 (k : Int)] 143 (0, 0))
/-- The parser lies at block pb: its text, its tokens, and that the k-th is next. -/
structure Ps (w : World) (pb : Nat) (s : ByteArray) (q : Option Addr) (c : Nat) (ts : List Tok) (k : Nat) : Prop where
  box : PBox w pb s q ts.length c k
  rd : Rd encT 3 w pb q ts
  le : k ≤ ts.length
  src : Srcs s ts
  env : EnvB pb w
section
variable {w : World} {pb : Nat} {s : ByteArray} {q : Option Addr} {c : Nat} {ts : List Tok} {k : Nat}
theorem Ps.lt (h : Ps w pb s q c ts k) : pb < w.heap.size := (Array.getElem?_eq_some_iff.1 h.box).1
theorem Ps.on' {w' : World} (h : Ps w pb s q c ts k) (hb : Below (pb + 1) w w') : Ps w' pb s q c ts k :=
  ⟨(hb.block pb (Nat.lt_succ_self _)).trans h.box, h.rd.below hb (Nat.le_succ _), h.le, h.src, h.env.on (hb.mono (Nat.le_succ _))⟩
theorem Ps.on {w' : World} (h : Ps w pb s q c ts k) (hb : Below w.heap.size w w') : Ps w' pb s q c ts k :=
  ⟨(hb.block pb h.lt).trans h.box, h.rd.below hb (Nat.le_of_lt h.lt), h.le, h.src, h.env.on (hb.mono (Nat.le_of_lt h.lt))⟩
theorem Ps.c0 (h : Ps w pb s q c ts k) : w.cell? ⟨pb, 0, none⟩ = some (.string s) := by simp [World.cell?, show w.heap[pb]? = _ from h.box]
theorem Ps.c1 (h : Ps w pb s q c ts k) : w.cell? ⟨pb, 1, none⟩ = some (.slice q ts.length c) := by simp [World.cell?, show w.heap[pb]? = _ from h.box]
theorem Ps.c2 (h : Ps w pb s q c ts k) : w.cell? ⟨pb, 2, none⟩ = some (.int .i64 k) := by simp [World.cell?, show w.heap[pb]? = _ from h.box]
theorem Ps.f2 (h : Ps w pb s q c ts k) : w.frozen? ⟨pb, 2, none⟩ = false := by simp [World.frozen?, show w.heap[pb]? = _ from h.box]
theorem Ps.set (h : Ps w pb s q c ts k) (k' : Nat) (hk : k' ≤ ts.length) : Ps (w.setCell ⟨pb, 2, none⟩ (.int .i64 k')) pb s q c ts k' := by
  have hb : Below pb w (w.setCell ⟨pb, 2, none⟩ (.int .i64 k')) := (Below.refl pb w).setCell (p := ⟨pb, 2, none⟩) (Nat.le_refl _) _
  refine ⟨?_, h.rd.below hb (Nat.le_refl _), hk, h.src, h.env.on hb⟩
  have hx := h.box
  unfold PBox at hx ⊢
  obtain ⟨hlt, hv⟩ := Array.getElem?_eq_some_iff.1 hx
  show (w.heap.modify pb _)[pb]? = _
  rw [Array.getElem?_eq_getElem (by rw [Array.size_modify]; exact hlt), Array.getElem_modify_self, hv]
  rfl
end
/-- the kind of the token that is next, 0 behind the last one -/
def kindAt (ts : List Tok) (k : Nat) : Int := ((ts[k]?).map (·.kind)).getD 0

set_option maxHeartbeats 1000000 in
theorem pkind_any (w : World) (pb : Nat) (s : ByteArray) (q : Option Addr) (c : Nat) (ts : List Tok) (k : Nat) (h : Ps w pb s q c ts k) :
    Calls Tryz.prog 118 #[.pointer (some ⟨pb, 0, none⟩)] w fun e w' => e = .returned (.int .u8 (kindAt ts k)) ∧ Below w.heap.size w w' := by
  have c1 := h.c1
  have c2 := h.c2
  have hpb := h.lt
  have hle := h.le
  have hl := h.src.len
  have HB := Lib.hid (Below.refl w.heap.size w)
  by_cases hk : k = ts.length
  · have HK := Lib.hid (show kindAt ts k = 0 by unfold kindAt; rw [List.getElem?_eq_none (by omega)]; rfl)
    have he : ((k : Int) == (ts.length : Int)) = true := by simp; omega
    clear h hle
    go_enter Tryz.func118, Tryz.ntmps118
    go_wp2_with fail
    go_quiet (fail)
    go_wp2_with fail
    go_ret
    exact ⟨by rw [HK.out]; rfl, below_drewN' HB.out _⟩
  · have hlt : k < ts.length := by omega
    have HK := Lib.hid (show kindAt ts k = ts[k].kind by unfold kindAt; rw [List.getElem?_eq_getElem hlt]; rfl)
    have he : ((k : Int) == (ts.length : Int)) = false := by simp; omega
    obtain ⟨b, o, rfl, hb, x0, x1, x2⟩ := rdT_at h.rd k hlt
    clear h hle x1 x2
    go_enter Tryz.func118, Tryz.ntmps118
    go_wp2_with fail
    go_quiet (fail)
    go_wp2_with fail
    go_quiet (fail)
    go_wp2_with fail
    go_ret
    exact ⟨by rw [HK.out]; rfl, below_drewN' (below_drewN' HB.out _) _⟩
end Go.Proofs.YtfmkfabbiifolaaGreatDoor
