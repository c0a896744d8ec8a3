/-
  Evaluation of closed calls: slices of slices, append, copy.
-/
import Derived.Test.YtcganjggdkcfhaaGe4
set_option linter.unusedVariables false
set_option linter.unusedSimpArgs false
namespace Go.Ge

section
variable {P : Program} {μ : Mu} {h : Heap} {w : World} {id nx : Nat}

inductive OR (μ : Mu) : Option Value → Option Value → Prop
  | none : OR μ none none
  | some {v v' : Value} : VR μ v v' → OR μ (some v) (some v')
def bnd (v : Option Value) (d : Nat) : Option Nat :=
  match v with
  | none => some d
  | some (.int _ i) => if 0 ≤ i then some i.toNat else none
  | some _ => none
theorem bnd_eq {v v' : Option Value} {d n : Nat} (hv : OR μ v v') (hb : bnd v d = some n) : v' = v := by
  cases hv with
  | none => rfl
  | some hx =>
    rename_i a b
    cases a <;> simp [bnd] at hb
    rw [hx.eq_of_dat rfl]
theorem sliceBound_run {v : Value} {d n y : Nat} {code : BoundsCode} (hb : bnd (some v) d = some n) (hn : n ≤ y) (w : World) : (Instr.sliceBound v y code).run P w = .ok n w := by
  cases v <;> simp [bnd] at hb
  obtain ⟨h0, rfl⟩ := hb
  have : ∀ i : Int, 0 ≤ i → i.toNat ≤ y → i ≤ (y : Int) := fun i a b => by omega
  simp [Instr.sliceBound, asIntOf, h0, this _ h0 hn]
theorem bounds_run {isSlice : Bool} {len cap l hh m : Nat} {lo hi mx : Option Value} (h1 : bnd mx cap = some m) (h2 : bnd hi len = some hh) (h3 : bnd lo 0 = some l) (h4 : m ≤ cap) (h5 : hh ≤ m) (h6 : l ≤ hh) (h7 : mx.isSome = true → hi.isSome = true) (w : World) :
    (Instr.sliceBounds isSlice len cap lo hi mx).run P w = .ok (l, hh, m) w := by
  cases mx with
  | none =>
    cases h1
    cases hi with
    | none =>
      cases h2
      cases lo with
      | none => cases h3; simp [Instr.sliceBounds]
      | some lo => simp [Instr.sliceBounds, sliceBound_run h3 h6]
    | some hi =>
      cases lo with
      | none => cases h3; simp [Instr.sliceBounds, sliceBound_run h2 h5]
      | some lo => simp [Instr.sliceBounds, sliceBound_run h2 h5, sliceBound_run h3 h6]
  | some mx =>
    cases hi with
    | none => simp at h7
    | some hi =>
      cases lo with
      | none => cases h3; simp [Instr.sliceBounds, sliceBound_run h1 h4, sliceBound_run h2 h5]
      | some lo => simp [Instr.sliceBounds, sliceBound_run h1 h4, sliceBound_run h2 h5, sliceBound_run h3 h6]

def aSlice (P : Program) (h : Heap) (t : TypeId) (x : Value) (lo hi mx : Option Value) : Option Value :=
  match P.underlying t, x with
  | some .string, .string s =>
    match mx, bnd hi s.size, bnd lo 0 with
    | none, some hh, some l => if hh ≤ s.size ∧ l ≤ hh then some (.string (s.extract l hh)) else none
    | _, _, _ => none
  | some (.array n e), .pointer (some ⟨b, o, none⟩) =>
    match P.info? e, bnd mx n, bnd hi n, bnd lo 0 with
    | some ie, some m, some hh, some l => if m ≤ n ∧ hh ≤ m ∧ l ≤ hh ∧ (mx.isSome = true → hi.isSome = true) then some (.slice (some ⟨b, if m = l then o else o + l * ie.size, none⟩) (hh - l) (m - l)) else none
    | _, _, _, _ => none
  | some (.slice e), .slice none len cap =>
    match P.info? e, bnd mx cap, bnd hi len, bnd lo 0 with
    | some ie, some m, some hh, some l => if m ≤ cap ∧ hh ≤ m ∧ l ≤ hh ∧ (mx.isSome = true → hi.isSome = true) then some (.slice none (hh - l) (m - l)) else none
    | _, _, _, _ => none
  | some (.slice e), .slice (some ⟨b, o, none⟩) len cap =>
    match P.info? e, bnd mx cap, bnd hi len, bnd lo 0 with
    | some ie, some m, some hh, some l => if m ≤ cap ∧ hh ≤ m ∧ l ≤ hh ∧ (mx.isSome = true → hi.isSome = true) then some (.slice (some ⟨b, if m = l then o else o + l * ie.size, none⟩) (hh - l) (m - l)) else none
    | _, _, _, _ => none
  | some (.slice e), .slice (some ⟨b, o, some k⟩) len 0 =>
    match P.info? e, h.get b with
    | some ie, some (.cells c _ (some s)) =>
      if s = ie.size ∧ k * s = o ∧ s ≠ 0 then
        match mx with
        | none => match bnd hi len, bnd lo 0 with
          | some hh, some l =>
            if l ≤ hh ∧ o + hh * s ≤ c.length then
              (if o + l * s < c.length then some (.slice (some ⟨b, o + l * s, some (k + l)⟩) (hh - l) 0) else if hh = l then some (.slice (some ⟨0, 0, some 0⟩) 0 1) else none)
            else none
          | _, _ => none
        | some m' => match bnd (some m') 0, bnd hi 0, bnd lo 0 with
          | some m, some hh, some l => if l ≤ hh ∧ hh ≤ m ∧ o + m * s ≤ c.length ∧ hi.isSome = true then some (.slice (some ⟨b, if m = l then o else o + l * s, none⟩) (hh - l) (m - l)) else none
          | _, _, _ => none
      else none
    | _, _ => none
  | _, _ => none

theorem cap_ge {p : Place} {s k m n c : Nat} (hg : GrowOk (some s) p n c) (hs : s ≠ 0) (hc : k * s + m * s ≤ c) : k + m ≤ p.cap := by
  obtain ⟨_, hg⟩ : n = p.disp + p.cap * s ∧ c ≤ p.cap * s := hg
  have : (k + m) * s ≤ p.cap * s := by rw [Nat.add_mul]; omega
  exact Nat.le_of_mul_le_mul_right this (by omega)
theorem cap_gt {p : Place} {s k m n c : Nat} (hg : GrowOk (some s) p n c) (hs : s ≠ 0) (hc : k * s + m * s < c) : k + m < p.cap := by
  obtain ⟨_, hg⟩ : n = p.disp + p.cap * s ∧ c ≤ p.cap * s := hg
  have : (k + m) * s < p.cap * s := by rw [Nat.add_mul]; omega
  exact Nat.lt_of_mul_lt_mul_right this

theorem aSlice_sound (r : Rel μ h w) {t : TypeId} {x x' v : Value} {lo lo' hi hi' mx mx' : Option Value} (hx : VR μ x x') (hlo : OR μ lo lo') (hhi : OR μ hi hi') (hmx : OR μ mx mx') (hl : aSlice P h t x lo hi mx = some v) :
    Does P (Instr.sliceAt t x' lo' hi' mx') id nx μ h w v h := by
  unfold aSlice at hl
  split at hl
  · rename_i s hu
    split at hl
    · rename_i hh l e1 e2 e3
      cases hmx
      have q1 := bnd_eq hhi e2
      have q2 := bnd_eq hlo e3
      subst q1 q2
      cases hx.eq_of_dat rfl
      split at hl
      · rename_i hn
        cases hl
        refine Does.still r ?_ (.dat rfl)
        have hb := bounds_run (P := P) (isSlice := false) (len := s.size) (cap := s.size) (mx := none) rfl e2 e3 (Nat.le_refl _) hn.1 hn.2 (by simp) w
        simp [Instr.sliceAt, Instr.slice, run_underlying hu, hb]
      · cases hl
    · cases hl
  · rename_i n e b o hu
    split at hl
    · rename_i ie m hh l hie e1 e2 e3
      have q0 := bnd_eq hmx e1
      have q1 := bnd_eq hhi e2
      have q2 := bnd_eq hlo e3
      subst q0 q1 q2
      split at hl
      · rename_i hn
        cases hl
        cases hx with
        | dat hd => simp [dat] at hd
        | ptr hp =>
          rename_i p
          have hb := bounds_run (P := P) (isSlice := false) (len := n) (cap := n) e1 e2 e3 hn.1 hn.2.1 hn.2.2.1 hn.2.2.2 w
          refine Does.still r ?_ (.slice hp)
          split
          · rename_i hm; simp [Instr.sliceAt, Instr.sureAddr, run_underlying hu, hb, sizeOf, typeInfo, hie, hm]
          · rename_i hm
            simp [Instr.sliceAt, Instr.sureAddr, run_underlying hu, hb, sizeOf, typeInfo, hie, hm, add_none]
            omega
      · cases hl
    · cases hl
  · rename_i e len cap hu
    split at hl
    · rename_i ie m hh l hie e1 e2 e3
      have q0 := bnd_eq hmx e1
      have q1 := bnd_eq hhi e2
      have q2 := bnd_eq hlo e3
      subst q0 q1 q2
      cases hx.eq_of_dat rfl
      split at hl
      · rename_i hn
        cases hl
        have hb := bounds_run (P := P) (isSlice := true) (len := len) (cap := cap) e1 e2 e3 hn.1 hn.2.1 hn.2.2.1 hn.2.2.2 w
        refine Does.still r ?_ (.dat rfl)
        simp [Instr.sliceAt, Instr.slice, run_underlying hu, hb, sizeOf, typeInfo, hie]
      · cases hl
    · cases hl
  · rename_i e b o len cap hu
    split at hl
    · rename_i ie m hh l hie e1 e2 e3
      have q0 := bnd_eq hmx e1
      have q1 := bnd_eq hhi e2
      have q2 := bnd_eq hlo e3
      subst q0 q1 q2
      split at hl
      · rename_i hn
        cases hl
        cases hx with
        | dat hd => simp [dat] at hd
        | slice hp =>
          rename_i p
          have hb := bounds_run (P := P) (isSlice := true) (len := len) (cap := cap) e1 e2 e3 hn.1 hn.2.1 hn.2.2.1 hn.2.2.2 w
          refine Does.still r ?_ (.slice hp)
          split
          · rename_i hm; simp [Instr.sliceAt, Instr.slice, run_underlying hu, hb, sizeOf, typeInfo, hie, hm]
          · rename_i hm
            simp [Instr.sliceAt, Instr.slice, run_underlying hu, hb, sizeOf, typeInfo, hie, hm, add_none]
            omega
      · cases hl
    · cases hl
  · rename_i e b o k len hu
    split at hl
    · rename_i ie c ty s hie hb
      split at hl
      · rename_i hs
        obtain ⟨hs1, hs2, hs0⟩ := hs
        cases hx with
        | dat hd => simp [dat] at hd
        | sliceG hp =>
          rename_i p
          subst hs1 hs2
          obtain ⟨c', _, _, _, _, hg⟩ := r.cells hb hp
          split at hl
          · cases hmx
            split at hl
            · rename_i hh l e2 e3
              have q1 := bnd_eq hhi e2
              have q2 := bnd_eq hlo e3
              subst q1 q2
              split at hl
              · rename_i hn
                have hcap := cap_ge hg hs0 hn.2
                have hb := bounds_run (P := P) (isSlice := true) (len := len) (cap := p.cap - k) (mx := none) rfl e2 e3 (Nat.le_refl _) (by omega) hn.1 (by simp) w
                split at hl
                · rename_i hlt
                  cases hl
                  have hgt := cap_gt hg hs0 hlt
                  have hv := VR.sliceG (o := k * ie.size + l * ie.size) (e := k + l) (len := hh - l) hp
                  rw [show k * ie.size + l * ie.size + p.disp = k * ie.size + p.disp + l * ie.size by omega, show p.cap - (k + l) = p.cap - k - l by omega] at hv
                  refine Does.still r ?_ hv
                  have : ¬ p.cap - k = l := by omega
                  simp [Instr.sliceAt, Instr.slice, run_underlying hu, hb, sizeOf, typeInfo, hie, this, add_none]
                · rename_i hge
                  split at hl
                  · rename_i hq
                    subst hq
                    cases hl
                    refine Does.still r ?_ (.sliceE (a := if p.cap - k = hh then ⟨p.blk, k * ie.size + p.disp, none⟩ else ⟨p.blk, k * ie.size + p.disp + hh * ie.size, none⟩) (cap := p.cap - k - hh))
                    by_cases hq : p.cap - k = hh
                    · rw [hq] at hb
                      simp [Instr.sliceAt, Instr.slice, run_underlying hu, hb, sizeOf, typeInfo, hie, hq]
                    · simp [Instr.sliceAt, Instr.slice, run_underlying hu, hb, sizeOf, typeInfo, hie, hq, add_none]
                  · cases hl
              · cases hl
            · cases hl
          · rename_i m'
            split at hl
            · rename_i m hh l e1 e2 e3
              have q0 := bnd_eq hmx e1
              have q1 := bnd_eq hhi e2
              have q2 := bnd_eq hlo e3
              subst q0 q1 q2
              split at hl
              · rename_i hn
                cases hl
                have hcap := cap_ge hg hs0 hn.2.2.1
                have e2' : bnd hi' len = some hh := by
                  cases hi' with
                  | none => simp at hn
                  | some z => exact (show bnd (some z) len = bnd (some z) 0 by cases z <;> rfl).trans e2
                have e1' : bnd (some m') (p.cap - k) = some m := (show bnd (some m') (p.cap - k) = bnd (some m') 0 by cases m' <;> rfl).trans e1
                have hb := bounds_run (P := P) (isSlice := true) (len := len) (cap := p.cap - k) e1' e2' e3 (by omega) hn.2.1 hn.1 (fun _ => hn.2.2.2) w
                refine Does.still r ?_ (.slice hp)
                split
                · rename_i hm; simp [Instr.sliceAt, Instr.slice, run_underlying hu, hb, sizeOf, typeInfo, hie, hm]
                · rename_i hm
                  simp [Instr.sliceAt, Instr.slice, run_underlying hu, hb, sizeOf, typeInfo, hie, hm, add_none]
                  omega
              · cases hl
            · cases hl
      · cases hl
    · cases hl
  · cases hl
end
end Go.Ge
