/-
  Evaluation of closed calls: append, copy, len, as operations.
-/
import Derived.Test.YtcganjggdkcfhaaGe6
set_option linter.unusedVariables false
set_option linter.unusedSimpArgs false
namespace Go.Ge

section
variable {P : Program} {μ : Mu} {h : Heap} {w : World} {id nx : Nat}

/-- a new row for old and new cells -/
def aGrow (P : Program) (id : Nat) (h : Heap) (e : TypeId) (ie : TypeInfo) (s x : Value) (len cap n : Nat) : Option (Value × Heap) :=
  match aZero P e, aCells h ie.size len s, aCells h ie.size n x with
  | some z, some old, some new =>
    if z.cells.size = ie.size ∧ cap < len + n ∧ len + n ≤ 65536 ∧ ie.bytes ≤ 65536 ∧ old.length = len * ie.size ∧ new.length = n * ie.size then
      some (.slice (some ⟨id, 0, some 0⟩) (len + n) 0, h.set id (some (.cells (old ++ new) e (some ie.size))))
    else none
  | _, _, _ => none
theorem aGrow_sound (r : Rel μ h w) {st xt e : TypeId} {xd : TypeDesc} {ie : TypeInfo} {s s' x x' v : Value} {base : Option Addr} {len cap n : Nat} {ty : TypeId} {h' : Heap} (hlt : id < 65536) (hid : μ id = none) (hh : h.get id = none)
    (hs' : s' = .slice base len cap) (hst : P.underlying st = some (.slice e)) (hxt : P.underlying xt = some xd) (hxd : isInt xd = false) (hie : P.info? e = some ie)
    (hx : VR μ x x') (hn : aLen x = some n) (hos : VR μ s s') (hl : aGrow P id h e ie s x len cap n = some (v, h')) :
    Does P (Builtin.append_ #[st, xt] ty #[s', x']) id nx μ h w v h' := by
  unfold aGrow at hl
  split at hl
  · rename_i z old new hz ho hw
    split at hl
    · rename_i hc
      cases hl
      obtain ⟨k1, k2, k3, k4, k5, k6⟩ := hc
      obtain ⟨m, c', q1, q2, q3, q4⟩ := append_grow r (ty := ty) hs' hst hxt hxd hie hz k1 hx hn k2 k3 k4 hos ho k5 hw k6
      have hlen : (old ++ new).length = (len + n) * ie.size := by rw [List.length_append, k5, k6, Nat.add_mul]
      obtain ⟨μ', p1, p2, p3⟩ := made_row (nx := nx) (r.drew (w.drawn + 1)) e (c := old ++ new) (c' := c') (s := ie.size) (m := m) hlt hid hh q2 (by rw [hlen]; exact Nat.mul_le_mul_right _ q1) (by rw [hlen]; exact q3)
      refine ⟨μ', _, _, q4, ?_, p2, (Goes.drew (Goes.refl _ _ _ _ _) _).trans p3⟩
      have := VR.sliceG (o := 0) (e := 0) (len := len + n) p1
      simpa using this
    · cases hl
  · cases hl

def zOk (P : Program) (e : TypeId) (ie : TypeInfo) : Bool := match aZero P e with | some z => z.cells.size == ie.size | none => false
theorem zOk_some {e : TypeId} {ie : TypeInfo} (hz : zOk P e ie = true) : ∃ z, aZero P e = some z ∧ z.cells.size = ie.size := by
  unfold zOk at hz
  split at hz
  · rename_i z e; exact ⟨z, e, by simpa using hz⟩
  · cases hz

def aAppend (P : Program) (id : Nat) (h : Heap) (ats : List TypeId) (args : List Value) : Option (Value × Heap) :=
  match ats, args with
  | [st, xt], [s, x] =>
    match P.underlying st, P.underlying xt with
    | some (.slice e), some xd =>
      if isInt xd = true then none else
      match P.info? e, aLen x with
      | some ie, some n =>
        match s with
        | .slice none 0 0 => if n = 0 then (match aCells h ie.size 0 x with | some _ => some (.slice none 0 0, h) | none => none) else aGrow P id h e ie s x 0 0 n
        | .slice (some ⟨b, o, none⟩) len cap =>
          if len + n ≤ cap then
            match h.get b, aCells h ie.size n x with
            | some (.cells c e' g), some new => if o + len * ie.size + new.length ≤ c.length ∧ new.all one = true then
                some (.slice (some ⟨b, o, none⟩) (len + n) cap, h.set b (some (.cells (splice c (o + len * ie.size) new) e' g))) else none
            | _, _ => none
          else aGrow P id h e ie s x len cap n
        | .slice (some ⟨b, o, some k⟩) len 0 =>
          match h.get b, aCells h ie.size n x with
          | some (.cells c e' (some sz)), some new =>
            if sz = ie.size ∧ k * sz = o ∧ sz ≠ 0 ∧ new.length = n * sz ∧ new.all one = true then
              if o + (len + n) * sz ≤ c.length then some (.slice (some ⟨b, o, some k⟩) (len + n) 0, h.set b (some (.cells (splice c (o + len * sz) new) e' (some sz))))
              else if o + len * sz = c.length ∧ e' = e ∧ b ≠ id ∧ len + n ≤ 65536 ∧ ie.bytes ≤ 65536 ∧ zOk P e ie = true then
                some (.slice (some ⟨id, 0, some 0⟩) (len + n) 0, (h.set b none).set id (some (.cells (c.drop o ++ new) e (some sz))))
              else none
            else none
          | _, _ => none
        | _ => none
      | _, _ => none
    | _, _ => none
  | _, _ => none
theorem aAppend_sound (r : Rel μ h w) {ats : List TypeId} {args args' : List Value} {v : Value} {ty : TypeId} {h' : Heap} (hlt : id < 65536) (hid : μ id = none) (hh : h.get id = none)
    (ha : VRs μ args args') (hl : aAppend P id h ats args = some (v, h')) : Does P (Builtin.append_ ats.toArray ty args'.toArray) id nx μ h w v h' := by
  unfold aAppend at hl
  split at hl
  · rename_i st xt s x
    cases ha with | cons hs ha => cases ha with | cons hx ha => cases ha with | nil =>
    rename_i s' x'
    split at hl
    · rename_i e xd hst hxt
      split at hl
      · cases hl
      · rename_i hxd
        have hxd : isInt xd = false := by simpa using hxd
        split at hl
        · rename_i ie n hie hn
          have hlen := aLen_run (P := P) hx hn w
          split at hl
          · cases hs.eq_of_dat rfl
            split at hl
            · rename_i hn0
              subst hn0
              split at hl
              · rename_i new hw
                cases hl
                obtain ⟨new', hw1, hw2⟩ := aCells_run (P := P) r hx hw
                exact Does.still r (append_none hst hxt hxd hie hlen hw1) (.dat rfl)
              · cases hl
            · exact aGrow_sound r hlt hid hh rfl hst hxt hxd hie hx hn hs hl
          · rename_i b o len cap
            cases hs with
            | dat hd => simp [dat] at hd
            | slice hp =>
              rename_i p
              split at hl
              · rename_i hcap
                split at hl
                · rename_i c e' g new hb hw
                  split at hl
                  · rename_i hc
                    cases hl
                    obtain ⟨new', hw1, hw2⟩ := aCells_run (P := P) r hx hw
                    obtain ⟨μ', w', k1, k2, k3⟩ := storeCells_sound (P := P) (id := id) (nx := nx) r hb hp hw2 hc.1 hc.2
                    refine ⟨μ', _, w', append_fits hst hxt hxd hie hlen hcap hw1 ?_, .slice (k3.le _ _ hp), k2, k3⟩
                    rw [add_none]
                    rw [show o + p.disp + len * ie.size = o + len * ie.size + p.disp by omega]
                    exact k1
                  · cases hl
                · cases hl
              · exact aGrow_sound r hlt hid hh rfl hst hxt hxd hie hx hn (.slice hp) hl
          · rename_i b o k len
            cases hs with
            | dat hd => simp [dat] at hd
            | sliceG hp =>
              rename_i p
              split at hl
              · rename_i c e' sz new hb hw
                split at hl
                · rename_i hc
                  obtain ⟨rfl, rfl, hs0, hnl, hone⟩ := hc
                  obtain ⟨c', fz, hc1, hz, hc2, hg⟩ := r.cells hb hp
                  obtain ⟨new', hw1, hw2⟩ := aCells_run (P := P) r hx hw
                  split at hl
                  · rename_i hfit
                    cases hl
                    have hcap := cap_ge hg hs0 hfit
                    have hfit' : k * ie.size + len * ie.size + new.length ≤ c.length := by rw [hnl]; rw [Nat.add_mul] at hfit; omega
                    obtain ⟨μ', w', k1, k2, k3⟩ := storeCells_sound (P := P) (id := id) (nx := nx) r hb hp hw2 hfit' hone
                    refine ⟨μ', _, w', append_fits hst hxt hxd hie hlen (by omega) hw1 ?_, .sliceG (k3.le _ _ hp), k2, k3⟩
                    rw [add_none]
                    rw [show k * ie.size + p.disp + len * ie.size = k * ie.size + len * ie.size + p.disp by omega]
                    exact k1
                  · rename_i hfit
                    split at hl
                    · rename_i ht
                      obtain ⟨ht, he, hbid, hsm, hby, hz⟩ := ht
                      subst he
                      cases hl
                      obtain ⟨z, hz', hzs⟩ := zOk_some hz
                      · have hblt := Heap.get_lt hb
                        by_cases hcap : len + n ≤ p.cap - k
                        · obtain ⟨μ', w', m1, m2, m3, m4⟩ := grown_row (P := P) (nx := nx) (k := k) r hb hp hlt hid hh hw2 (by omega) (by
                            have hk := cap_ge hg hs0 (show k * ie.size + len * ie.size ≤ c.length by omega)
                            have : (k + (len + n)) * ie.size ≤ p.cap * ie.size := Nat.mul_le_mul_right _ (by omega)
                            rw [Nat.add_mul, Nat.add_mul] at this
                            omega) hone
                          refine ⟨μ', _, w', append_fits hst hxt hxd hie hlen hcap hw1 ?_, ?_, m3, m4⟩
                          · rw [add_none, show k * ie.size + p.disp + len * ie.size = c.length + p.disp by omega]
                            exact m2
                          · have := VR.sliceG (o := 0) (e := 0) (len := len + n) m1
                            simpa [Nat.add_comm] using this
                        · have hos : VR μ (.slice (some ⟨b, k * ie.size, some k⟩) len 0) (.slice (some ⟨p.blk, k * ie.size + p.disp, none⟩) len (p.cap - k)) := .sliceG hp
                          have hold : aCells h ie.size len (.slice (some ⟨b, k * ie.size, some k⟩) len 0) = some ((c.drop (k * ie.size)).take (len * ie.size)) := by
                            unfold aCells
                            by_cases hlz : len * ie.size = 0
                            · simp [hlz]
                            · simp [hlz, hb]
                              omega
                          have holl : ((c.drop (k * ie.size)).take (len * ie.size)).length = len * ie.size := by simp; omega
                          have hdrop : (c.drop (k * ie.size)).take (len * ie.size) = c.drop (k * ie.size) := List.take_of_length_le (by simp; omega)
                          obtain ⟨m, cc, q1, q2, q3, q4⟩ := append_grow r (ty := ty) rfl hst hxt hxd hie hz' hzs hx hn (by omega) hsm hby hos hold holl hw hnl
                          rw [hdrop] at q3
                          have hlen' : (c.drop (k * ie.size) ++ new).length = (len + n) * ie.size := by rw [List.length_append, ← hdrop, holl, hnl, Nat.add_mul]
                          have hh' : (h.set b none).get id = none := by
                            rw [Heap.get_set _ _ _ _ hblt]
                            split
                            · rfl
                            · exact hh
                          obtain ⟨μ', p1, p2, p3⟩ := made_row (nx := nx) ((r.forget b hblt).drew (w.drawn + 1)) e' (c := c.drop (k * ie.size) ++ new) (c' := cc) (s := ie.size) (m := m) hlt hid hh' q2 (by rw [hlen']; exact Nat.mul_le_mul_right _ q1) (by rw [hlen']; exact q3)
                          refine ⟨μ', _, _, q4, ?_, p2, ((Goes.forget r b hblt (fun o ho => by rw [hb] at ho; cases ho; rfl)).drew _).trans p3⟩
                          have := VR.sliceG (o := 0) (e := 0) (len := len + n) p1
                          simpa using this
                    · cases hl
                · cases hl
              · cases hl
          · cases hl
        · cases hl
    · cases hl
  · cases hl
end
end Go.Ge
