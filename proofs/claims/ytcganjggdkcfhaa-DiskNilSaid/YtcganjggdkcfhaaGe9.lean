/-
  Evaluation of closed calls: maps that are written, ranges over maps and texts.
-/
import Derived.Test.YtcganjggdkcfhaaGe8
set_option linter.unusedVariables false
set_option linter.unusedSimpArgs false
namespace Go.Ge

section
variable {P : Program} {μ : Mu} {h : Heap} {w : World} {id nx : Nat}

/-- an object that is no row is put in place of one that is none -/
theorem setObj_sound (r : Rel μ h w) {b : Nat} {o o' : AObj} {p : Place} {x ob : Obj} (hb : h.get b = some o) (hp : μ b = some p) (hx : w.heap[p.blk]? = some x) (hnc : ∀ c e f, x ≠ .cells c e f) (hob : ObjR μ (some ob) p o') :
    DoesU P (setObj p.blk ob) id nx μ h w (h.set b (some o')) := by
  have hlt : p.blk < w.heap.size := (Array.getElem?_eq_some_iff.1 hx).1
  have hnt : o.isTab = false := by
    cases o <;> first | rfl | skip
    obtain ⟨q, hq, _, c', e, fz, h1, _⟩ := r.live b _ hb
    rw [hp] at hq
    cases hq
    rw [hx] at h1
    exact absurd (Option.some.inj h1) (hnc _ _ _)
  obtain ⟨h1, h2⟩ := write r (o' := o') (w' := { w with heap := w.heap.setIfInBounds p.blk ob }) id nx hb hnt hp (by simp) (by
    show ObjR μ (w.heap.setIfInBounds p.blk ob)[p.blk]? p o'
    rw [Array.getElem?_setIfInBounds, if_pos rfl, if_pos hlt]
    exact hob) (fun k hk => by
    show (w.heap.setIfInBounds p.blk ob)[k]? = _
    rw [Array.getElem?_setIfInBounds, if_neg (fun e => hk e.symm)]) rfl rfl rfl
  refine ⟨μ, _, ?_, h1, h2⟩
  cases x <;> first
    | (exact absurd rfl (hnc _ _ _))
    | (simp only [setObj, Sem.run, hx])

theorem ESR.get : ∀ {xs ys : List MapEntry}, ESR μ xs ys → ∀ (i : Nat) (e : MapEntry), xs[i]? = some e → ∃ e', ys[i]? = some e' ∧ VR μ e.key e'.key ∧ VR μ e.val e'.val ∧ e'.born = e.born
  | _, _, .nil, i, v, h => by simp at h
  | _, _, .cons a b c, 0, v, h => by simp at h; subst h; exact ⟨_, rfl, a, b, rfl⟩
  | _, _, .cons a b c, i + 1, v, h => by simpa using ESR.get c i v (by simpa using h)
theorem ESR.modify {f f' : MapEntry → MapEntry} (hf : ∀ (e e' : MapEntry), VR μ e.key e'.key → VR μ e.val e'.val → e'.born = e.born → VR μ (f e).key (f' e').key ∧ VR μ (f e).val (f' e').val ∧ (f' e').born = (f e).born) :
    ∀ {xs ys : List MapEntry}, ESR μ xs ys → ∀ (i : Nat), ESR μ (xs.modify i f) (ys.modify i f')
  | _, _, .nil, i => by simp; exact .nil
  | _, _, .cons (k := k) (k' := k') (v := v) (v' := v') (n := n) a b c, 0 => by
    simp only [List.modify_zero_cons]
    obtain ⟨h1, h2, h3⟩ := hf ⟨k, v, n⟩ ⟨k', v', n⟩ a b rfl
    have e1 : f ⟨k, v, n⟩ = ⟨(f ⟨k, v, n⟩).key, (f ⟨k, v, n⟩).val, (f ⟨k, v, n⟩).born⟩ := rfl
    have e2 : f' ⟨k', v', n⟩ = ⟨(f' ⟨k', v', n⟩).key, (f' ⟨k', v', n⟩).val, (f ⟨k, v, n⟩).born⟩ := by rw [← h3]
    rw [e1, e2]
    exact .cons h1 h2 c
  | _, _, .cons a b c, i + 1 => by
    simp only [List.modify_succ_cons]
    exact .cons a b (ESR.modify hf c i)
theorem ESR.snoc : ∀ {xs ys : List MapEntry}, ESR μ xs ys → ∀ {k k' v v' : Value} (n : Nat), VR μ k k' → VR μ v v' → ESR μ (xs ++ [⟨k, v, n⟩]) (ys ++ [⟨k', v', n⟩])
  | _, _, .nil, _, _, _, _, n, a, b => .cons a b .nil
  | _, _, .cons x y z, _, _, _, _, n, a, b => .cons x y (ESR.snoc z n a b)

def aMapUpdate (P : Program) (h : Heap) (t : TypeId) (x k v : Value) : Option Heap :=
  match P.underlying t, x with
  | some (.map kt _), .map (some b) =>
    match h.get b with
    | some (.map es clock) =>
      if closed k = true then
        match pev P (Instr.checkKey false 10000 kt k), aFind P kt k es with
        | some (), some (some (i, _)) =>
          match es[i]? with
          | some e => if closed e.key = true ∧ Instr.sameBits 10000 e.key k = true then some (h.set b (some (.map (es.modify i fun e => { e with key := k, val := v }) clock))) else none
          | none => none
        | some (), some none => some (h.set b (some (.map (es ++ [⟨k, v, clock⟩]) (clock + 1))))
        | _, _ => none
      else none
    | _ => none
  | _, _ => none
theorem arr_modify (es : List MapEntry) (i : Nat) (f : MapEntry → MapEntry) : (⟨es⟩ : Array MapEntry).modify i f = ⟨es.modify i f⟩ := Array.ext' (by simp)
theorem keyStays {old new : Value} (hs : Instr.sameBits 10000 old new = true) (w : World) : (Instr.keyThatStays old new).run P w = .ok new w := by
  simp [Instr.keyThatStays, hs]
theorem aMapUpdate_sound (r : Rel μ h w) {t : TypeId} {x x' k k' v v' : Value} {h' : Heap} (hx : VR μ x x') (hk : VR μ k k') (hv : VR μ v v') (hl : aMapUpdate P h t x k v = some h') : DoesU P (Instr.mapUpdate t x' k' v') id nx μ h w h' := by
  unfold aMapUpdate at hl
  split at hl
  · rename_i kt et b hu
    split at hl
    · rename_i es clock hb
      split at hl
      · rename_i hc
        cases hk.eq_of_closed hc
        cases hx with
        | dat hd => simp [dat] at hd
        | map hp =>
          rename_i p
          obtain ⟨es', h1, he⟩ := getObj_map r hb hp
          split at hl
          · rename_i i u hck hf
            have hck' := pev_run _ _ hck w
            obtain ⟨r', hr1, hr2⟩ := find_rel he hf
            split at hl
            · rename_i e hi
              split at hl
              · rename_i hs
                cases hl
                obtain ⟨e', hi', hk1, _, _⟩ := he.get i e hi
                have hke := hk1.eq_of_closed hs.1
                cases hr2 with
                | some hv' =>
                  obtain ⟨μ', w', a, b'⟩ := setObj_sound (P := P) (id := id) (nx := nx) r (o' := .map (es.modify i fun e => { e with key := k, val := v }) clock) (ob := .map ⟨es'.modify i fun e => { e with key := k, val := v' }⟩ clock) hb hp h1 (fun _ _ _ => by simp) ⟨_, rfl, he.modify (f := fun e => { e with key := k, val := v }) (f' := fun e => { e with key := k, val := v' }) (fun _ _ _ _ hb => ⟨VR.of_closed hc, hv, hb⟩) i⟩
                  refine ⟨μ', w', ?_, b'⟩
                  have hst : Instr.sameBits 10000 e'.key k = true := by rw [hke]; exact hs.2
                  simp [Instr.mapUpdate, run_underlying hu, run_getObj_map h1, hck', hr1, hi', keyStays hst, arr_modify, a]
              · cases hl
            · cases hl
          · rename_i hck hf
            have hck' := pev_run _ _ hck w
            obtain ⟨r', hr1, hr2⟩ := find_rel he hf
            cases hl
            cases hr2 with
            | none =>
              obtain ⟨μ', w', a, b'⟩ := setObj_sound (P := P) (id := id) (nx := nx) r (o' := .map (es ++ [⟨k, v, clock⟩]) (clock + 1)) (ob := .map ⟨es' ++ [⟨k, v', clock⟩]⟩ (clock + 1)) hb hp h1 (fun _ _ _ => by simp) ⟨_, rfl, he.snoc clock (VR.of_closed hc) hv⟩
              refine ⟨μ', w', ?_, b'⟩
              simp [Instr.mapUpdate, run_underlying hu, run_getObj_map h1, hck', hr1, a]
          · cases hl
      · cases hl
    · cases hl
  · cases hl

def aMapEntry (P : Program) (h : Heap) (t : TypeId) (x k : Value) : Option (Value × Heap) :=
  match P.underlying t, x with
  | some (.map kt et), .map (some b) =>
    match h.get b with
    | some (.map es clock) =>
      if closed k = true then
        match pev P (Instr.checkKey false 10000 kt k), aFind P kt k es with
        | some (), some (some (i, v)) =>
          match es[i]? with
          | some e => if closed e.key = true ∧ Instr.sameBits 10000 e.key k = true then some (.tuple ⟨[v, goInt e.born]⟩, h.set b (some (.map (es.modify i fun e => { e with key := k }) clock))) else none
          | none => none
        | some (), some none => match aZero P et with
          | some z => if closed z = true then some (.tuple ⟨[z, goInt clock]⟩, h.set b (some (.map (es ++ [⟨k, z, clock⟩]) (clock + 1)))) else none
          | none => none
        | _, _ => none
      else none
    | _ => none
  | _, _ => none
theorem aMapEntry_sound (r : Rel μ h w) {t : TypeId} {x x' k k' v : Value} {h' : Heap} (hx : VR μ x x') (hk : VR μ k k') (hl : aMapEntry P h t x k = some (v, h')) : Does P (Instr.mapEntry t x' k') id nx μ h w v h' := by
  unfold aMapEntry at hl
  split at hl
  · rename_i kt et b hu
    split at hl
    · rename_i es clock hb
      split at hl
      · rename_i hc
        cases hk.eq_of_closed hc
        cases hx with
        | dat hd => simp [dat] at hd
        | map hp =>
          rename_i p
          obtain ⟨es', h1, he⟩ := getObj_map r hb hp
          split at hl
          · rename_i i u hck hf
            have hck' := pev_run _ _ hck w
            obtain ⟨r', hr1, hr2⟩ := find_rel he hf
            split at hl
            · rename_i e hi
              split at hl
              · rename_i hs
                cases hl
                obtain ⟨e', hi', hk1, hk2, hk3⟩ := he.get i e hi
                have hke := hk1.eq_of_closed hs.1
                cases hr2 with
                | some hv' =>
                  rename_i v'
                  obtain ⟨μ', w', a, b1, b2⟩ := setObj_sound (P := P) (id := id) (nx := nx) r (o' := .map (es.modify i fun e => { e with key := k }) clock) (ob := .map ⟨es'.modify i fun e => { e with key := k }⟩ clock) hb hp h1 (fun _ _ _ => by simp) ⟨_, rfl, he.modify (f := fun e => { e with key := k }) (f' := fun e => { e with key := k }) (fun _ _ _ hv hb => ⟨VR.of_closed hc, hv, hb⟩) i⟩
                  refine ⟨μ', .tuple ⟨[v', goInt e.born]⟩, w', ?_, .tuple (.cons (hv'.mono b2.le) (.cons (.dat rfl) .nil)), b1, b2⟩
                  have hst : Instr.sameBits 10000 e'.key k = true := by rw [hke]; exact hs.2
                  simp [Instr.mapEntry, run_underlying hu, run_getObj_map h1, hck', hr1, hi', keyStays hst, arr_modify, a, hk3]
              · cases hl
            · cases hl
          · rename_i hck hf
            have hck' := pev_run _ _ hck w
            obtain ⟨r', hr1, hr2⟩ := find_rel he hf
            split at hl
            · rename_i z hz
              split at hl
              · rename_i hcz
                cases hl
                cases hr2 with
                | none =>
                  obtain ⟨μ', w', a, b1, b2⟩ := setObj_sound (P := P) (id := id) (nx := nx) r (o' := .map (es ++ [⟨k, z, clock⟩]) (clock + 1)) (ob := .map ⟨es' ++ [⟨k, z, clock⟩]⟩ (clock + 1)) hb hp h1 (fun _ _ _ => by simp) ⟨_, rfl, he.snoc clock (VR.of_closed hc) (VR.of_closed hcz)⟩
                  refine ⟨μ', .tuple ⟨[z, goInt clock]⟩, w', ?_, .tuple (.cons (VR.of_closed hcz) (.cons (.dat rfl) .nil)), b1, b2⟩
                  simp [Instr.mapEntry, run_underlying hu, run_getObj_map h1, hck', hr1, aZero_run hz, a]
              · cases hl
            · cases hl
          · cases hl
      · cases hl
    · cases hl
  · cases hl

def findBorn (n : Int) : List MapEntry → Nat → Option Nat
  | [], _ => none
  | e :: es, i => if ((e.born : Int) == n) = true then some i else findBorn n es (i + 1)
def aEntryStore (h : Heap) (x stamp v : Value) : Option Heap :=
  match x, stamp with
  | .map (some b), .int _ n =>
    match h.get b with
    | some (.map es clock) => match es.findIdx? (fun e => (e.born : Int) == n) with
      | some i => some (h.set b (some (.map (es.modify i fun e => { e with val := v }) clock)))
      | none => none
    | _ => none
  | _, _ => none
theorem findIdx_rel {n : Int} : ∀ {es es' : List MapEntry}, ESR μ es es' → es'.findIdx? (fun e => (e.born : Int) == n) = es.findIdx? (fun e => (e.born : Int) == n)
  | _, _, .nil => rfl
  | _, _, .cons a b c => by simp only [List.findIdx?_cons, findIdx_rel c]
theorem aEntryStore_sound (r : Rel μ h w) {t : TypeId} {x x' s s' v v' : Value} {h' : Heap} (hx : VR μ x x') (hs : VR μ s s') (hv : VR μ v v') (hl : aEntryStore h x s v = some h') : DoesU P (Instr.entryStore t x' s' v') id nx μ h w h' := by
  unfold aEntryStore at hl
  split at hl
  · rename_i b k n
    cases hs.eq_of_dat rfl
    split at hl
    · rename_i es clock hb
      split at hl
      · rename_i i hi
        cases hl
        cases hx with
        | dat hd => simp [dat] at hd
        | map hp =>
          rename_i p
          obtain ⟨es', h1, he⟩ := getObj_map r hb hp
          obtain ⟨μ', w', a, b'⟩ := setObj_sound (P := P) (id := id) (nx := nx) r (o' := .map (es.modify i fun e => { e with val := v }) clock) (ob := .map ⟨es'.modify i fun e => { e with val := v' }⟩ clock) hb hp h1 (fun _ _ _ => by simp) ⟨_, rfl, he.modify (f := fun e => { e with val := v }) (f' := fun e => { e with val := v' }) (fun _ _ hk _ hb => ⟨hk, hv, hb⟩) i⟩
          refine ⟨μ', w', ?_, b'⟩
          have hi' := (findIdx_rel (n := n) he).trans hi
          simp [Instr.entryStore, run_getObj_map h1, asInt, asIntOf, hi', arr_modify, a]
      · cases hl
    · cases hl
  · cases hl

/-! ### ranges -/
def aRange (P : Program) (id : Nat) (h : Heap) (t : TypeId) (x : Value) : Option (Value × Heap) :=
  match P.underlying t, x with
  | some .string, .string s => some (.pointer (some ⟨id, 0, none⟩), h.set id (some (.iterS s 0)))
  | some (.map _ _), .map none => some (.pointer (some ⟨id, 0, none⟩), h.set id (some (.iterM none 0 #[] 0)))
  | some (.map _ _), .map (some b) => match h.get b with
    | some (.map _ clock) => some (.pointer (some ⟨id, 0, none⟩), h.set id (some (.iterM (some b) clock #[] clock)))
    | _ => none
  | _, _ => none
theorem aRange_sound (r : Rel μ h w) {t : TypeId} {x x' v : Value} {h' : Heap} (hlt : id < 65536) (hid : μ id = none) (hh : h.get id = none) (hx : VR μ x x') (hl : aRange P id h t x = some (v, h')) : Does P (Instr.range t x') id nx μ h w v h' := by
  have hle := Mu.le_put (p := ⟨w.heap.size, 0, 0, .nilFunc⟩) hid
  have hv : VR (μ.put id ⟨w.heap.size, 0, 0, .nilFunc⟩) (.pointer (some ⟨id, 0, none⟩)) (.pointer (some ⟨w.heap.size, 0, none⟩)) := by
    have := VR.ptr (o := 0) (Mu.put_self μ id ⟨w.heap.size, 0, 0, .nilFunc⟩)
    simpa using this
  unfold aRange at hl
  split at hl
  · rename_i s hu
    cases hx.eq_of_dat rfl
    cases hl
    obtain ⟨h1, h2⟩ := make r (o := .iterS s 0) (ob := .stringIter s 0) nx 0 hlt hid hh ⟨rfl, rfl⟩
    exact ⟨_, _, _, by simp [Instr.range, run_underlying hu], hv, h1, h2⟩
  · rename_i hu
    cases hx.eq_of_dat rfl
    cases hl
    obtain ⟨h1, h2⟩ := make r (o := .iterM none 0 #[] 0) (ob := .mapIter none 0 #[] 0) nx 0 hlt hid hh ⟨rfl, none, rfl, rfl⟩
    exact ⟨_, _, _, by simp [Instr.range, run_underlying hu], hv, h1, h2⟩
  · rename_i b hu
    split at hl
    · rename_i es clock hb
      cases hl
      cases hx with
      | dat hd => simp [dat] at hd
      | map hp =>
        rename_i p
        obtain ⟨es', h1', he⟩ := getObj_map r hb hp
        obtain ⟨h1, h2⟩ := make r (o := .iterM (some b) clock #[] clock) (ob := .mapIter (some p.blk) clock #[] clock) nx 0 hlt hid hh ⟨rfl, some p.blk, rfl, p, hle _ _ hp, rfl⟩
        exact ⟨_, _, _, by simp [Instr.range, run_underlying hu, run_getObj_map h1'], hv, h1, h2⟩
    · cases hl
  · cases hl

def aNext (h : Heap) (it : Value) (str : Bool) : Option (Value × Heap) :=
  match it with
  | .pointer (some ⟨b, 0, none⟩) =>
    match h.get b, str with
    | some (.iterS s pos), true =>
      if pos < s.size then some (.tuple ⟨[.bool true, goInt pos, .int .i32 (Utf8.decode s pos).1]⟩, h.set b (some (.iterS s (pos + (Utf8.decode s pos).2))))
      else some (.tuple ⟨[.bool false]⟩, h)
    | some (.iterM none _ _ _), false => some (.tuple ⟨[.bool false]⟩, h)
    | some (.iterM (some m) since seen last), false =>
      match h.get m with
      | some (.map es clock) =>
        if (!seen.isEmpty && !es.isEmpty && es.all (fun e => decide (e.born ≥ last))) = true then none else
        match es.filter (fun e => !seen.contains e.born) with
        | [] => some (.tuple ⟨[.bool false]⟩, h)
        | [e] => if e.born < since then some (.tuple ⟨[.bool true, e.key, e.val]⟩, h.set b (some (.iterM (some m) since (seen.push e.born) clock))) else none
        | _ => none
      | _ => none
    | _, _ => none
  | _ => none
theorem ESR.filter {p : Nat → Bool} : ∀ {es es' : List MapEntry}, ESR μ es es' → ESR μ (es.filter fun e => p e.born) (es'.filter fun e => p e.born)
  | _, _, .nil => .nil
  | _, _, .cons (n := n) a b c => by
    simp only [List.filter_cons]
    cases p n
    · simpa using ESR.filter c
    · simpa using ESR.cons a b (ESR.filter c)
theorem ESR.all {p : Nat → Bool} : ∀ {es es' : List MapEntry}, ESR μ es es' → (es'.all fun e => p e.born) = es.all fun e => p e.born
  | _, _, .nil => rfl
  | _, _, .cons (n := n) a b c => by simp only [List.all_cons, ESR.all c]
theorem aNext_sound (r : Rel μ h w) {t : TypeId} {it it' v : Value} {str : Bool} {h' : Heap} (hx : VR μ it it') (hl : aNext h it str = some (v, h')) : Does P (Instr.next it' str t) id nx μ h w v h' := by
  unfold aNext at hl
  split at hl
  · rename_i b
    cases hx with
    | dat hd => simp [dat] at hd
    | ptr hp =>
      rename_i p
      split at hl
      · rename_i s pos hb
        obtain ⟨q, hq, hd, ho⟩ : ∃ q, μ b = some q ∧ q.disp = 0 ∧ w.heap[q.blk]? = some (.stringIter s pos) := r.live b _ hb
        rw [hp] at hq
        cases hq
        have hg : (getObj p.blk).run P w = .ok (.stringIter s pos) w := by simp [getObj, Sem.run, ho]
        split at hl
        · rename_i hlt
          cases hl
          obtain ⟨μ', w', a, b1, b2⟩ := setObj_sound (P := P) (id := id) (nx := nx) r (o' := .iterS s (pos + (Utf8.decode s pos).2)) (ob := .stringIter s (pos + (Utf8.decode s pos).2)) hb hp ho (fun _ _ _ => by simp) ⟨hd, rfl⟩
          refine ⟨μ', .tuple ⟨[.bool true, goInt pos, .int .i32 (Utf8.decode s pos).1]⟩, w', ?_, .tuple (.cons (.dat rfl) (.cons (.dat rfl) (.cons (.dat rfl) .nil))), b1, b2⟩
          simp [Instr.next, hd, hg, hlt, a]
        · rename_i hlt
          cases hl
          refine Does.still r (v' := .tuple ⟨[.bool false]⟩) ?_ (.tuple (.cons (.dat rfl) .nil))
          simp [Instr.next, hd, hg, hlt]
      · rename_i since seen last hb
        cases hl
        obtain ⟨q, hq, hd, m', ho, hm⟩ : ∃ q, μ b = some q ∧ q.disp = 0 ∧ ∃ m', w.heap[q.blk]? = some (.mapIter m' since seen last) ∧ m' = none := r.live b _ hb
        rw [hp] at hq
        cases hq
        subst hm
        have hg : (getObj p.blk).run P w = .ok (.mapIter none since seen last) w := by simp [getObj, Sem.run, ho]
        refine Does.still r (v' := .tuple ⟨[.bool false]⟩) ?_ (.tuple (.cons (.dat rfl) .nil))
        simp [Instr.next, hd, hg]
      · rename_i m since seen last hb
        obtain ⟨q, hq, hd, m', ho, q2, hm1, hm2⟩ : ∃ q, μ b = some q ∧ q.disp = 0 ∧ ∃ m', w.heap[q.blk]? = some (.mapIter m' since seen last) ∧ ∃ q2, μ m = some q2 ∧ m' = some q2.blk := r.live b _ hb
        rw [hp] at hq
        cases hq
        subst hm2
        have hg : (getObj p.blk).run P w = .ok (.mapIter (some q2.blk) since seen last) w := by simp [getObj, Sem.run, ho]
        split at hl
        · rename_i es clock hbm
          obtain ⟨es', h1, he⟩ := getObj_map r hbm hm1
          have hgm := run_getObj_map (P := P) h1
          split at hl
          · cases hl
          · rename_i hcond
            have hcond' : (!seen.isEmpty && !(⟨es'⟩ : Array MapEntry).isEmpty && (⟨es'⟩ : Array MapEntry).all (fun e => decide (e.born ≥ last))) = false := by
              have e1 : (⟨es'⟩ : Array MapEntry).isEmpty = es.isEmpty := by
                have := he.length
                cases es <;> cases es' <;> simp_all
              have e2 : (⟨es'⟩ : Array MapEntry).all (fun e => decide (e.born ≥ last)) = es.all (fun e => decide (e.born ≥ last)) := by
                rw [← Array.all_toList]
                exact he.all (p := fun n => decide (n ≥ last))
              rw [e1, e2]
              simpa using hcond
            have hf := he.filter (p := fun n => !seen.contains n)
            have hfa : (⟨es'⟩ : Array MapEntry).filter (fun e => !seen.contains e.born) = ⟨es'.filter fun e => !seen.contains e.born⟩ := Array.ext' (by simp)
            split at hl
            · rename_i hnil
              cases hl
              rw [hnil] at hf
              cases hf' : es'.filter (fun e => !seen.contains e.born) with
              | cons x xs => rw [hf'] at hf; cases hf
              | nil =>
                refine Does.still r (v' := .tuple ⟨[.bool false]⟩) ?_ (.tuple (.cons (.dat rfl) .nil))
                unfold Instr.next
                simp only [hd, Nat.zero_add, Sem.run_bind, hg, hgm, Result.andThen_ok, hcond', hfa, hf']
                simp [Question.forced]
            · rename_i e hone
              split at hl
              · rename_i hlt
                cases hl
                rw [hone] at hf
                cases hf' : es'.filter (fun e => !seen.contains e.born) with
                | nil => rw [hf'] at hf; cases hf
                | cons x xs =>
                  rw [hf'] at hf
                  cases hf with
                  | cons hk hv hn =>
                    rename_i k k' u u' n
                    cases hn
                    obtain ⟨μ', w', a, b1, b2⟩ := setObj_sound (P := P) (id := id) (nx := nx) r (o' := .iterM (some m) since (seen.push n) clock) (ob := .mapIter (some q2.blk) since (seen.push n) clock) hb hp ho (fun _ _ _ => by simp) ⟨hd, _, rfl, q2, hm1, rfl⟩
                    refine ⟨μ', .tuple ⟨[.bool true, k', u']⟩, w', ?_, .tuple (.cons (.dat rfl) (.cons (hk.mono b2.le) (.cons (hv.mono b2.le) .nil))), b1, b2⟩
                    have hlt' : ¬ (since ≤ n) := by simpa using hlt
                    have hlt2 : n < since := hlt
                    unfold Instr.next
                    simp only [hd, Nat.zero_add, Sem.run_bind, hg, hgm, Result.andThen_ok, hcond', hfa, hf']
                    simp [Question.forced, hlt', hlt2, a]
              · cases hl
            · cases hl
        · cases hl
      · cases hl
  · cases hl
end
end Go.Ge
