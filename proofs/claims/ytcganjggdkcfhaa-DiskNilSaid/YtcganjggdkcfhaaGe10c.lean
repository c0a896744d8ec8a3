/-
  Evaluation of closed calls: bytes of texts and texts of bytes, a map's entry is deleted.
-/
import Derived.Test.YtcganjggdkcfhaaGe10b
import Derived.Laws.IdiomStrings
set_option linter.unusedVariables false
set_option linter.unusedSimpArgs false
namespace Go.Ge

section
variable {P : Program} {μ : Mu} {h : Heap} {w : World} {id nx : Nat}

theorem ESR.eraseIdx : ∀ {xs ys : List MapEntry}, ESR μ xs ys → ∀ (i : Nat), ESR μ (xs.eraseIdx i) (ys.eraseIdx i)
  | _, _, .nil, _ => .nil
  | _, _, .cons a b c, 0 => c
  | _, _, .cons a b c, i + 1 => .cons a b (ESR.eraseIdx c i)

def aDelete (P : Program) (h : Heap) (t : TypeId) (x k : Value) : Option (Value × Heap) :=
  match P.underlying t, x with
  | some (.map kt _), .map none => if closed k = true then (match pev P (Instr.checkKey true 10000 kt k) with
    | some () => some (.tuple #[], h)
    | none => none) else none
  | some (.map kt _), .map (some b) => match h.get b with
    | some (.map es clock) => if closed k = true then
        match pev P (Instr.checkKey es.isEmpty 10000 kt k), aFind P kt k es with
        | some (), some (some (i, _)) => some (.tuple #[], h.set b (some (.map (es.eraseIdx i) clock)))
        | some (), some none => some (.tuple #[], h.set b (some (.map es clock)))
        | _, _ => none
      else none
    | _ => none
  | _, _ => none
theorem arr_eraseIdx (es : List MapEntry) (i : Nat) : (⟨es⟩ : Array MapEntry).eraseIdxIfInBounds i = ⟨es.eraseIdx i⟩ := by
  apply Array.ext'
  simp
theorem aDelete_sound (r : Rel μ h w) {t : TypeId} {x x' k k' v : Value} {ty : TypeId} {rest : List TypeId} {h' : Heap} (hx : VR μ x x') (hk : VR μ k k') (hl : aDelete P h t x k = some (v, h')) :
    Does P (Builtin.delete_ (t :: rest).toArray ty [x', k'].toArray) id nx μ h w v h' := by
  unfold aDelete at hl
  split at hl
  · rename_i kt et hu
    split at hl
    · rename_i hc
      split at hl
      · rename_i u hck
        cases hl
        cases hx.eq_of_dat rfl
        cases hk.eq_of_closed hc
        have hck' := pev_run _ _ hck w
        refine Does.still r (v' := .tuple #[]) ?_ (.tuple .nil)
        simp [Builtin.delete_, run_underlying hu, hck']
      · cases hl
    · cases hl
  · rename_i kt et b hu
    split at hl
    · rename_i es clock hb
      split at hl
      · rename_i hc
        cases hk.eq_of_closed hc
        cases hx with
        | dat hd => simp [dat] at hd
        | map hp =>
          rename_i p
          obtain ⟨es', h1, he⟩ := getObj_map r hb hp
          have hemp : (⟨es'⟩ : Array MapEntry).isEmpty = es.isEmpty := by
            have := he.length
            cases es <;> cases es' <;> simp_all
          split at hl
          · rename_i i u hck hf
            have hck' := pev_run _ _ hck w
            obtain ⟨r', hr1, hr2⟩ := find_rel he hf
            cases hl
            cases hr2 with
            | some hv' =>
              obtain ⟨μ', w', a, b1, b2⟩ := setObj_sound (P := P) (id := id) (nx := nx) r (o' := .map (es.eraseIdx i) clock) (ob := .map ⟨es'.eraseIdx i⟩ clock) hb hp h1 (fun _ _ _ => by simp) ⟨_, rfl, he.eraseIdx i⟩
              refine ⟨μ', .tuple #[], w', ?_, .tuple .nil, b1, b2⟩
              simp [Builtin.delete_, run_underlying hu, run_getObj_map h1, hemp, hck', hr1, arr_eraseIdx, a]
          · rename_i hck hf
            have hck' := pev_run _ _ hck w
            obtain ⟨r', hr1, hr2⟩ := find_rel he hf
            cases hl
            cases hr2 with
            | none =>
              obtain ⟨μ', w', a, b1, b2⟩ := setObj_sound (P := P) (id := id) (nx := nx) r (o' := .map es clock) (ob := .map ⟨es'⟩ clock) hb hp h1 (fun _ _ _ => by simp) ⟨_, rfl, he⟩
              refine ⟨μ', .tuple #[], w', ?_, .tuple .nil, b1, b2⟩
              simp [Builtin.delete_, run_underlying hu, run_getObj_map h1, hemp, hck', hr1, a]
          · cases hl
      · cases hl
    · cases hl
  · cases hl

/-! ### conversions -/
def bytesOf : List Value → Option (List Int)
  | [] => some []
  | .int .u8 n :: vs => match bytesOf vs with
    | some ns => some (n :: ns)
    | none => none
  | _ => none
theorem bytesOf_eq : ∀ {cs : List Value} {ns : List Int}, bytesOf cs = some ns → cs = ns.map (Value.int .u8)
  | [], ns, hl => by simp only [bytesOf] at hl; cases hl; rfl
  | v :: vs, ns, hl => by
    cases v <;> try (simp [bytesOf] at hl; done)
    rename_i k n
    cases k <;> simp only [bytesOf] at hl <;> try (cases hl; done)
    split at hl
    · rename_i ns' h1
      cases hl
      rw [bytesOf_eq h1]
      rfl
    · cases hl
theorem bytes_dat (ns : List Int) : (ns.map (Value.int .u8)).all dat = true := by
  rw [List.all_eq_true]
  intro x hx
  obtain ⟨n, _, rfl⟩ := List.mem_map.1 hx
  rfl
def textOf (ns : List Int) : ByteArray := ⟨(ns.map fun n => UInt8.ofNat n.toNat).toArray⟩
theorem textOf_fold : ∀ (ns : List Int) (r : ByteArray), ns.foldl (fun r n => r.push (UInt8.ofNat n.toNat)) r = ⟨r.data ++ (ns.map fun n => UInt8.ofNat n.toNat).toArray⟩
  | [], r => by simp
  | n :: ns, r => by
    simp only [List.foldl_cons]
    rw [textOf_fold ns]
    simp [ByteArray.push]

def isU8 (P : Program) (e : TypeId) : Bool := match P.underlying e with | some (.int .u8) => true | _ => false
theorem isU8_eq {e : TypeId} (hu : isU8 P e = true) : P.underlying e = some (.int .u8) := by
  unfold isU8 at hu
  split at hu
  · assumption
  · cases hu
def aConvert (P : Program) (id : Nat) (h : Heap) (s d : TypeId) (x : Value) : Option (Value × Heap) :=
  match P.underlying s, P.underlying d, x with
  | some (.slice e), some .string, .slice (some ⟨b, o, sp⟩) len cap => if isU8 P e = true then
      (if len = 0 then some (.string ⟨#[]⟩, h) else
      match h.get b with
      | some (.cells c _ _) => if (sp = none ∨ cap = 0) ∧ o + len ≤ c.length then (match bytesOf ((c.drop o).take len) with
        | some ns => some (.string (textOf ns), h)
        | none => none) else none
      | _ => none) else none
  | some (.slice _), some (.slice e), .slice (some ⟨b, o, sp⟩) len cap => if s = d ∧ isU8 P e = true ∧ (sp = none ∨ cap = 0) then
      (match h.get b with
      | some (.cells c t g) => some (x, h.set b (some (.cells c t g)))
      | _ => none) else none
  | some .string, some (.slice e), .string bs => if isU8 P e = true ∧ id < 65536 then
      some (.slice (some ⟨id, 0, some 0⟩) bs.size 0, h.set id (some (.cells (bs.data.map fun b => .int .u8 b.toNat).toList e (some 1)))) else none
  | some _, some _, _ => if closed x = true then (match aPure P (convert s d x) with | some v => some (v, h) | none => none) else none
  | _, _, _ => none

/-- a row's mark is set -/
theorem mark_sound (r : Rel μ h w) {b o : Nat} {c : List Value} {t : TypeId} {g : Option Nat} {p : Place} (hb : h.get b = some (.cells c t g)) (hp : μ b = some p) :
    DoesU P (markStringish ⟨p.blk, o, none⟩) id nx μ h w (h.set b (some (.cells c t g))) := by
  obtain ⟨c', fz, h1, hz, h2, h3⟩ := r.cells hb hp
  have hlt : p.blk < w.heap.size := (Array.getElem?_eq_some_iff.1 h1).1
  have hval : w.heap[p.blk] = .cells c' t fz := (Array.getElem?_eq_some_iff.1 h1).2
  have hnew : (w.freeze ⟨p.blk, c'.size, none⟩ 1).heap[p.blk]? = some (.cells c' t (c'.size, c'.size + 1)) := by
    unfold World.freeze
    rw [if_neg (by decide)]
    show (w.heap.modify p.blk _)[p.blk]? = _
    rw [Array.getElem?_eq_getElem (by simpa using hlt), Array.getElem_modify]
    simp only [if_true, hval]
    rcases hz with rfl | rfl
    · simp
    · simp
  obtain ⟨a, b'⟩ := write r (o' := .cells c t g) (w' := w.freeze ⟨p.blk, c'.size, none⟩ 1) id nx hb rfl hp (by unfold World.freeze; rw [if_neg (by decide)]; simp) (by
      rw [hnew]
      exact ⟨c', _, rfl, .inr rfl, h2, h3⟩) (fun k hk => by
      unfold World.freeze
      rw [if_neg (by decide)]
      show (w.heap.modify p.blk _)[k]? = _
      rw [Array.getElem?_modify, if_neg (fun e => hk e.symm)]) (by simp [World.freeze]) (by simp [World.freeze]) (by simp [World.freeze])
  refine ⟨μ, _, ?_, a, b'⟩
  have hsh : w.shape? p.blk = some (t, c'.size) := by simp [World.shape?, h1]
  simp [markStringish, hsh]

theorem aConvert_sound (r : Rel μ h w) {s d : TypeId} {x x' v : Value} {h' : Heap} (hid : μ id = none) (hh : h.get id = none) (hx : VR μ x x') (hl : aConvert P id h s d x = some (v, h')) : Does P (convert s d x') id nx μ h w v h' := by
  unfold aConvert at hl
  split at hl
  · rename_i e b o sp len cap hs hd
    split at hl
    · rename_i he
      have he := isU8_eq he
      have main : ∀ (a : Addr) (cap' : Nat) (ns : List Int), x' = .slice (some a) len cap' → (loadCells a len).run P w = .ok (ns.map (Value.int .u8)).toArray w → (convert s d x').run P w = .ok (.string (textOf ns)) w := by
        rintro a cap' ns rfl hload
        rw [run_convert_bytes_string w s d e (some a) len cap' hs he hd, run_bytesToString w a len cap' ns hload, textOf_fold]
        have he0 : ByteArray.empty.data = #[] := rfl
        rw [he0]
        simp [textOf]
      split at hl
      · rename_i hlen
        cases hl
        subst hlen
        have h0 : ∀ a : Addr, (loadCells a 0).run P w = .ok (([] : List Int).map (Value.int .u8)).toArray w := fun a => by simp [loadCells, loadCellsFrom]
        refine Does.still r (v' := .string ⟨#[]⟩) ?_ (.dat rfl)
        cases hx with
        | dat hd => simp [dat] at hd
        | slice hp => exact main _ _ [] rfl (h0 _)
        | sliceG hp => exact main _ _ [] rfl (h0 _)
        | sliceE => exact main _ _ [] rfl (h0 _)
      · rename_i hlen
        split at hl
        · rename_i c e' g hb
          split at hl
          · rename_i hn
            split at hl
            · rename_i ns hns
              cases hl
              have hcs := bytesOf_eq hns
              have load : ∀ (p : Place), μ b = some p → (loadCells ⟨p.blk, o + p.disp, none⟩ len).run P w = .ok (ns.map (Value.int .u8)).toArray w := by
                intro p hp
                obtain ⟨cs', hcl, hcr, hcc⟩ := r.span hb hp o len hn.2
                rw [hcs] at hcr
                have := hcr.eq_of_dats (bytes_dat ns)
                subst this
                have := run_loadCells_list (P := P) w ⟨p.blk, o + p.disp, none⟩ (ns.map (Value.int .u8)) hcc
                rw [hcl] at this
                exact this
              refine Does.still r (v' := .string (textOf ns)) ?_ (.dat rfl)
              cases hx with
              | dat hd => simp [dat] at hd
              | slice hp => exact main _ _ _ rfl (load _ hp)
              | sliceG hp => exact main _ _ _ rfl (load _ hp)
              | sliceE => simp at hlen
            · cases hl
          · cases hl
        · cases hl
    · cases hl
  · rename_i e1 e b o sp len cap hs hd
    split at hl
    · rename_i hc
      obtain ⟨rfl, he, hcap⟩ := hc
      have he := isU8_eq he
      split at hl
      · rename_i c t g hb
        cases hl
        have main : ∀ (p : Place) (cap' : Nat), μ b = some p → x' = .slice (some ⟨p.blk, o + p.disp, none⟩) len cap' → Does P (convert s s x') id nx μ h w (.slice (some ⟨b, o, sp⟩) len cap) (h.set b (some (.cells c t g))) := by
          intro p cap' hp hxe
          obtain ⟨μ', w', h1, h2, h3⟩ := mark_sound (P := P) (id := id) (nx := nx) (o := o + p.disp) r hb hp
          refine ⟨μ', x', w', ?_, hx.mono h3.le, h2, h3⟩
          subst hxe
          have : e1 = e := by rw [hs] at hd; cases hd; rfl
          subst this
          simp [convert, run_underlying hs, run_underlying he, h1]
        cases hx with
        | dat hd => simp [dat] at hd
        | slice hp => exact main _ _ hp rfl
        | sliceG hp => exact main _ _ hp rfl
        | sliceE => simp at hcap
      · cases hl
    · cases hl
  · rename_i e bs hs hd
    split at hl
    · rename_i hc
      have he := isU8_eq hc.1
      cases hl
      cases hx.eq_of_dat rfl
      have hge : bs.size ≤ grownCap w bs.size 0 e := grownCap_ge w bs.size 0 e
      have hlen : (bytesRow bs (grownCap w bs.size 0 e)).toList = (bs.data.map fun b => (Value.int .u8 b.toNat)).toList ++ List.replicate (grownCap w bs.size 0 e - bs.size) (.int .u8 0) := by
        simp only [bytesRow, Array.toList_append, Array.toList_replicate]
      have hdl : (bs.data.map fun b => (Value.int .u8 b.toNat)).toList.length = bs.size := by
        rw [Array.length_toList, Array.size_map]
        rfl
      have hrl : (bytesRow bs (grownCap w bs.size 0 e)).toList.length = grownCap w bs.size 0 e * 1 := by
        rw [hlen, List.length_append, hdl, List.length_replicate]
        omega
      have hsz : (bytesRow bs (grownCap w bs.size 0 e)).size = (bytesRow bs (grownCap w bs.size 0 e)).toList.length := by rw [Array.length_toList]
      obtain ⟨μ', p1, p2, p3⟩ := made_row (nx := nx) (r.drew (w.drawn + 1)) e (c := (bs.data.map fun b => (Value.int .u8 b.toNat)).toList) (c' := (bytesRow bs (grownCap w bs.size 0 e)).toList) (s := 1) (m := grownCap w bs.size 0 e) hc.2 hid hh hrl (by rw [hdl]; omega)
        (by
          rw [hlen, List.take_left]
          exact VRs.dats (dats_bytes _)) ((bytesRow bs (grownCap w bs.size 0 e)).size, (bytesRow bs (grownCap w bs.size 0 e)).size + 1) (.inr (by rw [hsz]))
      refine ⟨μ', _, _, run_bytes_of_string w s d e bs hs hd he, ?_, by simpa using p2, by simpa using (Goes.drew (Goes.refl _ _ _ _ _) _).trans p3⟩
      have := VR.sliceG (o := 0) (e := 0) (len := bs.size) p1
      simpa using this
    · cases hl
  · rename_i hs hd _ _ _
    split at hl
    · rename_i hc
      split at hl
      · rename_i v hv
        cases hl
        rw [hx.eq_of_closed hc]
        exact aPure_sound r hv
      · cases hl
    · cases hl
  · cases hl
end
end Go.Ge
