/-
  Terms, flat literals and texts as they lie in memory.
-/
import Derived.Test.YtbkdpdklpmcdgaaRws
import Derived.Test.YtbkdpdklpmcdgaaMps
set_option linter.unusedVariables false
set_option linter.unusedSimpArgs false
namespace Go.Proofs.Ytbkdpdklpmcdgaa
open Go.Maps Go.ChangeMaps Go.WideMaps Go.RowKit

structure Tm where
  v : ByteArray
  s : ByteArray
  n : Int
def encM (t : Tm) : List Value := [.string t.v, .string t.s, .int .i64 t.n]
theorem EM : Enc encM 3 := ⟨fun _ => rfl, by decide, fun a u hu => by simp [encM] at hu; rcases hu with rfl | rfl | rfl <;> rfl⟩
abbrev Tms := Rd encM 3
theorem rdM_at {w : World} {B : Nat} {p : Option Addr} {l : List Tm} (h : Tms w B p l) (i : Nat) (hi : i < l.length) : ∃ b o, p = some ⟨b, o, none⟩ ∧ b < B ∧ w.cell? ⟨b, o + i * 3, none⟩ = some (.string l[i].v) ∧ w.cell? ⟨b, o + i * 3 + 1, none⟩ = some (.string l[i].s) ∧ w.cell? ⟨b, o + i * 3 + 2, none⟩ = some (.int .i64 l[i].n) := by
  obtain ⟨b, o, rfl, hb, hc⟩ := h.at i hi
  exact ⟨b, o, rfl, hb, hc 0 _ rfl, hc 1 _ rfl, hc 2 _ rfl⟩
/-- A flat literal; where its terms lie. -/
structure Fl where
  kind : Int
  pred : ByteArray
  ptr : Option Addr
  cap : Nat
  args : List Tm
def encF (f : Fl) : List Value := [.int .u8 f.kind, .string f.pred, .slice f.ptr f.args.length f.cap]
def Fl.agg (f : Fl) : Value := .agg #[.int .u8 f.kind, .string f.pred, .slice f.ptr f.args.length f.cap]
theorem EF : Enc encF 3 := ⟨fun _ => rfl, by decide, fun a u hu => by simp [encF] at hu; rcases hu with rfl | rfl | rfl <;> rfl⟩
theorem rdF_at {w : World} {B : Nat} {p : Option Addr} {l : List Fl} (h : Rd encF 3 w B p l) (i : Nat) (hi : i < l.length) : ∃ b o, p = some ⟨b, o, none⟩ ∧ b < B ∧ w.cell? ⟨b, o + i * 3, none⟩ = some (.int .u8 l[i].kind) ∧ w.cell? ⟨b, o + i * 3 + 1, none⟩ = some (.string l[i].pred) ∧ w.cell? ⟨b, o + i * 3 + 2, none⟩ = some (.slice l[i].ptr l[i].args.length l[i].cap) := by
  obtain ⟨b, o, rfl, hb, hc⟩ := h.at i hi
  exact ⟨b, o, rfl, hb, hc 0 _ rfl, hc 1 _ rfl, hc 2 _ rfl⟩
def encS (x : ByteArray) : List Value := [.string x]
theorem ES : Enc encS 1 := ⟨fun _ => rfl, by decide, fun a u hu => by simp [encS] at hu; subst hu; rfl⟩
theorem ES.one (x : ByteArray) : ∀ u ∈ [Value.string x], u.oneCell' = true := fun u hu => by simp at hu; subst hu; rfl
theorem rdS_at {w : World} {B : Nat} {p : Option Addr} {l : List ByteArray} (h : Rd encS 1 w B p l) (i : Nat) (hi : i < l.length) : ∃ b o, p = some ⟨b, o, none⟩ ∧ b < B ∧ w.cell? ⟨b, o + i, none⟩ = some (.string l[i]) := by
  obtain ⟨b, o, rfl, hb, hc⟩ := h.at i hi
  exact ⟨b, o, rfl, hb, by have := hc 0 _ rfl; simpa using this⟩
theorem underSs : Try.prog.underlying 38 = some (.slice 9) := Try.underlying38
theorem infoStr : (Try.prog.info? 9).map (fun i => (i.zero, i.size, i.bytes)) = some (some (.string ⟨#[]⟩), 1, 16) := by kernel_rfl
theorem info_parts {t : TypeId} {z : Value} {s b : Nat} (h : (Try.prog.info? t).map (fun i => (i.zero, i.size, i.bytes)) = some (some z, s, b)) : ∃ i, Try.prog.info? t = some i ∧ i.zero = some z ∧ i.size = s ∧ i.bytes = b := by
  cases hi : Try.prog.info? t with
  | none => rw [hi] at h; cases h
  | some i => rw [hi] at h; simp at h; exact ⟨i, rfl, h.1, h.2.1, h.2.2⟩
theorem news_alloc (w : World) (cs : Array Value) (T : TypeId) : ∀ j u, cs.toList[j]? = some u → (w.alloc (.cells cs T)).cell? ((⟨w.heap.size, 0, none⟩ : Addr).add j) = some u := World.news_of_block (heap_alloc_new w _)
theorem own_below {w w' : World} {base e size n : Nat} {v : Value} {xs : List Value} (h : w.ownsRow base e size v n xs) (hb : Below w.heap.size w w') : w'.ownsRow base e size v n xs := owns_on h hb (Nat.le_refl _)
/-- the map from texts -/
theorem skey : SKey Try.prog 9 := fun v hv => by
  unfold keyOf mapKey
  simp [Try.underlying9, hv]
theorem keyedS : Keyed Try.prog 9 := string_keyed Try.underlying9
def unit : Value := .agg #[]
theorem zeroU (w : World) : (zeroValue 55).run Try.prog w = .ok unit w := by kernel_rfl
end Go.Proofs.Ytbkdpdklpmcdgaa
