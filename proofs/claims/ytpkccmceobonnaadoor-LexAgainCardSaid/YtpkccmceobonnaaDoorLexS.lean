/-
  Plain: what a piece is, what the token at a list's head is, what a list's tokens are.
-/
import Derived.Test.YtpkccmceobonnaaDoorReadA
namespace Go.Proofs.YtpkccmceobonnaaDoor
open Go.RowKit

def upB (c : Int) : Bool := decide (65 ≤ c) && decide (c ≤ 90)
def winB (c : Int) : Bool := lowB c || upB c
def wordL (l : List UInt8) : Bool := l == [110, 111, 116] || l == [115, 97, 121, 115]
def nameL (l : List UInt8) : Bool := !l.isEmpty && decide (l.length ≤ 16) && !wordL l && letB (l.headD 0).toNat && l.all fun c => lowB (c.toNat : Int)
def kindL (l : List UInt8) : Int := if wordL l = true then 5 else if (upB (l.headD 0).toNat && decide (l.length ≤ 16)) = true then 2 else if nameL l = true then 1 else if (readN ⟨l.toArray⟩).isSome = true then 3 else 0
theorem wordB_eq (s : ByteArray) : wordB s = wordL s.data.toList := by unfold wordB wordL; rw [ByteArray.toList_eq]
theorem nameB_eq (s : ByteArray) : nameB s = nameL s.data.toList := by
  unfold nameB nameL allB hdB; rw [ByteArray.toList_eq, wordB_eq]; rfl
theorem mk_toList (s : ByteArray) : (⟨s.data.toList.toArray⟩ : ByteArray) = s := by obtain ⟨⟨l⟩⟩ := s; rfl

/-- how many bytes of a piece a list begins with -/
def runL : List UInt8 → Nat
  | [] => 0
  | c :: r => if winB (c.toNat : Int) = true then runL r + 1 else 0
theorem runL_le : ∀ l : List UInt8, runL l ≤ l.length
  | [] => Nat.le_refl _
  | c :: r => by have := runL_le r; rw [runL]; split <;> simp <;> omega

/-- the token at a list's head: an error's number, a kind, a length -/
structure Tk where
  err : Int
  kind : Int
  len : Nat
deriving DecidableEq
def pieceL (l : List UInt8) (n : Nat) : Tk := if kindL (l.take n) = 0 then ⟨5, 0, 0⟩ else ⟨0, kindL (l.take n), n⟩
def oneL : List UInt8 → Tk
  | [] => ⟨1, 0, 0⟩
  | c :: r =>
    if (c.toNat == 32 || c.toNat == 9) = true then ⟨4, 0, 0⟩
    else if (c.toNat == 40 || c.toNat == 41 || c.toNat == 44 || c.toNat == 46 || c.toNat == 60) = true then ⟨0, 4, 1⟩
    else if (c.toNat == 58) = true then (if ((r.headD 0).toNat == 45) = true then ⟨0, 4, 2⟩ else ⟨5, 0, 0⟩)
    else if (c.toNat == 33) = true then (if ((r.headD 0).toNat == 61) = true then ⟨0, 4, 2⟩ else ⟨5, 0, 0⟩)
    else if (c.toNat == 45) = true then (if digB (r.headD 0).toNat = true then pieceL (c :: r) (1 + runL r) else ⟨5, 0, 0⟩)
    else if winB (c.toNat : Int) = true then pieceL (c :: r) (1 + runL r)
    else ⟨5, 0, 0⟩

/-- a token: its kind, from where, to where -/
structure Tok where
  kind : Int
  fr : Int
  to : Int
deriving DecidableEq
structure Toks where
  toks : List Tok
  pl : Int
  err : Int
def Toks.put (t : List Tok) (x : Toks) : Toks := if x.err = 0 then ⟨t ++ x.toks, 0, 0⟩ else ⟨[], x.pl, x.err⟩
def allF : Nat → Nat → List UInt8 → Toks
  | 0, _, _ => ⟨[], 0, 0⟩
  | _ + 1, _, [] => ⟨[], 0, 0⟩
  | f + 1, k, c :: r =>
    if (oneL (c :: r)).err = 4 then allF f (k + 1) r
    else if (oneL (c :: r)).err = 0 then Toks.put [⟨(oneL (c :: r)).kind, k, (k + (oneL (c :: r)).len : Nat)⟩] (allF f (k + (oneL (c :: r)).len) ((c :: r).drop (oneL (c :: r)).len))
    else ⟨[], k, (oneL (c :: r)).err⟩
def allL (l : List UInt8) : Toks := if 4096 < l.length then ⟨[], 0, 2⟩ else allF l.length 0 l

/-- the parts of One's answer -/
def oneA (l : List UInt8) (a : Int) : Tk := if 0 ≤ a ∧ a < l.length then oneL (l.drop a.toNat) else ⟨1, 0, 0⟩
def oneV (l : List UInt8) (a : Int) : Value := let t := oneA l a
  .tuple #[.agg #[.int .u8 t.kind, .int .i64 (if t.err = 0 then a else 0), .int .i64 (if t.err = 0 then a + t.len else 0)], .int .i64 t.err]
theorem pieceL_bd (l : List UInt8) (n : Nat) (h0 : 0 < n) (h1 : n ≤ l.length) : ((pieceL l n).err = 0 → 0 < (pieceL l n).len ∧ (pieceL l n).len ≤ l.length) ∧ ((pieceL l n).err = 0 ∨ (pieceL l n).err = 5) ∧ ((pieceL l n).err ≠ 0 → (pieceL l n).kind = 0) := by
  unfold pieceL; split <;> simp <;> omega
theorem oneL_bd (l : List UInt8) (h : 0 < l.length) : ((oneL l).err = 0 → 0 < (oneL l).len ∧ (oneL l).len ≤ l.length) ∧ ((oneL l).err = 0 ∨ (oneL l).err = 4 ∨ (oneL l).err = 5) ∧ ((oneL l).err ≠ 0 → (oneL l).kind = 0) := by
  cases l with
  | nil => simp at h
  | cons c r =>
    have hp := pieceL_bd (c :: r) (1 + runL r) (by omega) (by have := runL_le r; simp; omega)
    have hh : ∀ n, ((r.headD 0).toNat == n) = true → 0 < n → 0 < r.length := by
      intro n h1 h2
      cases r with
      | nil => simp at h1; omega
      | cons => simp
    rw [oneL]
    split
    · simp
    split
    · exact ⟨fun _ => ⟨by decide, by simp⟩, .inl rfl, fun h => absurd rfl h⟩
    split
    · split
      · rename_i h1; have := hh _ h1 (by omega)
        exact ⟨fun _ => ⟨by decide, by simp; omega⟩, .inl rfl, fun h => absurd rfl h⟩
      · simp
    split
    · split
      · rename_i h1; have := hh _ h1 (by omega)
        exact ⟨fun _ => ⟨by decide, by simp; omega⟩, .inl rfl, fun h => absurd rfl h⟩
      · simp
    split
    · split
      · exact ⟨hp.1, by rcases hp.2.1 with h | h <;> simp [h], hp.2.2⟩
      · simp
    split
    · exact ⟨hp.1, by rcases hp.2.1 with h | h <;> simp [h], hp.2.2⟩
    · simp
end Go.Proofs.YtpkccmceobonnaaDoor
