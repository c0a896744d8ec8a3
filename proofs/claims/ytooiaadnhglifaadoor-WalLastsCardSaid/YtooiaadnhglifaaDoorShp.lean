/-
  Plain: the sums of bytes by words, rounds, blocks; what is written piece by piece.
-/
set_option linter.unusedVariables false
set_option linter.unusedSimpArgs false
namespace Go.Proofs.YtooiaadnhglifaaDoor

/-- the words of the state -/
structure St where
  a : UInt32
  b : UInt32
  c : UInt32
  d : UInt32
  e : UInt32
  f : UInt32
  g : UInt32
  h : UInt32
def St.l (s : St) : List UInt32 := [s.a, s.b, s.c, s.d, s.e, s.f, s.g, s.h]
def St.add (s t : St) : St := ⟨s.a + t.a, s.b + t.b, s.c + t.c, s.d + t.d, s.e + t.e, s.f + t.f, s.g + t.g, s.h + t.h⟩
def firstS : St := ⟨1779033703, 3144134277, 1013904242, 2773480762, 1359893119, 2600822924, 528734635, 1541459225⟩
def roundsS : List UInt32 := [1116352408, 1899447441, 3049323471, 3921009573, 961987163, 1508970993, 2453635748, 2870763221, 3624381080, 310598401, 607225278, 1426881987, 1925078388, 2162078206, 2614888103, 3248222580, 3835390401, 4022224774, 264347078, 604807628, 770255983, 1249150122, 1555081692, 1996064986, 2554220882, 2821834349, 2952996808, 3210313671, 3336571891, 3584528711, 113926993, 338241895, 666307205, 773529912, 1294757372, 1396182291, 1695183700, 1986661051, 2177026350, 2456956037, 2730485921, 2820302411, 3259730800, 3345764771, 3516065817, 3600352804, 4094571909, 275423344, 430227734, 506948616, 659060556, 883997877, 958139571, 1322822218, 1537002063, 1747873779, 1955562222, 2024104815, 2227730452, 2361852424, 2428436474, 2756734187, 3204031479, 3329325298]
theorem roundsS_len : roundsS.length = 64 := rfl
/-- a word of which the bits went round to the right -/
def rotS (x : UInt32) (n : Nat) : UInt32 := UInt32.ofNat (x.toNat / 2 ^ n ||| x.toNat * 2 ^ (32 - n) % 4294967296)
def shrS (x : UInt32) (n : Nat) : UInt32 := UInt32.ofNat (x.toNat / 2 ^ n)
def s0S (x : UInt32) : UInt32 := rotS x 7 ^^^ rotS x 18 ^^^ shrS x 3
def s1S (x : UInt32) : UInt32 := rotS x 17 ^^^ rotS x 19 ^^^ shrS x 10
def b0S (x : UInt32) : UInt32 := rotS x 2 ^^^ rotS x 13 ^^^ rotS x 22
def b1S (x : UInt32) : UInt32 := rotS x 6 ^^^ rotS x 11 ^^^ rotS x 25
def chS (e f g : UInt32) : UInt32 := (e &&& f) ^^^ ((4294967295 ^^^ e) &&& g)
def majS (a b c : UInt32) : UInt32 := (a &&& b) ^^^ (a &&& c) ^^^ (b &&& c)
def t1S (s : St) (k w : UInt32) : UInt32 := s.h + b1S s.e + chS s.e s.f s.g + k + w
def t2S (s : St) : UInt32 := b0S s.a + majS s.a s.b s.c
def rndS (s : St) (k w : UInt32) : St := ⟨t1S s k w + t2S s, s.a, s.b, s.c, s.d + t1S s k w, s.e, s.f, s.g⟩
def rndsS (ws : List UInt32) (s : St) : Nat → St
  | 0 => s
  | n + 1 => rndS (rndsS ws s n) (roundsS.getD n 0) (ws.getD n 0)
/-- the word that four bytes are -/
def wrdS (l : List UInt8) (i : Nat) : UInt32 := UInt32.ofNat ((l.getD i 0).toNat * 16777216 + (l.getD (i + 1) 0).toNat * 65536 + (l.getD (i + 2) 0).toNat * 256 + (l.getD (i + 3) 0).toNat)
def nxtS (l : List UInt32) : UInt32 := l.getD (l.length - 16) 0 + l.getD (l.length - 7) 0 + s0S (l.getD (l.length - 15) 0) + s1S (l.getD (l.length - 2) 0)
def schS (l : List UInt8) : Nat → List UInt32
  | 0 => []
  | n + 1 => schS l n ++ [if n < 16 then wrdS l (4 * n) else nxtS (schS l n)]
theorem schS_len (l : List UInt8) (n : Nat) : (schS l n).length = n := by
  induction n with
  | zero => rfl
  | succ n ih => simp [schS, ih]
/-- the state behind a block more -/
def cmpS (s : St) (l : List UInt8) : St := (rndsS (schS l 64) s 64).add s
/-- the state behind the first blocks of bytes -/
def blkS (l : List UInt8) : Nat → St
  | 0 => firstS
  | n + 1 => cmpS (blkS l n) ((l.drop (64 * n)).take 64)
/-- a word's bytes -/
def by4S (w : UInt32) : List UInt8 := [UInt8.ofNat (w.toNat / 16777216), UInt8.ofNat (w.toNat / 65536), UInt8.ofNat (w.toNat / 256), UInt8.ofNat w.toNat]
def be8S (n : Nat) : List UInt8 := by4S (UInt32.ofNat (n / 4294967296)) ++ by4S (UInt32.ofNat n)
def zerosS (n : Nat) : Nat := (119 - n % 64) % 64
/-- what stands behind so many bytes -/
def endS (n : Nat) : List UInt8 := 128 :: (List.replicate (zerosS n) 0 ++ be8S (8 * n))
def padS (l : List UInt8) : List UInt8 := l ++ endS l.length
def stS (l : List UInt8) : St := blkS l (l.length / 64)
def outS (s : St) : List UInt8 := s.l.flatMap by4S
/-- the sum of bytes -/
def sumS (l : List UInt8) : List UInt8 := outS (stS (padS l))
def digS (n : Nat) : UInt8 := UInt8.ofNat (if n < 10 then 48 + n else 87 + n)
def hexS (l : List UInt8) : List UInt8 := l.flatMap fun c => [digS (c.toNat / 16), digS (c.toNat % 16)]

theorem sumS_len (l : List UInt8) : (sumS l).length = 32 := rfl
theorem endS_len (n : Nat) : (endS n).length = 9 + zerosS n := by
  simp [endS, be8S, by4S]; omega
theorem padS_mod (l : List UInt8) : (padS l).length % 64 = 0 := by
  simp only [padS, List.length_append, endS_len, zerosS]; omega
theorem blkS_append (l m : List UInt8) (n : Nat) (h : 64 * n ≤ l.length) : blkS (l ++ m) n = blkS l n := by
  induction n with
  | zero => rfl
  | succ n ih =>
    have e : ((l ++ m).drop (64 * n)).take 64 = (l.drop (64 * n)).take 64 := by
      rw [List.drop_append_of_le_length (by omega), List.take_append_of_le_length (by simp; omega)]
    rw [blkS, blkS, ih (by omega), e]

/-- what is kept of the bytes so far: the state behind the whole blocks, and the beginning of the next one -/
structure Kept (l : List UInt8) (s : St) (r : List UInt8) : Prop where
  st : s = stS l
  len : r.length = 64
  top : r.take (l.length % 64) = l.drop (64 * (l.length / 64))
theorem kept_nil : Kept [] firstS (List.replicate 64 0) := ⟨rfl, rfl, rfl⟩
/-- a piece more that leaves the block unfinished -/
theorem kept_on {l : List UInt8} {s : St} {r p : List UInt8} (h : Kept l s r) (hp : l.length % 64 + p.length < 64) : Kept (l ++ p) s (r.take (l.length % 64) ++ (p ++ r.drop (l.length % 64 + p.length))) := by
  obtain ⟨h1, h2, h3⟩ := h
  have e : (l ++ p).length / 64 = l.length / 64 := by rw [List.length_append]; omega
  have e2 : (l ++ p).length % 64 = l.length % 64 + p.length := by rw [List.length_append]; omega
  refine ⟨?_, by simp; omega, ?_⟩
  · rw [h1, stS, stS, e, blkS_append _ _ _ (by omega)]
  · rw [e2, e, ← List.append_assoc, List.take_append_of_le_length (by simp; omega), List.take_of_length_le (by simp; omega), List.drop_append_of_le_length (by omega), h3]
/-- a piece that ends a block -/
theorem kept_full {l : List UInt8} {s : St} {r p : List UInt8} (h : Kept l s r) (hp : l.length % 64 + p.length = 64) : Kept (l ++ p) (cmpS s (r.take (l.length % 64) ++ (p ++ r.drop (l.length % 64 + p.length)))) (r.take (l.length % 64) ++ (p ++ r.drop (l.length % 64 + p.length))) := by
  obtain ⟨h1, h2, h3⟩ := h
  have e : (l ++ p).length / 64 = l.length / 64 + 1 := by rw [List.length_append]; omega
  have e2 : (l ++ p).length % 64 = 0 := by rw [List.length_append]; omega
  have e3 : r.drop (l.length % 64 + p.length) = [] := List.drop_of_length_le (by omega)
  refine ⟨?_, by simp; omega, ?_⟩
  · rw [h1, show stS (l ++ p) = blkS (l ++ p) ((l ++ p).length / 64) from rfl, e, blkS, blkS_append _ _ _ (by omega), e3, List.append_nil, h3, List.drop_append_of_le_length (by omega), List.take_of_length_le (by simp; omega)]
    rfl
  · rw [e2, e, List.take_zero, List.drop_of_length_le (by simp; omega)]
end Go.Proofs.YtooiaadnhglifaaDoor
