/- SHA-256 as a function on lists of bytes: words of 32 bits, blocks of 64 bytes, the state behind n blocks, the text with what follows it. Nothing of the program stands here. -/
namespace Go.Proofs.YtfbjakhanjbaeaaDoor.S

def rotr (n : Nat) (x : UInt32) : UInt32 := UInt32.ofNat (x.toNat * 2 ^ (32 - n)) ||| UInt32.ofNat (x.toNat / 2 ^ n)
def shr (n : Nat) (x : UInt32) : UInt32 := UInt32.ofNat (x.toNat / 2 ^ n)
def ss0 (x : UInt32) : UInt32 := rotr 7 x ^^^ rotr 18 x ^^^ shr 3 x
def ss1 (x : UInt32) : UInt32 := rotr 17 x ^^^ rotr 19 x ^^^ shr 10 x
def bs0 (x : UInt32) : UInt32 := rotr 2 x ^^^ rotr 13 x ^^^ rotr 22 x
def bs1 (x : UInt32) : UInt32 := rotr 6 x ^^^ rotr 11 x ^^^ rotr 25 x
def ch (e f g : UInt32) : UInt32 := (e &&& f) ^^^ (~~~e &&& g)
def maj (a b c : UInt32) : UInt32 := (a &&& b) ^^^ (a &&& c) ^^^ (b &&& c)

def kList : List UInt32 := [
  0x428a2f98, 0x71374491, 0xb5c0fbcf, 0xe9b5dba5, 0x3956c25b, 0x59f111f1, 0x923f82a4, 0xab1c5ed5,
  0xd807aa98, 0x12835b01, 0x243185be, 0x550c7dc3, 0x72be5d74, 0x80deb1fe, 0x9bdc06a7, 0xc19bf174,
  0xe49b69c1, 0xefbe4786, 0x0fc19dc6, 0x240ca1cc, 0x2de92c6f, 0x4a7484aa, 0x5cb0a9dc, 0x76f988da,
  0x983e5152, 0xa831c66d, 0xb00327c8, 0xbf597fc7, 0xc6e00bf3, 0xd5a79147, 0x06ca6351, 0x14292967,
  0x27b70a85, 0x2e1b2138, 0x4d2c6dfc, 0x53380d13, 0x650a7354, 0x766a0abb, 0x81c2c92e, 0x92722c85,
  0xa2bfe8a1, 0xa81a664b, 0xc24b8b70, 0xc76c51a3, 0xd192e819, 0xd6990624, 0xf40e3585, 0x106aa070,
  0x19a4c116, 0x1e376c08, 0x2748774c, 0x34b0bcb5, 0x391c0cb3, 0x4ed8aa4a, 0x5b9cca4f, 0x682e6ff3,
  0x748f82ee, 0x78a5636f, 0x84c87814, 0x8cc70208, 0x90befffa, 0xa4506ceb, 0xbef9a3f7, 0xc67178f2]
def hList : List UInt32 := [0x6a09e667, 0xbb67ae85, 0x3c6ef372, 0xa54ff53a, 0x510e527f, 0x9b05688c, 0x1f83d9ab, 0x5be0cd19]
def kw (t : Nat) : UInt32 := kList.getD t 0

/-- one word of a block: four bytes -/
def word (a b c d : UInt8) : UInt32 := UInt32.ofNat (((a.toNat * 256 + b.toNat) * 256 + c.toNat) * 256 + d.toNat)
/-- the bytes i of a block, as a function -/
def by8 (b : List UInt8) (i : Nat) : UInt8 := b.getD i 0
/-- the word t of a block's 64: the first sixteen are the block's own -/
def w16 (b : List UInt8) (t : Nat) : UInt32 := word (by8 b (4 * t)) (by8 b (4 * t + 1)) (by8 b (4 * t + 2)) (by8 b (4 * t + 3))
def ws16 (b : List UInt8) : List UInt32 := (List.range 16).map (w16 b)
def nextW (l : List UInt32) : UInt32 := ss1 (l.getD (l.length - 2) 0) + l.getD (l.length - 7) 0 + ss0 (l.getD (l.length - 15) 0) + l.getD (l.length - 16) 0
def ext (l : List UInt32) : Nat → List UInt32
  | 0 => l
  | k + 1 => ext l k ++ [nextW (ext l k)]
def sched (b : List UInt8) : List UInt32 := ext (ws16 b) 48

structure St where
  a : UInt32
  b : UInt32
  c : UInt32
  d : UInt32
  e : UInt32
  f : UInt32
  g : UInt32
  h : UInt32
def St.toL (s : St) : List UInt32 := [s.a, s.b, s.c, s.d, s.e, s.f, s.g, s.h]
def t1 (s : St) (k w : UInt32) : UInt32 := s.h + bs1 s.e + ch s.e s.f s.g + k + w
def t2 (s : St) : UInt32 := bs0 s.a + maj s.a s.b s.c
def round (s : St) (k w : UInt32) : St := ⟨t1 s k w + t2 s, s.a, s.b, s.c, s.d + t1 s k w, s.e, s.f, s.g⟩
def rnds (W : List UInt32) (s : St) : Nat → St
  | 0 => s
  | t + 1 => round (rnds W s t) (kw t) (W.getD t 0)
def St.add (s r : St) : St := ⟨s.a + r.a, s.b + r.b, s.c + r.c, s.d + r.d, s.e + r.e, s.f + r.f, s.g + r.g, s.h + r.h⟩
def mix (s : St) (b : List UInt8) : St := s.add (rnds (sched b) s 64)
def init : St := ⟨0x6a09e667, 0xbb67ae85, 0x3c6ef372, 0xa54ff53a, 0x510e527f, 0x9b05688c, 0x1f83d9ab, 0x5be0cd19⟩

/-- the state behind n blocks of m -/
def stN (m : List UInt8) : Nat → St
  | 0 => init
  | n + 1 => mix (stN m n) ((m.drop (64 * n)).take 64)
def be8 (n : Nat) : List UInt8 := (List.range 8).map fun i => UInt8.ofNat (n / 256 ^ (7 - i))
def zeros (n : Nat) : Nat := (119 - n % 64) % 64
def pad (m : List UInt8) : List UInt8 := m ++ [128] ++ List.replicate (zeros m.length) 0 ++ be8 (8 * m.length)
def digB (s : St) : List UInt8 := (List.range 32).map fun i => UInt8.ofNat ((s.toL.getD (i / 4) 0).toNat / 2 ^ (24 - 8 * (i % 4)))
def sha (m : List UInt8) : List UInt8 := digB (stN (pad m) ((pad m).length / 64))

theorem digB_length (s : St) : (digB s).length = 32 := by simp [digB]
theorem be8_length (n : Nat) : (be8 n).length = 8 := by simp [be8]
theorem sha_length (m : List UInt8) : (sha m).length = 32 := digB_length _
theorem ws16_length (b : List UInt8) : (ws16 b).length = 16 := by simp [ws16]
theorem ext_length (l : List UInt32) (k : Nat) : (ext l k).length = l.length + k := by
  induction k with
  | zero => rfl
  | succ k ih => simp [ext, ih]; omega
theorem pad_length (m : List UInt8) : (pad m).length = m.length + 9 + zeros m.length := by simp [pad, be8_length]; omega
theorem pad_mod (m : List UInt8) : (pad m).length % 64 = 0 := by rw [pad_length]; unfold zeros; omega

/-- more behind whole blocks turns nothing of them -/
theorem stN_append (m t : List UInt8) (n : Nat) (h : 64 * n ≤ m.length) : stN (m ++ t) n = stN m n := by
  induction n with
  | zero => rfl
  | succ n ih =>
    simp only [stN]
    rw [ih (by omega), List.drop_append_of_le_length (by omega), List.take_append_of_le_length (by rw [List.length_drop]; omega)]

set_option maxRecDepth 100000 in
theorem abc : sha [97, 98, 99] = [0xba, 0x78, 0x16, 0xbf, 0x8f, 0x01, 0xcf, 0xea, 0x41, 0x41, 0x40, 0xde, 0x5d, 0xae, 0x22, 0x23, 0xb0, 0x03, 0x61, 0xa3, 0x96, 0x17, 0x7a, 0x9c, 0xb4, 0x10, 0xff, 0x61, 0xf2, 0x00, 0x15, 0xad] := by decide +kernel

end Go.Proofs.YtfbjakhanjbaeaaDoor.S
