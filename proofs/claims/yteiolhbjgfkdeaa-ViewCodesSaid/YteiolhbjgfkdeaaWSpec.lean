import Derived.Lib.Varint
import Derived.Lib.VarintDec
import Derived.Lib.Zigzag
import Derived.Lib.UnsafeStr
namespace Go.Proofs.Yteiolhbjgfkdeaa.W
open Go.Lib (uvarint zigzag unzigzag uvarint_small uvarint_big uvarint_pos)

/-- A decoded number: the value, the bytes used, the error's number. -/
def uFrom : Nat → Nat → List UInt8 → Nat × Nat × Nat
  | _, _, [] => (0, 0, 2)
  | i, acc, c :: r =>
    if (i = 9 ∧ 1 < c.toNat) ∨ (0 < i ∧ c.toNat = 0) then (0, 0, 3)
    else if c.toNat < 128 then (acc + c.toNat % 128 * 2 ^ (7 * i), i + 1, 0)
    else uFrom (i + 1) (acc + c.toNat % 128 * 2 ^ (7 * i)) r
def rdU (b : List UInt8) : Nat × Nat × Nat := uFrom 0 0 b
def rdI (b : List UInt8) : Int × Nat × Nat := if (rdU b).2.2 = 0 then (unzigzag (rdU b).1, (rdU b).2.1, 0) else (0, 0, (rdU b).2.2)
def rdLen (b : List UInt8) (max : Int) : Nat × Nat × Nat :=
  if max < 0 then (0, 0, 1) else if (rdU b).2.2 ≠ 0 then (0, 0, (rdU b).2.2) else if max < ((rdU b).1 : Int) then (0, 0, 5) else rdU b
def rdS (b : List UInt8) (max : Int) : List UInt8 × Nat × Nat :=
  if (rdLen b max).2.2 ≠ 0 then ([], 0, (rdLen b max).2.2)
  else if b.length - (rdLen b max).2.1 < (rdLen b max).1 then ([], 0, 2)
  else ((b.drop (rdLen b max).2.1).take (rdLen b max).1, (rdLen b max).2.1 + (rdLen b max).1, 0)
section
variable {α : Type}
/-- The rest of a list: k elements more, read from place 'at' on. -/
def rdLoop (el : List UInt8 → α × Nat × Nat) (b : List UInt8) : Nat → List α → Nat → List α × Nat × Nat
  | 0, out, n => (out, n, 0)
  | k + 1, out, n => if (el (b.drop n)).2.2 ≠ 0 then ([], 0, (el (b.drop n)).2.2) else rdLoop el b k (out ++ [(el (b.drop n)).1]) (n + (el (b.drop n)).2.1)
def rdL (el : List UInt8 → α × Nat × Nat) (b : List UInt8) (max : Int) : List α × Nat × Nat :=
  if (rdLen b max).2.2 ≠ 0 then ([], 0, (rdLen b max).2.2) else rdLoop el b (rdLen b max).1 [] (rdLen b max).2.1
end
def rdIs (b : List UInt8) (max : Int) : List Int × Nat × Nat := rdL rdI b max
def rdS64 (b : List UInt8) : List UInt8 × Nat × Nat := rdS b 64
def rdSs (b : List UInt8) (max : Int) : List (List UInt8) × Nat × Nat := rdL rdS64 b max
def enU (v : Nat) : List UInt8 := uvarint v
def enI (v : Int) : List UInt8 := uvarint (zigzag v)
def enS (s : List UInt8) : List UInt8 := enU s.length ++ s
def enIs (l : List Int) : List UInt8 := enU l.length ++ l.flatMap enI
def enSs (l : List (List UInt8)) : List UInt8 := enU l.length ++ l.flatMap enS
/-- A value of the actor language, as data. -/
structure GV where
  kind : Int
  n : Int
  s : List UInt8
  i : List Int
  l : List (List UInt8)
def tooL (l : List (List UInt8)) : Bool := l.any fun s => decide (64 < s.length)
def GV.ok (v : GV) : Bool :=
  (v.kind == 0 && v.n == 0 && v.s.isEmpty && ((v.i.length : Int) == 0) && ((v.l.length : Int) == 0)) ||
  (v.kind == 1 && v.s.isEmpty && ((v.i.length : Int) == 0) && ((v.l.length : Int) == 0)) ||
  (v.kind == 2 && (v.n == 0 || v.n == 1) && v.s.isEmpty && ((v.i.length : Int) == 0) && ((v.l.length : Int) == 0)) ||
  (v.kind == 3 && decide ((v.s.length : Int) ≤ 64) && v.n == 0 && ((v.i.length : Int) == 0) && ((v.l.length : Int) == 0)) ||
  (v.kind == 4 && decide ((v.i.length : Int) ≤ 16) && v.n == 0 && v.s.isEmpty && ((v.l.length : Int) == 0)) ||
  (v.kind == 5 && decide ((v.l.length : Int) ≤ 16) && !(tooL v.l) && v.n == 0 && v.s.isEmpty && ((v.i.length : Int) == 0))
def zeroGV (k : Int) : GV := ⟨k, 0, [], [], []⟩
def enV (v : GV) : List UInt8 :=
  v.kind.toNat.toUInt8 :: (if v.kind = 1 then enI v.n else if v.kind = 2 then [v.n.toNat.toUInt8] else if v.kind = 3 then enS v.s else if v.kind = 4 then enIs v.i else if v.kind = 5 then enSs v.l else [])
def rdB : List UInt8 → Int × Nat × Nat
  | [] => (0, 0, 2)
  | c :: _ => if 1 < c.toNat then (0, 0, 3) else ((c.toNat : Int), 1, 0)
def rdVb (k : Nat) (r : List UInt8) : GV × Nat × Nat :=
  if k = 0 then (zeroGV 0, 0, 0)
  else if k = 1 then ({ zeroGV 1 with n := (rdI r).1 }, (rdI r).2.1, (rdI r).2.2)
  else if k = 2 then ({ zeroGV 2 with n := (rdB r).1 }, (rdB r).2.1, (rdB r).2.2)
  else if k = 3 then ({ zeroGV 3 with s := (rdS r 64).1 }, (rdS r 64).2.1, (rdS r 64).2.2)
  else if k = 4 then ({ zeroGV 4 with i := (rdIs r 16).1 }, (rdIs r 16).2.1, (rdIs r 16).2.2)
  else if k = 5 then ({ zeroGV 5 with l := (rdSs r 16).1 }, (rdSs r 16).2.1, (rdSs r 16).2.2)
  else (zeroGV 0, 0, 3)
def rdV : List UInt8 → GV × Nat × Nat
  | [] => (zeroGV 0, 0, 2)
  | c :: r => if (rdVb c.toNat r).2.2 ≠ 0 then (zeroGV 0, 0, (rdVb c.toNat r).2.2) else ((rdVb c.toNat r).1, 1 + (rdVb c.toNat r).2.1, 0)
/-! ### checksums -/
def P32 : BitVec 32 := 0xEDB88320#32
def bit1 (s : BitVec 32) : BitVec 32 := if s.getLsbD 0 then (s >>> 1) ^^^ P32 else s >>> 1
def bits8 (s : BitVec 32) : BitVec 32 := bit1 (bit1 (bit1 (bit1 (bit1 (bit1 (bit1 (bit1 s)))))))
def byte1 (s : BitVec 32) (c : UInt8) : BitVec 32 := bits8 (s ^^^ BitVec.ofNat 32 c.toNat)
def crcFrom (s : BitVec 32) (b : List UInt8) : BitVec 32 := b.foldl byte1 s
def crc (b : List UInt8) : BitVec 32 := ~~~ crcFrom (BitVec.allOnes 32) b
def low4 (c : BitVec 32) : List UInt8 := [(c.toNat % 256).toUInt8, (c.toNat / 256 % 256).toUInt8, (c.toNat / 65536 % 256).toUInt8, (c.toNat / 16777216 % 256).toUInt8]
def sealB (kind : Int) (body : List UInt8) : List UInt8 := 65 :: 71 :: kind.toNat.toUInt8 :: (enU body.length ++ body)
def rdSeal (kind : Int) (body : List UInt8) : List UInt8 × Nat :=
  if kind < 1 ∨ 255 < kind ∨ 16777216 < body.length then ([], 1) else (sealB kind body ++ low4 (crc (sealB kind body)), 0)
def rdOpen (b : List UInt8) : Int × List UInt8 × Nat × Nat :=
  if b.length < 3 then (0, [], 0, 2)
  else if b.getD 0 0 ≠ 65 ∨ b.getD 1 0 ≠ 71 ∨ b.getD 2 0 = 0 then (0, [], 0, 3)
  else if (rdLen (b.drop 3) 16777216).2.2 ≠ 0 then (0, [], 0, (rdLen (b.drop 3) 16777216).2.2)
  else if b.length - (3 + (rdLen (b.drop 3) 16777216).2.1) < (rdLen (b.drop 3) 16777216).1 + 4 then (0, [], 0, 2)
  else if (b.drop (3 + (rdLen (b.drop 3) 16777216).2.1 + (rdLen (b.drop 3) 16777216).1)).take 4 ≠ low4 (crc (b.take (3 + (rdLen (b.drop 3) 16777216).2.1 + (rdLen (b.drop 3) 16777216).1))) then (0, [], 0, 4)
  else (((b.getD 2 0).toNat : Int), (b.drop (3 + (rdLen (b.drop 3) 16777216).2.1)).take (rdLen (b.drop 3) 16777216).1, 3 + (rdLen (b.drop 3) 16777216).2.1 + (rdLen (b.drop 3) 16777216).1 + 4, 0)
end Go.Proofs.Yteiolhbjgfkdeaa.W
