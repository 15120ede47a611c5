import Derived.Lib.Varint
import Derived.Lib.VarintDec
import Derived.Lib.Zigzag
import Derived.Lib.UnsafeStr
import Derived.Below
import Derived.Laws.OwnMore
import Derived.Deep.AppendLies
import Derived.Deep.Draws
import Derived.Laws.Rows
import Derived.Maps.AppendAt
import Derived.RegionTactic
import Derived.OwnWalk
import Derived.Laws.IdiomStrings
import Derived.Test.YtmnagkjdnmnbkaaRows
import Derived.WalkKit
import Derived.BigGuardPart
import Derived.Lib.Hide
import Derived.Lib.VarintMem
import Derived.Laws.CopyOwn
import Derived.Lib.AppendStr
import Derived.Deep.RegionHeld3
import Derived.Deep.DeepCutAuto
import Derived.Deep.RegionWith
import Derived.Deep.RegionLaw
import Derived.Deep.QuietTactic
import Derived.BigQuiet
import Derived.Lib.SlBytesConst
namespace Go.Proofs.Ytmnagkjdnmnbkaa.W
open Go.Lib (uvarint zigzag unzigzag uvarint_small uvarint_big uvarint_pos)

/-- A decoded number: the value, the bytes used, the error's number. -/
def uFrom : Nat → Nat → List UInt8 → Nat × Nat × Nat
  | _, _, [] => (0, 0, 2)
  | i, acc, c :: r =>
    if (i = 9 ∧ 1 < c.toNat) ∨ (0 < i ∧ c.toNat = 0) then (0, 0, 3)
    else if c.toNat < 128 then (acc + c.toNat % 128 * 2 ^ (7 * i), i + 1, 0)
    else uFrom (i + 1) (acc + c.toNat % 128 * 2 ^ (7 * i)) r
def rdU (b : List UInt8) : Nat × Nat × Nat := uFrom 0 0 b
def rdI (b : List UInt8) : Int × Nat × Nat := if (rdU b).2.2 = 0 then (unzigzag (rdU b).1, (rdU b).2.1, 0) else (0, 0, (rdU b).2.2)
def rdLen (b : List UInt8) (max : Int) : Nat × Nat × Nat :=
  if max < 0 then (0, 0, 1) else if (rdU b).2.2 ≠ 0 then (0, 0, (rdU b).2.2) else if max < ((rdU b).1 : Int) then (0, 0, 5) else rdU b
def rdS (b : List UInt8) (max : Int) : List UInt8 × Nat × Nat :=
  if (rdLen b max).2.2 ≠ 0 then ([], 0, (rdLen b max).2.2)
  else if b.length - (rdLen b max).2.1 < (rdLen b max).1 then ([], 0, 2)
  else ((b.drop (rdLen b max).2.1).take (rdLen b max).1, (rdLen b max).2.1 + (rdLen b max).1, 0)
section
variable {α : Type}
/-- The rest of a list: k elements more, read from place 'at' on. -/
def rdLoop (el : List UInt8 → α × Nat × Nat) (b : List UInt8) : Nat → List α → Nat → List α × Nat × Nat
  | 0, out, n => (out, n, 0)
  | k + 1, out, n => if (el (b.drop n)).2.2 ≠ 0 then ([], 0, (el (b.drop n)).2.2) else rdLoop el b k (out ++ [(el (b.drop n)).1]) (n + (el (b.drop n)).2.1)
def rdL (el : List UInt8 → α × Nat × Nat) (b : List UInt8) (max : Int) : List α × Nat × Nat :=
  if (rdLen b max).2.2 ≠ 0 then ([], 0, (rdLen b max).2.2) else rdLoop el b (rdLen b max).1 [] (rdLen b max).2.1
end
def rdIs (b : List UInt8) (max : Int) : List Int × Nat × Nat := rdL rdI b max
def rdS64 (b : List UInt8) : List UInt8 × Nat × Nat := rdS b 64
def rdSs (b : List UInt8) (max : Int) : List (List UInt8) × Nat × Nat := rdL rdS64 b max
def enU (v : Nat) : List UInt8 := uvarint v
def enI (v : Int) : List UInt8 := uvarint (zigzag v)
def enS (s : List UInt8) : List UInt8 := enU s.length ++ s
def enIs (l : List Int) : List UInt8 := enU l.length ++ l.flatMap enI
def enSs (l : List (List UInt8)) : List UInt8 := enU l.length ++ l.flatMap enS
/-- A value of the actor language, as data. -/
structure GV where
  kind : Int
  n : Int
  s : List UInt8
  i : List Int
  l : List (List UInt8)
def tooL (l : List (List UInt8)) : Bool := l.any fun s => decide (64 < s.length)
def GV.ok (v : GV) : Bool :=
  (v.kind == 0 && v.n == 0 && v.s.isEmpty && ((v.i.length : Int) == 0) && ((v.l.length : Int) == 0)) ||
  (v.kind == 1 && v.s.isEmpty && ((v.i.length : Int) == 0) && ((v.l.length : Int) == 0)) ||
  (v.kind == 2 && (v.n == 0 || v.n == 1) && v.s.isEmpty && ((v.i.length : Int) == 0) && ((v.l.length : Int) == 0)) ||
  (v.kind == 3 && decide ((v.s.length : Int) ≤ 64) && v.n == 0 && ((v.i.length : Int) == 0) && ((v.l.length : Int) == 0)) ||
  (v.kind == 4 && decide ((v.i.length : Int) ≤ 16) && v.n == 0 && v.s.isEmpty && ((v.l.length : Int) == 0)) ||
  (v.kind == 5 && decide ((v.l.length : Int) ≤ 16) && !(tooL v.l) && v.n == 0 && v.s.isEmpty && ((v.i.length : Int) == 0))
def zeroGV (k : Int) : GV := ⟨k, 0, [], [], []⟩
def enV (v : GV) : List UInt8 :=
  v.kind.toNat.toUInt8 :: (if v.kind = 1 then enI v.n else if v.kind = 2 then [v.n.toNat.toUInt8] else if v.kind = 3 then enS v.s else if v.kind = 4 then enIs v.i else if v.kind = 5 then enSs v.l else [])
def rdB : List UInt8 → Int × Nat × Nat
  | [] => (0, 0, 2)
  | c :: _ => if 1 < c.toNat then (0, 0, 3) else ((c.toNat : Int), 1, 0)
def rdVb (k : Nat) (r : List UInt8) : GV × Nat × Nat :=
  if k = 0 then (zeroGV 0, 0, 0)
  else if k = 1 then ({ zeroGV 1 with n := (rdI r).1 }, (rdI r).2.1, (rdI r).2.2)
  else if k = 2 then ({ zeroGV 2 with n := (rdB r).1 }, (rdB r).2.1, (rdB r).2.2)
  else if k = 3 then ({ zeroGV 3 with s := (rdS r 64).1 }, (rdS r 64).2.1, (rdS r 64).2.2)
  else if k = 4 then ({ zeroGV 4 with i := (rdIs r 16).1 }, (rdIs r 16).2.1, (rdIs r 16).2.2)
  else if k = 5 then ({ zeroGV 5 with l := (rdSs r 16).1 }, (rdSs r 16).2.1, (rdSs r 16).2.2)
  else (zeroGV 0, 0, 3)
def rdV : List UInt8 → GV × Nat × Nat
  | [] => (zeroGV 0, 0, 2)
  | c :: r => if (rdVb c.toNat r).2.2 ≠ 0 then (zeroGV 0, 0, (rdVb c.toNat r).2.2) else ((rdVb c.toNat r).1, 1 + (rdVb c.toNat r).2.1, 0)
/-! ### checksums -/
def P32 : BitVec 32 := 0xEDB88320#32
def bit1 (s : BitVec 32) : BitVec 32 := if s.getLsbD 0 then (s >>> 1) ^^^ P32 else s >>> 1
def bits8 (s : BitVec 32) : BitVec 32 := bit1 (bit1 (bit1 (bit1 (bit1 (bit1 (bit1 (bit1 s)))))))
def byte1 (s : BitVec 32) (c : UInt8) : BitVec 32 := bits8 (s ^^^ BitVec.ofNat 32 c.toNat)
def crcFrom (s : BitVec 32) (b : List UInt8) : BitVec 32 := b.foldl byte1 s
def crc (b : List UInt8) : BitVec 32 := ~~~ crcFrom (BitVec.allOnes 32) b
def low4 (c : BitVec 32) : List UInt8 := [(c.toNat % 256).toUInt8, (c.toNat / 256 % 256).toUInt8, (c.toNat / 65536 % 256).toUInt8, (c.toNat / 16777216 % 256).toUInt8]
def sealB (kind : Int) (body : List UInt8) : List UInt8 := 65 :: 71 :: kind.toNat.toUInt8 :: (enU body.length ++ body)
def rdSeal (kind : Int) (body : List UInt8) : List UInt8 × Nat :=
  if kind < 1 ∨ 255 < kind ∨ 16777216 < body.length then ([], 1) else (sealB kind body ++ low4 (crc (sealB kind body)), 0)
def rdOpen (b : List UInt8) : Int × List UInt8 × Nat × Nat :=
  if b.length < 3 then (0, [], 0, 2)
  else if b.getD 0 0 ≠ 65 ∨ b.getD 1 0 ≠ 71 ∨ b.getD 2 0 = 0 then (0, [], 0, 3)
  else if (rdLen (b.drop 3) 16777216).2.2 ≠ 0 then (0, [], 0, (rdLen (b.drop 3) 16777216).2.2)
  else if b.length - (3 + (rdLen (b.drop 3) 16777216).2.1) < (rdLen (b.drop 3) 16777216).1 + 4 then (0, [], 0, 2)
  else if (b.drop (3 + (rdLen (b.drop 3) 16777216).2.1 + (rdLen (b.drop 3) 16777216).1)).take 4 ≠ low4 (crc (b.take (3 + (rdLen (b.drop 3) 16777216).2.1 + (rdLen (b.drop 3) 16777216).1))) then (0, [], 0, 4)
  else (((b.getD 2 0).toNat : Int), (b.drop (3 + (rdLen (b.drop 3) 16777216).2.1)).take (rdLen (b.drop 3) 16777216).1, 3 + (rdLen (b.drop 3) 16777216).2.1 + (rdLen (b.drop 3) 16777216).1 + 4, 0)
end Go.Proofs.Ytmnagkjdnmnbkaa.W

namespace Go.Proofs.Ytmnagkjdnmnbkaa.W
open Go.Lib (uvarint zigzag unzigzag uvarint_small uvarint_big uvarint_pos)

theorem beqF {a b : Int} (h : a ≠ b) : (a == b) = false := beq_eq_false_iff_ne.2 h
theorem beqT {a b : Int} (h : a = b) : (a == b) = true := beq_iff_eq.2 h
theorem bneT {a b : Int} (h : a ≠ b) : (a != b) = true := by simp [h]
theorem bneF {a b : Int} (h : a = b) : (a != b) = false := by simp [h]
theorem u8n {a : Nat} (h : a < 256) : (a.toUInt8).toNat = a := by
  show a % 2 ^ 8 = a
  omega
theorem u8eq {c : UInt8} {a : Nat} (h : c.toNat = a) : a.toUInt8 = c := by
  subst h
  exact UInt8.ofNat_toNat
theorem pow7 (i : Nat) : (2 : Nat) ^ (7 * (i + 1)) = 2 ^ (7 * i) * 128 := by
  rw [Nat.mul_succ, Nat.pow_add]
theorem pow7_pos (i : Nat) : 0 < (2 : Nat) ^ (7 * i) := Nat.two_pow_pos _
theorem pow_le9 {i : Nat} (h : (2 : Nat) ^ (7 * i) < 18446744073709551616) : i ≤ 9 := by
  rcases Nat.lt_or_ge 9 i with h9 | h9
  · have : (2 : Nat) ^ (7 * 10) ≤ 2 ^ (7 * i) := Nat.pow_le_pow_right (by decide) (by omega)
    have e : (2 : Nat) ^ (7 * 10) = 1180591620717411303424 := by decide
    omega
  · exact h9
/-- Decoding an encoded number gives it back, whatever follows. -/
theorem uFrom_back (v : Nat) : ∀ (i acc : Nat) (r : List UInt8), (0 < i → 0 < v) → i ≤ 9 → v * 2 ^ (7 * i) < 18446744073709551616 →
    uFrom i acc (uvarint v ++ r) = (acc + v * 2 ^ (7 * i), i + (uvarint v).length, 0) := by
  induction v using Nat.strongRecOn with
  | ind v ih =>
    intro i acc r h0 hi hlt
    have hp := pow7_pos i
    by_cases hv : v < 128
    · rw [uvarint_small hv]
      simp only [List.singleton_append, uFrom, u8n (show v < 256 by omega)]
      rw [if_neg, if_pos hv, Nat.mod_eq_of_lt hv]
      · simp
      · rintro (⟨h9, h1⟩ | ⟨hpos, hz⟩)
        · subst h9
          have e : (2 : Nat) ^ (7 * 9) = 9223372036854775808 := by decide
          rw [e] at hlt
          omega
        · have := h0 hpos; omega
    · rw [uvarint_big (by omega)]
      have hm := Nat.mod_lt v (show 0 < 128 by decide)
      have hd := Nat.div_add_mod v 128
      have hvp : 1 * 2 ^ (7 * i) ≤ v * 2 ^ (7 * i) := Nat.mul_le_mul_right _ (by omega)
      have hnext : v / 128 * 2 ^ (7 * (i + 1)) < 18446744073709551616 := by
        rw [pow7]
        have : v / 128 * (2 ^ (7 * i) * 128) ≤ v * 2 ^ (7 * i) := by
          rw [Nat.mul_comm (2 ^ (7 * i)) 128, ← Nat.mul_assoc]
          exact Nat.mul_le_mul_right _ (by omega)
        omega
      have hi1 : i + 1 ≤ 9 := by
        apply pow_le9
        have : 1 * 2 ^ (7 * (i + 1)) ≤ v / 128 * 2 ^ (7 * (i + 1)) := Nat.mul_le_mul_right _ (by omega)
        omega
      simp only [List.cons_append, uFrom, u8n (show v % 128 + 128 < 256 by omega)]
      rw [if_neg, if_neg (by omega), ih (v / 128) (by omega) (i + 1) _ r (fun _ => by omega) hi1 hnext]
      · have e1 : (v % 128 + 128) % 128 = v % 128 := by omega
        have e2 : v % 128 * 2 ^ (7 * i) + v / 128 * 2 ^ (7 * (i + 1)) = v * 2 ^ (7 * i) := by
          rw [pow7, Nat.mul_comm (2 ^ (7 * i)) 128, ← Nat.mul_assoc, ← Nat.add_mul]
          congr 1; omega
        rw [e1, Nat.add_assoc, e2, List.length_cons]
        simp only [Prod.mk.injEq, true_and, and_true]
        omega
      · rintro (⟨h9, _⟩ | ⟨_, hz⟩) <;> omega
theorem rdU_back {v : Nat} (h : v < 18446744073709551616) (r : List UInt8) : rdU (enU v ++ r) = (v, (enU v).length, 0) := by
  unfold rdU enU
  rw [uFrom_back v 0 0 r (by omega) (by omega) (by simpa using h)]
  simp
/-- What is decoded without an error begins with the encoding of the result. -/
theorem uFrom_canon : ∀ (b : List UInt8) (i acc v n : Nat), i ≤ 9 → uFrom i acc b = (v, n, 0) →
    ∃ m r, v = acc + m * 2 ^ (7 * i) ∧ n = i + (uvarint m).length ∧ b = uvarint m ++ r ∧ (0 < i → 0 < m) ∧ m * 2 ^ (7 * i) < 18446744073709551616
  | [], i, acc, v, n, _, h => by simp [uFrom] at h
  | c :: t, i, acc, v, n, hi, h => by
    have hc := c.toNat_lt
    rw [uFrom] at h
    by_cases hbad : (i = 9 ∧ 1 < c.toNat) ∨ (0 < i ∧ c.toNat = 0)
    · rw [if_pos hbad] at h
      simp at h
    · rw [if_neg hbad] at h
      by_cases hs : c.toNat < 128
      · rw [if_pos hs] at h
        simp only [Prod.mk.injEq, and_true] at h
        refine ⟨c.toNat, t, ?_, ?_, ?_, ?_, ?_⟩
        · rw [← h.1, Nat.mod_eq_of_lt hs]
        · rw [uvarint_small hs, ← h.2]; rfl
        · rw [uvarint_small hs, u8eq rfl]; rfl
        · intro hp
          rcases Nat.eq_zero_or_pos c.toNat with hz | hz
          · exact absurd (.inr ⟨hp, hz⟩) hbad
          · exact hz
        · by_cases h9 : i = 9
          · subst h9
            have e : (2 : Nat) ^ (7 * 9) = 9223372036854775808 := by decide
            rw [e]
            have : ¬ 1 < c.toNat := fun hh => hbad (.inl ⟨rfl, hh⟩)
            omega
          · have : (2 : Nat) ^ (7 * i) ≤ 2 ^ (7 * 8) := Nat.pow_le_pow_right (by decide) (by omega)
            have e : (2 : Nat) ^ (7 * 8) = 72057594037927936 := by decide
            have h2 : c.toNat * 2 ^ (7 * i) ≤ 127 * 2 ^ (7 * 8) := Nat.mul_le_mul (by omega) this
            omega
      · rw [if_neg hs] at h
        have hi1 : i + 1 ≤ 9 := by
          by_cases h9 : i = 9
          · exact absurd (.inl ⟨h9, by omega⟩) hbad
          · omega
        obtain ⟨m, r, h1, h2, h3, h4, h5⟩ := uFrom_canon t (i + 1) _ v n hi1 h
        have hm := h4 (by omega)
        have hmm := Nat.mod_lt c.toNat (show 0 < 128 by decide)
        have hbig : 128 ≤ c.toNat % 128 + 128 * m := by omega
        have e1 : (c.toNat % 128 + 128 * m) % 128 = c.toNat % 128 := by omega
        have e2 : (c.toNat % 128 + 128 * m) / 128 = m := by omega
        have hu : uvarint (c.toNat % 128 + 128 * m) = c :: uvarint m := by
          rw [uvarint_big hbig, e1, e2, u8eq (c := c) (by omega)]
        have e3 : (c.toNat % 128 + 128 * m) * 2 ^ (7 * i) = c.toNat % 128 * 2 ^ (7 * i) + m * 2 ^ (7 * (i + 1)) := by
          rw [pow7, Nat.add_mul]
          congr 1
          rw [Nat.mul_comm (2 ^ (7 * i)) 128, ← Nat.mul_assoc, Nat.mul_comm m 128]
        refine ⟨c.toNat % 128 + 128 * m, r, ?_, ?_, ?_, fun _ => by omega, ?_⟩
        · rw [h1, e3]; omega
        · rw [h2, hu, List.length_cons]; omega
        · rw [hu, h3]; rfl
        · rw [e3]
          have h6 : m * 2 ^ (7 * (i + 1)) + 2 ^ (7 * (i + 1)) ≤ 18446744073709551616 := by
            have hdvd : 18446744073709551616 = 2 ^ (64 - 7 * (i + 1)) * 2 ^ (7 * (i + 1)) := by
              rw [← Nat.pow_add, show 64 - 7 * (i + 1) + 7 * (i + 1) = 64 by omega]
            rw [hdvd] at h5 ⊢
            have := Nat.lt_of_mul_lt_mul_right h5
            rw [← Nat.succ_mul]
            exact Nat.mul_le_mul_right _ this
          have h7 : c.toNat % 128 * 2 ^ (7 * i) < 2 ^ (7 * (i + 1)) := by
            rw [pow7, Nat.mul_comm]
            exact Nat.mul_lt_mul_of_pos_left hmm (pow7_pos i)
          omega
theorem rdU_canon {b : List UInt8} {v n : Nat} (h : rdU b = (v, n, 0)) : v < 18446744073709551616 ∧ n = (enU v).length ∧ ∃ r, b = enU v ++ r := by
  obtain ⟨m, r, h1, h2, h3, _, h5⟩ := uFrom_canon b 0 0 v n (by omega) h
  have hv : v = m := by simpa using h1
  subst hv
  exact ⟨by simpa using h5, by simpa [enU] using h2, r, h3⟩
/-- A proper prefix of an encoded number is truncated. -/
theorem uFrom_cut (v : Nat) : ∀ (i acc k : Nat), (0 < i → 0 < v) → i ≤ 9 → v * 2 ^ (7 * i) < 18446744073709551616 → k < (uvarint v).length →
    uFrom i acc ((uvarint v).take k) = (0, 0, 2) := by
  induction v using Nat.strongRecOn with
  | ind v ih =>
    intro i acc k h0 hi hlt hk
    have hp := pow7_pos i
    by_cases hv : v < 128
    · rw [uvarint_small hv] at hk ⊢
      obtain rfl : k = 0 := by simpa using hk
      simp [uFrom]
    · rw [uvarint_big (by omega)] at hk ⊢
      rcases k with _ | k
      · simp [uFrom]
      have hm := Nat.mod_lt v (show 0 < 128 by decide)
      have hvp : 1 * 2 ^ (7 * i) ≤ v * 2 ^ (7 * i) := Nat.mul_le_mul_right _ (by omega)
      have hnext : v / 128 * 2 ^ (7 * (i + 1)) < 18446744073709551616 := by
        rw [pow7]
        have : v / 128 * (2 ^ (7 * i) * 128) ≤ v * 2 ^ (7 * i) := by
          rw [Nat.mul_comm (2 ^ (7 * i)) 128, ← Nat.mul_assoc]
          exact Nat.mul_le_mul_right _ (by omega)
        omega
      have hi1 : i + 1 ≤ 9 := by
        apply pow_le9
        have : 1 * 2 ^ (7 * (i + 1)) ≤ v / 128 * 2 ^ (7 * (i + 1)) := Nat.mul_le_mul_right _ (by omega)
        omega
      simp only [List.take_succ_cons, uFrom, u8n (show v % 128 + 128 < 256 by omega)]
      rw [if_neg, if_neg (by omega)]
      · exact ih (v / 128) (by omega) (i + 1) _ k (fun _ => by omega) hi1 hnext (by simpa using hk)
      · rintro (⟨h9, _⟩ | ⟨_, hz⟩) <;> omega
theorem rdU_cut {v k : Nat} (h : v < 18446744073709551616) (hk : k < (enU v).length) : rdU ((enU v).take k) = (0, 0, 2) :=
  uFrom_cut v 0 0 k (by omega) (by omega) (by simpa using h) hk
theorem uFrom_err : ∀ (b : List UInt8) (i acc : Nat), (uFrom i acc b).2.2 ≠ 0 → uFrom i acc b = (0, 0, (uFrom i acc b).2.2) ∧ ((uFrom i acc b).2.2 = 2 ∨ (uFrom i acc b).2.2 = 3)
  | [], i, acc, _ => by simp [uFrom]
  | c :: t, i, acc, h => by
    rw [uFrom] at h ⊢
    split
    · simp
    · rename_i hb
      rw [if_neg hb] at h
      split
      · rename_i hs
        rw [if_pos hs] at h
        simp at h
      · rename_i hs
        rw [if_neg hs] at h
        exact uFrom_err t _ _ h
theorem rdU_err {b : List UInt8} (h : (rdU b).2.2 ≠ 0) : rdU b = (0, 0, (rdU b).2.2) := (uFrom_err b 0 0 h).1
theorem rdU_codes (b : List UInt8) : (rdU b).2.2 = 0 ∨ (rdU b).2.2 = 2 ∨ (rdU b).2.2 = 3 := by
  by_cases h : (rdU b).2.2 = 0
  · exact .inl h
  · exact .inr (uFrom_err b 0 0 h).2
theorem enU_pos (v : Nat) : 0 < (enU v).length := uvarint_pos v
theorem unzig_zig (v : Int) : unzigzag (zigzag v) = v := by
  unfold zigzag unzigzag
  split <;> split <;> omega
theorem zig_unzig (u : Nat) : zigzag (unzigzag u) = u := by
  unfold zigzag unzigzag
  split <;> split <;> omega
/-- What an int of the program can hold. -/
def In64 (v : Int) : Prop := -9223372036854775808 ≤ v ∧ v ≤ 9223372036854775807
theorem zig_lt {v : Int} (h : In64 v) : zigzag v < 18446744073709551616 := Go.Lib.zigzag_lt h.1 h.2
theorem unzig_in {u : Nat} (h : u < 18446744073709551616) : In64 (unzigzag u) := by
  unfold In64 unzigzag
  split <;> omega
theorem rdI_back {v : Int} (h : In64 v) (r : List UInt8) : rdI (enI v ++ r) = (v, (enI v).length, 0) := by
  have := rdU_back (zig_lt h) r
  unfold rdI
  rw [show enI v ++ r = enU (zigzag v) ++ r from rfl, this]
  simp [unzig_zig, enI, enU]
theorem rdI_canon {b : List UInt8} {v : Int} {n : Nat} (h : rdI b = (v, n, 0)) : In64 v ∧ n = (enI v).length ∧ ∃ r, b = enI v ++ r := by
  unfold rdI at h
  by_cases he : (rdU b).2.2 = 0
  · rw [if_pos he] at h
    simp only [Prod.mk.injEq, and_true] at h
    obtain ⟨h1, h2, r, h3⟩ := rdU_canon (b := b) (v := (rdU b).1) (n := (rdU b).2.1) (by rw [← he])
    have e : enI v = enU (rdU b).1 := by rw [← h.1]; unfold enI enU; rw [zig_unzig]
    exact ⟨h.1 ▸ unzig_in h1, by rw [e, ← h2, h.2], r, by rw [e]; exact h3⟩
  · rw [if_neg he] at h
    simp at h
    exact absurd h.2.2 he
theorem rdI_cut {v : Int} {k : Nat} (h : In64 v) (hk : k < (enI v).length) : rdI ((enI v).take k) = (0, 0, 2) := by
  have := rdU_cut (zig_lt h) (k := k) hk
  unfold rdI
  rw [show (enI v).take k = (enU (zigzag v)).take k from rfl, this]
  simp
theorem rdI_err {b : List UInt8} (h : (rdI b).2.2 ≠ 0) : rdI b = (0, 0, (rdI b).2.2) := by
  unfold rdI at h ⊢
  split
  · rename_i he; rw [if_pos he] at h; simp at h
  · rfl
end Go.Proofs.Ytmnagkjdnmnbkaa.W

/-
  WORDS FOR MEMORY: a slice that reads as a list; a block known whole; an append whose source may be nil. (Copied out of the guide's page of words, as it bids.)
-/
namespace Go.Proofs.Ytmnagkjdnmnbkaa.W
open Go.RowKit
theorem block_of_add (a : Addr) (n : Nat) : (a.add n).block = a.block := by unfold Addr.add; split <;> rfl
theorem add_of_add (a : Addr) (i j : Nat) : (a.add i).add j = a.add (i + j) := by
  unfold Addr.add
  by_cases hi : i = 0 <;> by_cases hj : j = 0 <;> simp [hi, hj, Nat.add_assoc]
def Reads (w : World) (B size : Nat) (A : Option Addr) (n : Nat) (xs : List Value) : Prop :=
  xs.length = n * size ∧ (0 < n → ∃ ad, A = some ad ∧ ad.block < B ∧ ∀ j u, xs[j]? = some u → w.cell? (ad.add j) = some u)
section
variable {w w' : World} {B B' size n : Nat} {A : Option Addr} {xs : List Value}
theorem Reads.none_ : Reads w B size A 0 [] := ⟨by simp, fun h => absurd h (by omega)⟩
theorem Reads.at_ {k : Nat} (h : Reads w B 1 A n xs) (hk : k < n) : ∃ ad u, A = some ad ∧ ad.block < B ∧ xs[k]? = some u ∧ w.cell? (ad.add k) = some u := by
  obtain ⟨ad, e, hb, hc⟩ := h.2 (by omega)
  have hl : k < xs.length := by have := h.1; omega
  exact ⟨ad, xs[k], e, hb, List.getElem?_eq_getElem hl, hc k _ (List.getElem?_eq_getElem hl)⟩
theorem Reads.keep (h : Reads w B size A n xs) (hk : ∀ p : Addr, p.block < B → w'.cell? p = w.cell? p) : Reads w' B size A n xs :=
  ⟨h.1, fun hn => by
    obtain ⟨ad, e, hb, hc⟩ := h.2 hn
    exact ⟨ad, e, hb, fun j u hu => (hk _ (by rw [block_of_add]; exact hb)).trans (hc j u hu)⟩⟩
theorem Reads.more (h : Reads w B size A n xs) (hB : B ≤ B') : Reads w B' size A n xs :=
  ⟨h.1, fun hn => by
    obtain ⟨ad, e, hb, hc⟩ := h.2 hn
    exact ⟨ad, e, by omega, hc⟩⟩
theorem Reads.below (h : Reads w B size A n xs) (hb : Below B w w') : Reads w' B size A n xs := h.keep fun _ hp => hb.cell hp
theorem Reads.drew (h : Reads w B size A n xs) : Reads w.drew B size A n xs := h
theorem Reads.drewN (h : Reads w B size A n xs) (k : Nat) : Reads (w.drewN k) B size A n xs := h
theorem Reads.alloc (h : Reads w B size A n xs) (hB : B ≤ w.heap.size) (o : Obj) : Reads (w.alloc o) B size A n xs := h.keep fun p hp => World.cell?_alloc_lt w o p (by omega)
theorem Reads.setCell (h : Reads w B size A n xs) {p : Addr} (hB : B ≤ p.block) (u : Value) : Reads (w.setCell p u) B size A n xs :=
  h.keep fun q hq => World.cell?_setCell_other w p q u (fun e => by subst e; omega)
theorem Reads.grown (h : Reads w B size A n xs) {row : Option Nat} (hg : w.grownBy w' row) (hB : B ≤ w.heap.size) (hr : ∀ g, row = some g → B ≤ g) : Reads w' B size A n xs :=
  h.keep fun p hp => World.cell?_of_block (hg.block p.block (by omega) (fun e => by have := hr _ e.symm; omega))
theorem Reads.cut (h : Reads w B size A n xs) {k cap : Nat} (hk : k ≤ n) (hc : n ≤ cap) :
    Reads w B size (if cap = k then A else A.map (·.add (k * size))) (n - k) (xs.drop (k * size)) := by
  refine ⟨by rw [List.length_drop, h.1, Nat.sub_mul], fun hn => ?_⟩
  obtain ⟨ad, rfl, hb, hcell⟩ := h.2 (by omega)
  rw [if_neg (by omega)]
  refine ⟨ad.add (k * size), rfl, by rw [block_of_add]; exact hb, fun j u hu => ?_⟩
  rw [add_of_add]
  exact hcell _ u (by rw [← hu, List.getElem?_drop])
theorem Reads.of_own {base : Nat} {e : TypeId} {c : Nat} (h : w.ownsRow base e size (.slice A n c) n xs) : Reads w w.heap.size size A n xs := by
  refine ⟨h.1, fun hn => ?_⟩
  obtain ⟨g, cap, hv, _, hlt⟩ := h.form hn
  have hA : A = some ⟨g, 0, none⟩ := by injection hv
  subst hA
  exact ⟨_, rfl, hlt, h.cells (g := g) rfl⟩
end

def Blk (w : World) (g : Nat) (t : TypeId) (cs : Array Value) : Prop := w.heap[g]? = some (.cells cs t (0, 0))
section
variable {w w' : World} {g : Nat} {t : TypeId} {cs : Array Value}
theorem Blk.lt (h : Blk w g t cs) : g < w.heap.size := by
  rcases Nat.lt_or_ge g w.heap.size with hlt | hge
  · exact hlt
  · unfold Blk at h; rw [Array.getElem?_eq_none hge] at h; cases h
theorem Blk.cell (h : Blk w g t cs) (i : Nat) : w.cell? ⟨g, i, none⟩ = cs[i]? := cell_of_row w g i cs t (0, 0) h
theorem Blk.frozen (h : Blk w g t cs) (i : Nat) : w.frozen? ⟨g, i, none⟩ = false := by
  unfold Blk at h
  simp [World.frozen?, h]
theorem Blk.new (w : World) (t : TypeId) (cs : Array Value) : Blk (w.alloc (.cells cs t)) w.heap.size t cs := heap_alloc_new w _
theorem Blk.drew (h : Blk w g t cs) : Blk w.drew g t cs := h
theorem Blk.drewN (h : Blk w g t cs) (n : Nat) : Blk (w.drewN n) g t cs := h
theorem Blk.alloc (h : Blk w g t cs) (o : Obj) : Blk (w.alloc o) g t cs := (Below.heap_alloc w o g h.lt).trans h
theorem Blk.set_ (h : Blk w g t cs) (i : Nat) (u : Value) : Blk (w.setCell ⟨g, i, none⟩ u) g t (cs.setIfInBounds i u) := by
  unfold Blk at h ⊢
  simp [World.setCell, Array.getElem?_modify, h]
theorem Blk.far (h : Blk w g t cs) {p : Addr} (hp : g ≠ p.block) (u : Value) : Blk (w.setCell p u) g t cs := (Below.heap_setCell w p u g hp).trans h
theorem Blk.below {B : Nat} (h : Blk w g t cs) (hb : Below B w w') (hg : g < B) : Blk w' g t cs := (hb.block g hg).trans h
theorem Blk.grown {row : Option Nat} (h : Blk w g t cs) (hb : w.grownBy w' row) (hg : some g ≠ row) : Blk w' g t cs := (hb.block g h.lt hg).trans h
theorem Blk.ne_ {g' : Nat} {t' : TypeId} {cs' : Array Value} (h : Blk w g t cs) (h' : Blk w g' t' cs') (hne : t ≠ t') : g ≠ g' := by
  rintro rfl
  unfold Blk at h h'
  rw [h] at h'
  injection h' with h'
  injection h' with _ ht
  exact hne ht
theorem own_blk_ne {base : Nat} {e : TypeId} {size n : Nat} {v : Value} {xs : List Value} (h : w.ownsRow base e size v n xs) (hg : Blk w g t cs) (hne : e ≠ t) : v.ownBlock ≠ some g := by
  rcases h.2 with ⟨rfl, _⟩ | ⟨g', cap, cur, rfl, _, hh, _⟩
  · simp [Value.ownBlock]
  · intro he
    have : g' = g := by simpa [Value.ownBlock] using he
    subst this
    exact Blk.ne_ (t := e) hh hg hne rfl
end

section
variable {P : Program} (w : World)

theorem run_append_of_nil (base : Nat) (t ty e : TypeId) (i : TypeInfo) (size : Nat) (ht : P.underlying t = some (.slice e)) (hi : P.info? e = some i)
    (v : Value) (n : Nat) (xs : List Value) (hown : w.ownsRow base e size v n xs) (c : Nat) : (Builtin.append_ #[t, t] ty #[v, .slice none 0 c]).run P w = .ok v w := by
  rcases hown.2 with ⟨rfl, rfl⟩ | ⟨g, cap, cur, rfl, _, _, hnc, _⟩
  · simp [Builtin.append_, run_underlying ht, sizeOf, typeInfo, hi, Builtin.lenOf, Builtin.firstCells]
  · simp [Builtin.append_, run_underlying ht, sizeOf, typeInfo, hi, Builtin.lenOf, Builtin.firstCells, hnc, storeCells]
theorem run_append_any (base : Nat) (t ty e : TypeId) (i : TypeInfo) (z : Value) (size bytes : Nat) (ht : P.underlying t = some (.slice e)) (hi : P.info? e = some i) (hz : i.zero = some z)
    (hsize : i.size = size) (hby : i.bytes = bytes) (hzs : z.cells.size = size) (hsz : 0 < size)
    (v : Value) (n : Nat) (xs : List Value) (hown : w.ownsRow base e size v n xs)
    (B : Nat) (A : Option Addr) (m c : Nat) (news : List Value) (hr : Reads w B size A m news) (h1 : ∀ u ∈ news, u.oneCell' = true)
    (h63 : n + m ≤ maxLen) (hbytes : (n + m) * bytes ≤ 140737488355328) (hbase : base ≤ w.heap.size) :
    ∃ v' w', (Builtin.append_ #[t, t] ty #[v, .slice A m c]).run P w = .ok v' w' ∧ w'.ownsRow base e size v' (n + m) (xs ++ news) ∧ w.grownBy w' v.ownBlock ∧
      (v'.ownBlock = v.ownBlock ∨ v'.ownBlock = some w.heap.size) := by
  rcases A with _ | ad
  · have hm : m = 0 := by
      rcases Nat.eq_zero_or_pos m with h0 | h0
      · exact h0
      · obtain ⟨ad, h, _⟩ := hr.2 h0
        cases h
    subst hm
    have hn : news = [] := List.eq_nil_of_length_eq_zero (by simpa using hr.1)
    subst hn
    exact ⟨v, w, run_append_of_nil w base t ty e i size ht hi v n xs hown c, by simpa using hown, World.grownBy.refl w _, .inl rfl⟩
  · have hcells : ∀ j u, news[j]? = some u → w.cell? (ad.add j) = some u := by
      intro j u hu
      rcases Nat.eq_zero_or_pos m with h0 | h0
      · subst h0
        have hn : news = [] := List.eq_nil_of_length_eq_zero (by simpa using hr.1)
        subst hn
        simp at hu
      · obtain ⟨ad', h, _, hc⟩ := hr.2 h0
        injection h with h
        subst h
        exact hc j u hu
    obtain ⟨v', w', hrun, h2, h3, _, h5⟩ := run_append_own_at (P := P) w base t ty e i z size bytes ht hi hz hsize hby hzs hsz v n xs hown ad m c news hr.1 hcells h1 h63 hbytes hbase
    exact ⟨v', w', hrun, h2, h3, h5⟩
theorem wp_append_any {o : Oper} {a : Act} {K : Act → World → Prop} {Q : Exit → Act → World → Prop} (s x : Operand) (t : TypeId)
    (ho : o.op = .call { callee := .builtin .append, args := #[s, x], argTypes := #[t, t] })
    (base : Nat) (e : TypeId) (i : TypeInfo) (z : Value) (size bytes : Nat) (ht : P.underlying t = some (.slice e)) (hi : P.info? e = some i) (hz : i.zero = some z)
    (hsize : i.size = size) (hby : i.bytes = bytes) (hzs : z.cells.size = size) (hsz : 0 < size)
    (v : Value) (n : Nat) (xs : List Value) (hs : a.eval s = v) (hown : w.ownsRow base e size v n xs)
    (B : Nat) (A : Option Addr) (m c : Nat) (news : List Value) (hx : a.eval x = .slice A m c) (hr : Reads w B size A m news) (h1 : ∀ u ∈ news, u.oneCell' = true)
    (h63 : n + m ≤ maxLen) (hbytes : (n + m) * bytes ≤ 140737488355328) (hbase : base ≤ w.heap.size)
    (h : ∀ v' w', w'.ownsRow base e size v' (n + m) (xs ++ news) → w.grownBy w' v.ownBlock → (v'.ownBlock = v.ownBlock ∨ v'.ownBlock = some w.heap.size) → K (a.put o.dst v') w') : o.wp P a w K Q := by
  obtain ⟨v', w', hrun, h2, h3, h4⟩ := run_append_any (P := P) w base t o.type e i z size bytes ht hi hz hsize hby hzs hsz v n xs hown B A m c news hr h1 h63 hbytes hbase
  unfold Oper.wp execOp
  simp only [ho, resolve, invoke, builtin, Sem.run_bind, Sem.run_pure, Result.andThen_ok, List.map_toArray, List.map_cons, List.map_nil, hs, hx, hrun]
  exact h v' w' h2 h3 h4
theorem wpList_append_any {ops : Array Oper} {rest : List Oper} {o : Oper} {a : Act} {Q : Exit → Act → World → Prop} (hgd : o.guard = none) (s x : Operand) (t : TypeId)
    (ho : o.op = .call { callee := .builtin .append, args := #[s, x], argTypes := #[t, t] })
    (base : Nat) (e : TypeId) (i : TypeInfo) (z : Value) (size bytes : Nat) (ht : P.underlying t = some (.slice e)) (hi : P.info? e = some i) (hz : i.zero = some z)
    (hsize : i.size = size) (hby : i.bytes = bytes) (hzs : z.cells.size = size) (hsz : 0 < size)
    (v : Value) (n : Nat) (xs : List Value) (hs : a.eval s = v) (hown : w.ownsRow base e size v n xs)
    (B : Nat) (A : Option Addr) (m c : Nat) (news : List Value) (hx : a.eval x = .slice A m c) (hr : Reads w B size A m news) (h1 : ∀ u ∈ news, u.oneCell' = true)
    (h63 : n + m ≤ maxLen) (hbytes : (n + m) * bytes ≤ 140737488355328) (hbase : base ≤ w.heap.size)
    (h : ∀ v' w', w'.ownsRow base e size v' (n + m) (xs ++ news) → w.grownBy w' v.ownBlock → (v'.ownBlock = v.ownBlock ∨ v'.ownBlock = some w.heap.size) → wpList P ops Q rest (a.put o.dst v') w') : wpList P ops Q (o :: rest) a w :=
  wpList_plain hgd fun _ hK => wp_append_any w s x t ho base e i z size bytes ht hi hz hsize hby hzs hsz v n xs hs hown B A m c news hx hr h1 h63 hbytes hbase fun v' w' h2 h3 h4 => hK _ _ (h v' w' h2 h3 h4)
theorem step_append_any {ops : Array Oper} {o : Oper} {a : Act} {K : Act → World → Prop} {Q : Exit → Act → World → Prop} {E : Prop} (hgd : o.guard = none) (s x : Operand) (t : TypeId)
    (ho : o.op = .call { callee := .builtin .append, args := #[s, x], argTypes := #[t, t] })
    (base : Nat) (e : TypeId) (i : TypeInfo) (z : Value) (size bytes : Nat) (ht : P.underlying t = some (.slice e)) (hi : P.info? e = some i) (hz : i.zero = some z)
    (hsize : i.size = size) (hby : i.bytes = bytes) (hzs : z.cells.size = size) (hsz : 0 < size)
    (v : Value) (n : Nat) (xs : List Value) (hs : a.eval s = v) (hown : w.ownsRow base e size v n xs)
    (B : Nat) (A : Option Addr) (m c : Nat) (news : List Value) (hx : a.eval x = .slice A m c) (hr : Reads w B size A m news) (h1 : ∀ u ∈ news, u.oneCell' = true)
    (h63 : n + m ≤ maxLen) (hbytes : (n + m) * bytes ≤ 140737488355328) (hbase : base ≤ w.heap.size)
    (h : ∀ v' w', w'.ownsRow base e size v' (n + m) (xs ++ news) → w.grownBy w' v.ownBlock → (v'.ownBlock = v.ownBlock ∨ v'.ownBlock = some w.heap.size) → K (a.put o.dst v') w') :
    if Region.wanted o (yielded ops a.tmps) = true then Oper.wp P o a w K Q else E := by
  have hw : Region.wanted o (yielded ops a.tmps) = true := by simp [Region.wanted, hgd]
  rw [if_pos hw]
  exact wp_append_any w s x t ho base e i z size bytes ht hi hz hsize hby hzs hsz v n xs hs hown B A m c news hx hr h1 h63 hbytes hbase h
end

section
open Go.Lib (byteCells byteCells_length)
theorem byteCells_get {bs : List UInt8} {k : Nat} (hk : k < bs.length) : (byteCells bs)[k]? = some (Value.int .u8 ((bs[k]'hk).toNat : Int)) := by
  simp [byteCells, hk]
theorem Reads.byte {w : World} {B n k : Nat} {A : Option Addr} {bs : List UInt8} (h : Reads w B 1 A n (byteCells bs)) (hk : k < bs.length) :
    ∃ (ad : Addr) (c : UInt8), A = some ad ∧ ad.block < B ∧ w.cell? (ad.add k) = some (.int .u8 (c.toNat : Int)) ∧ bs.drop k = c :: bs.drop (k + 1) ∧ bs[k]? = some c ∧ c.toNat < 256 := by
  have hn : k < n := by have := h.1; rw [byteCells_length] at this; omega
  obtain ⟨ad, u, hA, hb, hx, hc⟩ := h.at_ hn
  rw [byteCells_get hk] at hx
  obtain rfl := Option.some.inj hx
  exact ⟨ad, bs[k], hA, hb, hc, List.drop_eq_getElem_cons hk, List.getElem?_eq_getElem hk, (bs[k]).toNat_lt⟩
theorem Reads.len {w : World} {B n : Nat} {A : Option Addr} {bs : List UInt8} (h : Reads w B 1 A n (byteCells bs)) : n = bs.length := by
  have := h.1; rw [byteCells_length] at this; omega
end

section
open Go.Lib (byteCells byteCells_length)
/-- 'string(b)' of a slice that reads as bytes, nil and empty ones too. -/
theorem run_str {P : Program} {w : World} {src dst e : TypeId} (hs : P.underlying src = some (.slice e)) (he : P.underlying e = some (.int .u8)) (hd : P.underlying dst = some .string)
    {B n : Nat} {A : Option Addr} {bs : List UInt8} (h : Reads w B 1 A n (byteCells bs)) (c : Nat) : (convert src dst (.slice A n c)).run P w = .ok (.string ⟨bs.toArray⟩) w := by
  obtain rfl := h.len
  rcases A with _ | ad
  · have h0 : bs = [] := by
      rcases Nat.eq_zero_or_pos bs.length with h0 | h0
      · exact List.eq_nil_of_length_eq_zero h0
      · obtain ⟨ad, hA, _⟩ := h.2 h0
        cases hA
    subst h0
    rw [run_convert_bytes_string w src dst e _ _ _ hs he hd]
    simp [Conv.bytesToString, Sem.run_pure]
    rfl
  · exact run_convert_bytes_back w src dst e ad c bs hs he hd fun j hj => by
      obtain ⟨ad', hA, _, hc⟩ := h.2 (by omega)
      obtain rfl := Option.some.inj hA
      exact hc j _ (byteCells_get hj)
theorem Reads.cutAt {w : World} {B n k : Nat} {A : Option Addr} {ad : Addr} {bs : List UInt8} (h : Reads w B 1 A n (byteCells bs)) (hA : A = some ad) (hk : k ≤ n) : Reads w B 1 (some (ad.add k)) (n - k) (byteCells (bs.drop k)) := by
  refine ⟨by rw [byteCells_length, List.length_drop, ← h.len, Nat.mul_one], fun hn => ?_⟩
  obtain ⟨ad', hA', hb, hcell⟩ := h.2 (by omega)
  rw [hA] at hA'
  obtain rfl := Option.some.inj hA'
  refine ⟨_, rfl, by rw [block_of_add]; exact hb, fun j u hu => ?_⟩
  rw [add_of_add]
  exact hcell _ u (by rw [← hu]; simp [byteCells])
theorem Reads.takeTo {w : World} {B n k : Nat} {A : Option Addr} {bs : List UInt8} (h : Reads w B 1 A n (byteCells bs)) (hk : k ≤ n) : Reads w B 1 A k (byteCells (bs.take k)) := by
  refine ⟨by rw [byteCells_length, List.length_take, ← h.len]; omega, fun hn => ?_⟩
  obtain ⟨ad, hA, hb, hcell⟩ := h.2 (by omega)
  refine ⟨ad, hA, hb, fun j u hu => hcell j u ?_⟩
  simp only [byteCells, List.map_take] at hu ⊢
  rw [List.getElem?_take] at hu
  split at hu
  · exact hu
  · cases hu
theorem Reads.nothing {w : World} {B : Nat} {A : Option Addr} : Reads w B 1 A 0 (byteCells []) := ⟨rfl, fun h => absurd h (by omega)⟩
end

end Go.Proofs.Ytmnagkjdnmnbkaa.W

/- wire.Uint returns what 'rdU' computes of the bytes, and touches nothing. -/
namespace Go.Proofs.Ytmnagkjdnmnbkaa.W
open Go.RowKit
open Go.Lib (byteCells byteCells_length)

theorem or_place {acc x k : Nat} (ha : acc < 2 ^ (7 * k)) (hs : acc + x * 2 ^ (7 * k) < 18446744073709551616) :
    bits .or .u64 (acc : Int) ((x * 2 ^ (7 * k) : Nat) : Int) = ((acc + x * 2 ^ (7 * k) : Nat) : Int) := by
  have e64 : (2 : Nat) ^ 64 = 18446744073709551616 := by decide
  have h := (bits_nat .u64 64 (by decide) (fun n h0 h1 => by rw [IntKind.wrap_u64]; omega) acc (x * 2 ^ (7 * k)) (by omega) (by omega)).2
  rw [h]
  congr 1
  rw [Nat.or_comm, Nat.mul_comm, ← Nat.two_pow_add_eq_or_of_lt ha, Nat.add_comm]
theorem place_fits {acc m k : Nat} (hk : k ≤ 9) (ha : acc < 2 ^ (7 * k)) (hm : m < 128) (h9 : k = 9 → m ≤ 1) : acc + m * 2 ^ (7 * k) < 18446744073709551616 := by
  by_cases h : k = 9
  · have := h9 h
    subst h
    have e : (2 : Nat) ^ (7 * 9) = 9223372036854775808 := by decide
    rw [e] at ha ⊢
    omega
  · have h1 : acc + m * 2 ^ (7 * k) < 2 ^ (7 * (k + 1)) := by
      rw [pow7, Nat.mul_comm (2 ^ (7 * k)) 128]
      have : (m + 1) * 2 ^ (7 * k) ≤ 128 * 2 ^ (7 * k) := Nat.mul_le_mul_right _ (by omega)
      rw [Nat.add_mul, Nat.one_mul] at this
      omega
    have h2 : (2 : Nat) ^ (7 * (k + 1)) ≤ 2 ^ (7 * 9) := Nat.pow_le_pow_right (by decide) (by omega)
    have e : (2 : Nat) ^ (7 * 9) = 9223372036854775808 := by decide
    omega
theorem acc_next {acc m k : Nat} (ha : acc < 2 ^ (7 * k)) (hm : m < 128) : acc + m * 2 ^ (7 * k) < 2 ^ (7 * (k + 1)) := by
  rw [pow7, Nat.mul_comm (2 ^ (7 * k)) 128]
  have : (m + 1) * 2 ^ (7 * k) ≤ 128 * 2 ^ (7 * k) := Nat.mul_le_mul_right _ (by omega)
  rw [Nat.add_mul, Nat.one_mul] at this
  omega
/-- What the walk makes of 'v |= uint64(c%128) << (7*k)'. -/
theorem place_walk {acc z k : Nat} (hk : k ≤ 9) (ha : acc < 2 ^ (7 * k)) (h9 : k = 9 → z ≤ 1) :
    bits .or .u64 (acc : Int) (IntKind.u64.wrap ((z : Int) % 128 * 2 ^ (7 * k))) = ((acc + z % 128 * 2 ^ (7 * k) : Nat) : Int) := by
  have hf := place_fits (m := z % 128) hk ha (by omega) (fun h => by have := h9 h; omega)
  have e : ((z : Int) % 128 * 2 ^ (7 * k)) = ((z % 128 * 2 ^ (7 * k) : Nat) : Int) := by
    simp [Int.natCast_mul, Int.natCast_pow]
  have e64 : (2 : Nat) ^ 64 = 18446744073709551616 := by decide
  rw [e, IntKind.wrap_u64, Int.emod_eq_of_lt (by omega) (by omega)]
  exact or_place ha hf
theorem tup3 {k1 k2 k3 : IntKind} {a b c a' b' c' : Int} (h1 : a = a') (h2 : b = b') (h3 : c = c') :
    Ending.returned (.tuple #[.int k1 a, .int k2 b, .int k3 c]) = Ending.returned (.tuple #[.int k1 a', .int k2 b', .int k3 c']) := by rw [h1, h2, h3]
end Go.Proofs.Ytmnagkjdnmnbkaa.W

/- wire.Int, wire.length, wire.String, wire.shortString and wire.truth return what their readers compute of the bytes, and touch nothing. -/
namespace Go.Proofs.Ytmnagkjdnmnbkaa.W
open Go.RowKit
open Go.Lib (byteCells byteCells_length unzigzag)

theorem rdU_used {b : List UInt8} {v n : Nat} (h : rdU b = (v, n, 0)) : v < 18446744073709551616 ∧ 1 ≤ n ∧ n ≤ 10 ∧ n ≤ b.length := by
  obtain ⟨h1, h2, r, h3⟩ := rdU_canon h
  have := enU_pos v
  have := Go.Lib.uvarint_length64 h1
  refine ⟨h1, by omega, by rw [h2]; exact this, by rw [h2, h3]; simp⟩
theorem rdLen_ok {b : List UInt8} {max : Int} {k n : Nat} (h : rdLen b max = (k, n, 0)) : rdU b = (k, n, 0) ∧ 0 ≤ max ∧ (k : Int) ≤ max := by
  unfold rdLen at h
  split at h
  · simp at h
  · split at h
    · rename_i _ h2
      simp at h
      exact absurd h.2.2 h2
    · split at h
      · simp at h
      · rename_i h1 _ h3
        exact ⟨h, by omega, by rw [h] at h3; simpa using h3⟩
theorem tupS3 {s s' : ByteArray} {k2 k3 : IntKind} {b c b' c' : Int} (h1 : s = s') (h2 : b = b') (h3 : c = c') :
    Ending.returned (.tuple #[.string s, .int k2 b, .int k3 c]) = Ending.returned (.tuple #[.string s', .int k2 b', .int k3 c']) := by rw [h1, h2, h3]
end Go.Proofs.Ytmnagkjdnmnbkaa.W

/- The decoders of lists: wire.list at int and string, IntList, StringList. -/
namespace Go.Proofs.Ytmnagkjdnmnbkaa.W
open Go.RowKit
open Go.Lib (byteCells byteCells_length unzigzag)

def strV (l : List UInt8) : Value := .string ⟨l.toArray⟩
def intV (n : Int) : Value := .int .i64 n
theorem intInfo : (Try.prog.info? 3).map (fun i => (i.zero, i.size, i.bytes)) = some (some (.int .i64 0), 1, 8) := by kernel_rfl
theorem strInfo : (Try.prog.info? 9).map (fun i => (i.zero, i.size, i.bytes)) = some (some (.string ByteArray.empty), 1, 16) := by kernel_rfl
theorem u8Info : (Try.prog.info? 5).map (fun i => (i.zero, i.size, i.bytes)) = some (some (.int .u8 0), 1, 1) := by kernel_rfl
theorem rdI_used {b : List UInt8} {v : Int} {n : Nat} (h : rdI b = (v, n, 0)) : In64 v ∧ 1 ≤ n ∧ n ≤ 10 ∧ n ≤ b.length := by
  unfold rdI at h
  by_cases he : (rdU b).2.2 = 0
  · rw [if_pos he] at h
    simp only [Prod.mk.injEq, and_true] at h
    obtain ⟨h1, h2, h3, h4⟩ := rdU_used (b := b) (v := (rdU b).1) (n := (rdU b).2.1) (by rw [← he])
    exact ⟨h.1 ▸ unzig_in h1, h.2 ▸ h2, h.2 ▸ h3, h.2 ▸ h4⟩
  · rw [if_neg he] at h
    simp at h
    exact absurd h.2.2 he
theorem rdS_ok {b s : List UInt8} {max : Int} {n : Nat} (h : rdS b max = (s, n, 0)) :
    ∃ k m, rdU b = (k, m, 0) ∧ 0 ≤ max ∧ (k : Int) ≤ max ∧ s = (b.drop m).take k ∧ n = m + k ∧ m + k ≤ b.length ∧ 1 ≤ m ∧ m ≤ 10 := by
  unfold rdS at h
  split at h
  · rename_i h1; simp at h; exact absurd h.2.2 h1
  · rename_i h1
    split at h
    · simp at h
    · rename_i h2
      simp only [Prod.mk.injEq, and_true] at h
      obtain ⟨g1, g2, g3⟩ := rdLen_ok (b := b) (max := max) (k := (rdLen b max).1) (n := (rdLen b max).2.1) (by
        have : (rdLen b max).2.2 = 0 := by omega
        rw [← this])
      obtain ⟨q1, q2, q3, q4⟩ := rdU_used g1
      exact ⟨_, _, g1, g2, g3, h.1.symm, h.2.symm, by omega, q2, q3⟩
theorem rdS_used {b s : List UInt8} {max : Int} {n : Nat} (h : rdS b max = (s, n, 0)) : (s.length : Int) ≤ max ∧ 1 ≤ n ∧ n ≤ b.length := by
  obtain ⟨k, m, _, h1, h2, h3, h4, h5, h6, _⟩ := rdS_ok h
  refine ⟨?_, by omega, by omega⟩
  have : s.length ≤ k := by rw [h3]; exact List.length_take_le _ _
  omega
theorem rdLen_err {b : List UInt8} {max : Int} {k n e : Nat} (h : rdLen b max = (k, n, e)) (he : e ≠ 0) : k = 0 ∧ n = 0 := by
  unfold rdLen at h
  split at h
  · simp at h; omega
  · split at h
    · simp at h; omega
    · split at h
      · simp at h; omega
      · rename_i _ h2 _
        rw [h] at h2
        simp at h2
        exact absurd h2 he
theorem listR {v v' : Value} {k2 k3 : IntKind} {b c b' c' : Int} (h1 : v = v') (h2 : b = b') (h3 : c = c') :
    Ending.returned (.tuple #[v, .int k2 b, .int k3 c]) = Ending.returned (.tuple #[v', .int k2 b', .int k3 c']) := by rw [h1, h2, h3]
/-- What a decoder of lists leaves. -/
def ListPost (w : World) (e : TypeId) (xs : List Value) (n err : Nat) (en : Ending) (w' : World) : Prop :=
  ∃ v, en = .returned (.tuple #[v, .int .i64 n, .int .i64 err]) ∧ w'.ownsRow w.heap.size e 1 v xs.length xs ∧ Below w.heap.size w w'
end Go.Proofs.Ytmnagkjdnmnbkaa.W

/- wire.Value. -/
namespace Go.Proofs.Ytmnagkjdnmnbkaa.W
set_option linter.unusedVariables false
open Go.RowKit
open Go.Lib (byteCells byteCells_length unzigzag)

/-- v is a slice that reads as the cells xs. -/
def SliceOf (w : World) (v : Value) (xs : List Value) : Prop := ∃ A c, v = .slice A xs.length c ∧ xs.length ≤ c ∧ Reads w w.heap.size 1 A xs.length xs
theorem SliceOf.nil_ (w : World) : SliceOf w (.slice none 0 0) [] := ⟨none, 0, rfl, Nat.le_refl _, Reads.none_⟩
theorem SliceOf.of_own {w : World} {base : Nat} {e : TypeId} {v : Value} {xs : List Value} (h : w.ownsRow base e 1 v xs.length xs) : SliceOf w v xs := by
  rcases h.2 with ⟨rfl, h0⟩ | ⟨g, cap, cur, rfl, _, _, hc, _⟩
  · obtain rfl := List.eq_nil_of_length_eq_zero h0
    exact SliceOf.nil_ w
  · exact ⟨_, _, rfl, hc, Reads.of_own h⟩
theorem SliceOf.below {w w' : World} {v : Value} {xs : List Value} (h : SliceOf w v xs) (hb : Below w.heap.size w w') : SliceOf w' v xs := by
  obtain ⟨A, c, rfl, hc, hr⟩ := h
  exact ⟨A, c, rfl, hc, (hr.below hb).more hb.size⟩
/-- What 's[k:]' gives. -/
theorem slice_from {w : World} {B n c k : Nat} {ki : Int} {A : Option Addr} {bs : List UInt8} (h : Reads w B 1 A n (byteCells bs)) (hn : n ≤ c) (hk : k ≤ n) (hki : ki = (k : Int)) :
    ∃ A', (∀ (W : World), (Instr.slice 40 (.slice A n c) (some (.int .i64 ki)) none none).run Try.prog W = .ok (.slice A' (n - k) (c - k)) W) ∧ Reads w B 1 A' (n - k) (byteCells (bs.drop k)) := by
  subst hki
  refine ⟨if c = k then A else A.map (·.add (k * 1)), fun W => ?_, ?_⟩
  · rw [run_slice_l W 40 A n c (by simp [go_sem]) .i64 k (by omega) (by omega)]
    simp [go_sem]
  · have := h.cut hk hn
    simpa [byteCells] using this
theorem rdLoop_used {α : Type} {el : List UInt8 → α × Nat × Nat} (hel : ∀ b x j, el b = (x, j, 0) → j ≤ b.length) {b : List UInt8} : ∀ (k : Nat) (out : List α) (n : Nat) (l : List α) (m : Nat), n ≤ b.length → rdLoop el b k out n = (l, m, 0) → m ≤ b.length
  | 0, out, n, l, m, hn, h => by simp [rdLoop] at h; omega
  | k + 1, out, n, l, m, hn, h => by
    rw [rdLoop] at h
    split at h
    · rename_i he; simp at h; exact absurd h.2.2 he
    · rename_i he
      have := hel (b.drop n) (el (b.drop n)).1 (el (b.drop n)).2.1 (by
        have : (el (b.drop n)).2.2 = 0 := by omega
        rw [← this])
      exact rdLoop_used hel k _ _ l m (by simp at this; omega) h
theorem rdL_used {α : Type} {el : List UInt8 → α × Nat × Nat} (hel : ∀ b x j, el b = (x, j, 0) → j ≤ b.length) {b : List UInt8} {max : Int} {l : List α} {m : Nat} (h : rdL el b max = (l, m, 0)) : m ≤ b.length := by
  unfold rdL at h
  split at h
  · rename_i he; simp at h; exact absurd h.2.2 he
  · rename_i he
    have h0 : (rdLen b max).2.2 = 0 := by omega
    obtain ⟨g1, _, _⟩ := rdLen_ok (b := b) (max := max) (k := (rdLen b max).1) (n := (rdLen b max).2.1) (by rw [← h0])
    exact rdLoop_used hel _ _ _ l m (rdU_used g1).2.2.2 h
theorem rdIs_used {b : List UInt8} {max : Int} {l : List Int} {m : Nat} (h : rdIs b max = (l, m, 0)) : m ≤ b.length := rdL_used (fun _ _ _ h => (rdI_used h).2.2.2) h
theorem rdSs_used {b : List UInt8} {max : Int} {l : List (List UInt8)} {m : Nat} (h : rdSs b max = (l, m, 0)) : m ≤ b.length := rdL_used (fun _ _ _ h => (rdS_used h).2.2) h
theorem rdLoop_nil {α : Type} {el : List UInt8 → α × Nat × Nat} {b : List UInt8} : ∀ (k : Nat) (out : List α) (n : Nat) (l : List α) (m e : Nat), rdLoop el b k out n = (l, m, e) → e ≠ 0 → l = []
  | 0, out, n, l, m, e, h, he => by simp [rdLoop] at h; omega
  | k + 1, out, n, l, m, e, h, he => by
    rw [rdLoop] at h
    split at h
    · simp at h; exact h.1
    · exact rdLoop_nil k _ _ l m e h he
theorem rdL_nil {α : Type} {el : List UInt8 → α × Nat × Nat} {b : List UInt8} {max : Int} {l : List α} {m e : Nat} (h : rdL el b max = (l, m, e)) (he : e ≠ 0) : l = [] := by
  unfold rdL at h
  split at h
  · simp at h; exact h.1
  · exact rdLoop_nil _ _ _ l m e h he
theorem rdIs_nil {b : List UInt8} {max : Int} {l : List Int} {m e : Nat} (h : rdIs b max = (l, m, e)) (he : e ≠ 0) : l = [] := rdL_nil h he
theorem rdSs_nil {b : List UInt8} {max : Int} {l : List (List UInt8)} {m e : Nat} (h : rdSs b max = (l, m, e)) (he : e ≠ 0) : l = [] := rdL_nil h he
theorem below_set0 {B : Nat} {a w : World} (h : Below B a w) (j : Nat) (u : Value) : Below B a (w.setCell ⟨B, j, none⟩ u) := h.setCell (Nat.le_refl _) u
theorem own_set0 {B : Nat} {w : World} {e : TypeId} {size : Nat} {v : Value} {n : Nat} {xs : List Value} (h : w.ownsRow (B + 1) e size v n xs) (j : Nat) (u : Value) : (w.setCell ⟨B, j, none⟩ u).ownsRow (B + 1) e size v n xs :=
  ownsRow_setCell_below h (Nat.lt_succ_self _) u
def ListPost2 (w : World) (e : TypeId) (xs : List Value) (m : Nat) (n err : Nat) (en : Ending) (w' : World) : Prop :=
  ∃ A c, en = .returned (.tuple #[.slice A m c, .int .i64 n, .int .i64 err]) ∧ m = xs.length ∧ w'.ownsRow w.heap.size e 1 (.slice A m c) xs.length xs ∧ Below w.heap.size w w'
theorem ListPost.two {w : World} {e : TypeId} {xs : List Value} {m n err : Nat} {en : Ending} {w' : World} (h : ListPost w e xs n err en w') (hm : m = xs.length) : ListPost2 w e xs m n err en w' := by
  subst hm
  obtain ⟨v, rfl, hown, hb⟩ := h
  obtain ⟨A, c, rfl, hc, hr⟩ := SliceOf.of_own hown
  exact ⟨A, c, rfl, rfl, hown, hb⟩
/-- What wire.Value and its like leave. -/
def valV (v : GV) (vi vl : Value) : Value := .agg #[.int .i64 v.kind, .int .i64 v.n, strV v.s, vi, vl]
def ValPost (w : World) (v : GV) (n err : Nat) (en : Ending) (w' : World) : Prop :=
  ∃ vi vl, en = .returned (.tuple #[valV v vi vl, .int .i64 n, .int .i64 err]) ∧ SliceOf w' vi (v.i.map intV) ∧ SliceOf w' vl (v.l.map strV) ∧ Below w.heap.size w w'
end Go.Proofs.Ytmnagkjdnmnbkaa.W

/- The encoders: grown, putUint, putInt, putString, AppendUint, AppendInt, AppendString, AppendInts, AppendStrings. -/
namespace Go.Proofs.Ytmnagkjdnmnbkaa.W
set_option linter.unusedVariables false
open Go.RowKit
open Go.Lib (byteCells byteCells_length byteCells_append byteCells_snoc unzigzag zigzag uvarint_small uvarint_big)

/-- What an encoder leaves: a slice of bytes that the call owns from block 'base' on. -/
def OwnPost (base : Nat) (w : World) (l : List UInt8) (en : Ending) (w' : World) : Prop :=
  ∃ v, en = .returned v ∧ w'.ownsRow base 5 1 v l.length (byteCells l) ∧ Below base w w'
theorem byteCells_one' (l : List UInt8) : ∀ u ∈ byteCells l, u.oneCell' = true := by
  intro u hu
  simp only [byteCells, List.mem_map] at hu
  obtain ⟨b, _, rfl⟩ := hu
  rfl
theorem cell_new1 (W : World) (t : TypeId) (u : Value) : (W.alloc (.cells #[u] t)).cell? ⟨W.heap.size, 0, none⟩ = some u := by
  rw [World.cell?_alloc_new W #[u] t 0]; rfl
/-- One byte appended to a row of the call's own. -/
theorem wp_append_byte {ops : Array Oper} {rest : List Oper} {o : Oper} {a : Act} {Q : Exit → Act → World → Prop} (W : World) (hgd : o.guard = none) (s x : Operand)
    (ho : o.op = .call { callee := .builtin .append, args := #[s, x], argTypes := #[40, 40] }) (base : Nat) (v : Value) (l : List UInt8) (z g : Nat) (zi : Int) (hs : a.eval s = v)
    (hown : W.ownsRow base 5 1 v l.length (byteCells l)) (hx : a.eval x = .slice (some ⟨g, 0, none⟩) 1 1) (hcell : W.cell? ⟨g, 0, none⟩ = some (.int .u8 zi)) (hzi : zi = (z : Int)) (hz : z < 256)
    (hl : l.length ≤ 4398046521104) (hbase : base ≤ W.heap.size)
    (h : ∀ v' w', w'.ownsRow base 5 1 v' (l ++ [z.toUInt8]).length (byteCells (l ++ [z.toUInt8])) → Below base W w' → wpList Try.prog ops Q rest (a.put o.dst v') w') : wpList Try.prog ops Q (o :: rest) a W := by
  obtain ⟨i0, hi, hz0, hz1, hz2⟩ := info_parts u8Info
  subst hzi
  refine wpList_append_own W hgd s x 40 ho base 5 i0 _ 1 1 Try.underlying40 hi hz0 hz1 hz2 rfl (by decide) v _ _ hs hown ⟨g, 0, none⟩ 1 1 [.int .u8 (z : Int)] hx rfl ?_ ?_ ?_ ?_ hbase ?_
  · intro q u hq
    match q, hq with
    | 0, hq => simp at hq; subst hq; simpa [Addr.add] using hcell
  · intro u hu; simp at hu; subst hu; rfl
  · unfold maxLen; omega
  · omega
  · intro v' w' h1 h2 _
    refine h v' w' ?_ ((Below.refl _ _).grown h2 hbase fun q hq => (hown.lt q hq).1)
    rw [byteCells_snoc _ hz]
    simpa using h1
theorem OwnPost.trans {base : Nat} {w w1 : World} {l : List UInt8} {en : Ending} {w' : World} (hb : Below base w w1) (h : OwnPost base w1 l en w') : OwnPost base w l en w' := by
  obtain ⟨v, he, ho, hb'⟩ := h
  exact ⟨v, he, ho, hb.trans hb'⟩
theorem u8Size : (Try.prog.info? 5).map (·.size) = some 1 := by kernel_rfl
end Go.Proofs.Ytmnagkjdnmnbkaa.W

/- The encoders that go through grown: AppendUint, AppendInt, putString, AppendString, AppendInts, AppendStrings. -/
namespace Go.Proofs.Ytmnagkjdnmnbkaa.W
set_option linter.unusedVariables false
open Go.RowKit
open Go.Lib (byteCells byteCells_length byteCells_append byteCells_snoc unzigzag zigzag uvarint_small uvarint_big)

theorem enU_len {x : Nat} (h : x < 18446744073709551616) : (enU x).length ≤ 10 := Go.Lib.uvarint_length64 h
theorem enI_len {x : Int} (h : In64 x) : (enI x).length ≤ 10 := enU_len (zig_lt h)
/- LISTS -/
theorem size_list (s : ByteArray) : s.size = s.data.toList.length := by rw [Array.length_toList]; rfl
theorem put_u64 {n : Nat} : ((n : Nat) : Int) = (n : Int) := rfl
end Go.Proofs.Ytmnagkjdnmnbkaa.W

/- tooLong, slices.IndexFunc, slices.ContainsFunc (at tooLong), ValidValue. -/
namespace Go.Proofs.Ytmnagkjdnmnbkaa.W
set_option linter.unusedVariables false
open Go.RowKit
open Go.Lib (byteCells byteCells_length byteCells_append byteCells_snoc unzigzag zigzag uvarint_small uvarint_big)

/-- A value of the actor language as the program holds it. -/
def gvV (v : GV) (I L : Option Addr) (ci cl : Nat) : Value := .agg #[.int .i64 v.kind, .int .i64 v.n, strV v.s, .slice I v.i.length ci, .slice L v.l.length cl]
structure GVarg (w : World) (B : Nat) (v : GV) (I L : Option Addr) (ci cl : Nat) : Prop where
  ri : Reads w B 1 I v.i.length (v.i.map intV)
  rl : Reads w B 1 L v.l.length (v.l.map strV)
  hci : v.i.length ≤ ci
  hcl : v.l.length ≤ cl
  k64 : In64 v.kind
  n64 : In64 v.n
  i64 : ∀ x ∈ v.i, In64 x
  s40 : v.s.length ≤ 1099511627776
  i40 : v.i.length ≤ 1099511627776
  l40 : v.l.length ≤ 1099511627776
  e40 : ∀ s ∈ v.l, s.length ≤ 1099511627776
end Go.Proofs.Ytmnagkjdnmnbkaa.W

/- ValidValue and AppendValue. -/
namespace Go.Proofs.Ytmnagkjdnmnbkaa.W
set_option linter.unusedVariables false
open Go.RowKit
open Go.Lib (byteCells byteCells_length byteCells_append byteCells_snoc unzigzag zigzag uvarint_small uvarint_big)

/- APPEND -/
theorem own_base {w : World} {base base' : Nat} {e : TypeId} {size : Nat} {v : Value} {n : Nat} {xs : List Value} (h : w.ownsRow base' e size v n xs) (hb : base ≤ base') : w.ownsRow base e size v n xs := by
  refine ⟨h.1, ?_⟩
  rcases h.2 with h0 | ⟨g, cap, cur, h1, h2, h3⟩
  · exact .inl h0
  · exact .inr ⟨g, cap, cur, h1, by omega, h3⟩
theorem step_append_byte {ops : Array Oper} {o : Oper} {a : Act} {K : Act → World → Prop} {Q : Exit → Act → World → Prop} {E : Prop} (W : World) (hgd : o.guard = none) (s x : Operand)
    (ho : o.op = .call { callee := .builtin .append, args := #[s, x], argTypes := #[40, 40] }) (base : Nat) (v : Value) (l : List UInt8) (z g : Nat) (zi : Int) (hs : a.eval s = v)
    (hown : W.ownsRow base 5 1 v l.length (byteCells l)) (hx : a.eval x = .slice (some ⟨g, 0, none⟩) 1 1) (hcell : W.cell? ⟨g, 0, none⟩ = some (.int .u8 zi)) (hzi : zi = (z : Int)) (hz : z < 256)
    (hl : l.length ≤ 4398046521104) (hbase : base ≤ W.heap.size)
    (h : ∀ v' w', w'.ownsRow base 5 1 v' (l ++ [z.toUInt8]).length (byteCells (l ++ [z.toUInt8])) → Below base W w' → K (a.put o.dst v') w') :
    if Region.wanted o (yielded ops a.tmps) = true then Oper.wp Try.prog o a W K Q else E := by
  obtain ⟨i0, hi, hz0, hz1, hz2⟩ := info_parts u8Info
  subst hzi
  have hrd : Reads W (g + 1) 1 (some ⟨g, 0, none⟩) 1 [.int .u8 (z : Int)] := ⟨rfl, fun _ => ⟨_, rfl, Nat.lt_succ_self g, fun j u hu => by
    match j, hu with
    | 0, hu => simp at hu; subst hu; simpa [Addr.add] using hcell⟩⟩
  refine step_append_any W hgd s x 40 ho base 5 i0 _ 1 1 Try.underlying40 hi hz0 hz1 hz2 rfl (by decide) v _ _ hs hown (g + 1) (some ⟨g, 0, none⟩) 1 1 _ hx hrd ?_ ?_ ?_ hbase ?_
  · intro u hu; simp at hu; subst hu; rfl
  · unfold maxLen; omega
  · omega
  · intro v' w' h1 h2 _
    refine h v' w' ?_ ((Below.refl _ _).grown h2 hbase fun q hq => (hown.lt q hq).1)
    rw [byteCells_snoc _ hz]
    simpa using h1
theorem GVarg.below {w W : World} {B : Nat} {v : GV} {I L : Option Addr} {ci cl : Nat} (h : GVarg w B v I L ci cl) (hb : Below B w W) : GVarg W B v I L ci cl :=
  { h with ri := h.ri.below hb, rl := h.rl.below hb }
theorem GVarg.more {w : World} {B B' : Nat} {v : GV} {I L : Option Addr} {ci cl : Nat} (h : GVarg w B v I L ci cl) (hb : B ≤ B') : GVarg w B' v I L ci cl :=
  { h with ri := h.ri.more hb, rl := h.rl.more hb }
theorem ok_kind {v : GV} (h : v.ok = true) : 0 ≤ v.kind ∧ v.kind ≤ 5 := by
  unfold GV.ok at h
  simp only [Bool.or_eq_true, Bool.and_eq_true, beq_iff_eq] at h
  omega
theorem enV_len {v : GV} : 1 ≤ (enV v).length := by simp [enV]
theorem World.size_le_alloc_drew (w : World) (o : Obj) : w.heap.size ≤ (w.alloc o).drew.heap.size := by
  show w.heap.size ≤ (w.alloc o).heap.size
  simp
/-- What grown leaves, seen from AppendValue. -/
def GrownAt (base : Nat) (w : World) (p : Addr) (u : Value) (bs : List UInt8) (x : Option (Nat × Value)) (en : Ending) (w' : World) : Prop :=
  ∃ v, en = .returned v ∧ w'.ownsRow base 5 1 v bs.length (byteCells bs) ∧ Below base w w' ∧ w'.cell? p = some u ∧ ∀ g z, x = some (g, z) → w'.cell? ⟨g, 0, none⟩ = some z
end Go.Proofs.Ytmnagkjdnmnbkaa.W

/- wire.Checksum; putSum, readSum. -/
namespace Go.Proofs.Ytmnagkjdnmnbkaa.W
set_option linter.unusedVariables false
open Go.RowKit
open Go.Lib (byteCells byteCells_length byteCells_append byteCells_snoc)

def tblN : List Nat := [0, 498536548, 997073096, 651767980, 1994146192, 1802195444, 1303535960, 1342533948, 3988292384, 4027552580, 3604390888, 3412177804, 2607071920, 2262029012, 2685067896, 3183342108]
/-- The package's table lies in block 0. -/
def Tab (w : World) : Prop := 0 < w.heap.size ∧ ∀ j, j < 16 → w.cell? ⟨0, j, none⟩ = some (.int .u32 ((tblN.getD j 0 : Nat) : Int))
theorem Tab.below {w w' : World} {B : Nat} (h : Tab w) (hb : Below B w w') (hB : 0 < B) : Tab w' :=
  ⟨Nat.lt_of_lt_of_le h.1 hb.size, fun j hj => (hb.cell (p := ⟨0, j, none⟩) hB).trans (h.2 j hj)⟩
theorem Tab.on {w w' : World} (h : Tab w) (hb : Below w.heap.size w w') : Tab w' := h.below hb h.1
theorem xor_cancel (x p : BitVec 32) : p ^^^ (x ^^^ p) = x := by
  rw [BitVec.xor_comm x p, ← BitVec.xor_assoc, BitVec.xor_self, BitVec.zero_xor]
theorem bit1_xor (a b : BitVec 32) : bit1 (a ^^^ b) = bit1 a ^^^ bit1 b := by
  unfold bit1
  rw [BitVec.getLsbD_xor, BitVec.ushiftRight_xor_distrib]
  cases ha : a.getLsbD 0 <;> cases hb : b.getLsbD 0 <;> simp [BitVec.xor_assoc]
  · rw [BitVec.xor_comm (b >>> 1) P32]
  · rw [xor_cancel]
theorem bit1_shl (x : BitVec 32) (hx : x.getLsbD 31 = false) : bit1 (x <<< 1) = x := by
  unfold bit1
  rw [if_neg (by simp)]
  apply BitVec.eq_of_getLsbD_eq
  intro i hi
  simp only [BitVec.getLsbD_ushiftRight, BitVec.getLsbD_shiftLeft]
  by_cases h : i = 31
  · subst h; rw [hx]; decide
  · have h2 : 1 + i < 32 := by omega
    simp [h2]
def bit4 (s : BitVec 32) : BitVec 32 := bit1 (bit1 (bit1 (bit1 s)))
theorem bit4_xor (a b : BitVec 32) : bit4 (a ^^^ b) = bit4 a ^^^ bit4 b := by simp only [bit4, bit1_xor]
theorem shl_shl (x : BitVec 32) (k : Nat) : x <<< (k + 1) = (x <<< k) <<< 1 := by
  rw [BitVec.shiftLeft_add]
theorem top_shl (x : BitVec 32) (k : Nat) (_hk : k ≤ 31) (hx : x.getLsbD (31 - k) = false) : (x <<< k).getLsbD 31 = false := by
  rw [BitVec.getLsbD_shiftLeft, hx, Bool.and_false]
theorem bit4_shl (x : BitVec 32) (hx : ∀ i, 28 ≤ i → x.getLsbD i = false) : bit4 (x <<< 4) = x := by
  unfold bit4
  rw [shl_shl x 3, bit1_shl _ (top_shl x 3 (by omega) (hx 28 (by omega))), shl_shl x 2, bit1_shl _ (top_shl x 2 (by omega) (hx 29 (by omega))), shl_shl x 1, bit1_shl _ (top_shl x 1 (by omega) (hx 30 (by omega))), bit1_shl _ (hx 31 (by omega))]
theorem bit4_low : ∀ n : Fin 16, bit4 (BitVec.ofNat 32 n.val) = BitVec.ofNat 32 (tblN.getD n.val 0) := by decide +kernel
theorem split4 (s : BitVec 32) : s = ((s >>> 4) <<< 4) ^^^ BitVec.ofNat 32 (s.toNat % 16) := by
  apply BitVec.eq_of_getLsbD_eq
  intro i hi
  rw [BitVec.getLsbD_xor, BitVec.getLsbD_shiftLeft, BitVec.getLsbD_ushiftRight, BitVec.getLsbD_ofNat, show (16 : Nat) = 2 ^ 4 by decide, Nat.testBit_mod_two_pow]
  by_cases h : i < 4
  · simp [h, hi, BitVec.getLsbD]
  · simp [h, hi, show 4 + (i - 4) = i by omega]
theorem nibble (s : BitVec 32) : bit4 s = (s >>> 4) ^^^ BitVec.ofNat 32 (tblN.getD (s.toNat % 16) 0) := by
  conv => lhs; rw [split4 s]
  rw [bit4_xor, bit4_shl _ (fun i hi => by rw [BitVec.getLsbD_ushiftRight]; exact BitVec.getLsbD_of_ge _ _ (by omega)), bit4_low ⟨s.toNat % 16, by omega⟩]
theorem xor_walk (a b : BitVec 32) : bits .xor .u32 (a.toNat : Int) (b.toNat : Int) = (((a ^^^ b).toNat : Nat) : Int) := by
  rw [u32_xor_nat _ _ a.isLt b.isLt, BitVec.toNat_xor]
theorem not_walk (s : BitVec 32) : bits .xor .u32 IntKind.u32.max (s.toNat : Int) = (((~~~ s).toNat : Nat) : Int) := by
  have h := xor_walk (BitVec.allOnes 32) s
  rw [← BitVec.not_def] at h
  exact h
theorem byte1_eq (s : BitVec 32) (z : UInt8) : byte1 s z = bit4 (bit4 (s ^^^ BitVec.ofNat 32 z.toNat)) := rfl
theorem tbl_lt : ∀ n : Fin 16, tblN.getD n.val 0 < 4294967296 := by decide
theorem step_walk (y : BitVec 32) : bits .xor .u32 ((y.toNat : Int) / 16) ((tblN.getD (y.toNat % 16) 0 : Nat) : Int) = (((bit4 y).toNat : Nat) : Int) := by
  have hy := y.isLt
  have ht : tblN.getD (y.toNat % 16) 0 < 4294967296 := tbl_lt ⟨y.toNat % 16, by omega⟩
  have e : ((y.toNat : Int) / 16) = ((y.toNat / 16 : Nat) : Int) := by omega
  rw [e, u32_xor_nat _ _ (by omega) ht, nibble y, BitVec.toNat_xor, BitVec.toNat_ushiftRight, BitVec.toNat_ofNat, Nat.mod_eq_of_lt (show tblN.getD (y.toNat % 16) 0 < 2 ^ 32 from ht), Nat.shiftRight_eq_div_pow]
/-- Bytes appended to a row of the call's own, wherever they lie. -/
theorem wp_append_bytes {ops : Array Oper} {rest : List Oper} {o : Oper} {a : Act} {Q : Exit → Act → World → Prop} (W : World) (hgd : o.guard = none) (s x : Operand)
    (ho : o.op = .call { callee := .builtin .append, args := #[s, x], argTypes := #[40, 40] }) (base : Nat) (v : Value) (l news : List UInt8) (B m c : Nat) (A : Option Addr) (hs : a.eval s = v)
    (hown : W.ownsRow base 5 1 v l.length (byteCells l)) (hx : a.eval x = .slice A m c) (hr : Reads W B 1 A m (byteCells news))
    (hl : l.length + news.length ≤ 8796093022208) (hbase : base ≤ W.heap.size)
    (h : ∀ v' w', w'.ownsRow base 5 1 v' (l ++ news).length (byteCells (l ++ news)) → Below base W w' → wpList Try.prog ops Q rest (a.put o.dst v') w') : wpList Try.prog ops Q (o :: rest) a W := by
  obtain ⟨i0, hi, hz0, hz1, hz2⟩ := info_parts u8Info
  have hm := hr.len
  refine wpList_append_any W hgd s x 40 ho base 5 i0 _ 1 1 Try.underlying40 hi hz0 hz1 hz2 rfl (by decide) v _ _ hs hown B A m c _ hx hr (byteCells_one' _) ?_ ?_ hbase ?_
  · unfold maxLen; omega
  · omega
  · intro v' w' h1 h2 _
    refine h v' w' ?_ ((Below.refl _ _).grown h2 hbase fun q hq => (hown.lt q hq).1)
    rw [byteCells_append, List.length_append, ← hm]
    exact h1
theorem reads_new (W : World) (cs : Array Value) (bs : List UInt8) (h : cs.toList = byteCells bs) : Reads (W.alloc (.cells cs 5)) (W.heap.size + 1) 1 (some ⟨W.heap.size, 0, none⟩) bs.length (byteCells bs) := by
  refine ⟨by rw [byteCells_length, Nat.mul_one], fun _ => ⟨_, rfl, Nat.lt_succ_self _, fun j u hu => ?_⟩⟩
  have e : (⟨W.heap.size, 0, none⟩ : Addr).add j = ⟨W.heap.size, j, none⟩ := by unfold Addr.add; split <;> simp_all
  rw [e, World.cell?_alloc_new W cs 5 j, ← hu, ← h]
  simp
theorem or32 {a x k : Nat} (ha : a < 2 ^ k) (hs : a + x * 2 ^ k < 4294967296) : bits .or .u32 (a : Int) ((x * 2 ^ k : Nat) : Int) = ((a + x * 2 ^ k : Nat) : Int) := by
  rw [u32_or_nat _ _ (by omega) (by omega)]
  congr 1
  rw [Nat.or_comm, Nat.mul_comm, ← Nat.two_pow_add_eq_or_of_lt ha, Nat.add_comm]
theorem or4 {a b c d : Nat} (ha : a < 256) (hb : b < 256) (hc : c < 256) (hd : d < 256) :
    bits .or .u32 (bits .or .u32 (bits .or .u32 (a : Int) ((b : Int) * 256)) ((c : Int) * 65536)) ((d : Int) * 16777216) = ((a + 256 * b + 65536 * c + 16777216 * d : Nat) : Int) := by
  have e1 : ((b : Int) * 256) = ((b * 2 ^ 8 : Nat) : Int) := by omega
  have e2 : ((c : Int) * 65536) = ((c * 2 ^ 16 : Nat) : Int) := by omega
  have e3 : ((d : Int) * 16777216) = ((d * 2 ^ 24 : Nat) : Int) := by omega
  rw [e1, or32 (k := 8) (by omega) (by omega), e2, or32 (k := 16) (by omega) (by omega), e3, or32 (k := 24) (by omega) (by omega)]
  omega
/-- Four bytes as a number, the least significant first. -/
def rd4 (b : List UInt8) : Nat := (b.getD 0 0).toNat + 256 * (b.getD 1 0).toNat + 65536 * (b.getD 2 0).toNat + 16777216 * (b.getD 3 0).toNat
end Go.Proofs.Ytmnagkjdnmnbkaa.W

/- wire.Seal. -/
namespace Go.Proofs.Ytmnagkjdnmnbkaa.W
set_option linter.unusedVariables false
open Go.RowKit
open Go.Lib (byteCells byteCells_length byteCells_append byteCells_snoc)

/-- As wp_append_bytes, the result written out. -/
theorem wp_append_slice {ops : Array Oper} {rest : List Oper} {o : Oper} {a : Act} {Q : Exit → Act → World → Prop} (W : World) (hgd : o.guard = none) (s x : Operand)
    (ho : o.op = .call { callee := .builtin .append, args := #[s, x], argTypes := #[40, 40] }) (base : Nat) (v : Value) (l news : List UInt8) (B m c : Nat) (A : Option Addr) (hs : a.eval s = v)
    (hown : W.ownsRow base 5 1 v l.length (byteCells l)) (hx : a.eval x = .slice A m c) (hr : Reads W B 1 A m (byteCells news))
    (hl : l.length + news.length ≤ 8796093022208) (hbase : base ≤ W.heap.size) (n : Nat) (hn : n = (l ++ news).length)
    (h : ∀ A' c' w', w'.ownsRow base 5 1 (.slice A' n c') n (byteCells (l ++ news)) → n ≤ c' → Reads w' w'.heap.size 1 A' n (byteCells (l ++ news)) → Below base W w' → wpList Try.prog ops Q rest (a.put o.dst (.slice A' n c')) w') : wpList Try.prog ops Q (o :: rest) a W := by
  refine wp_append_bytes W hgd s x ho base v l news B m c A hs hown hx hr hl hbase fun v' w' h1 h2 => ?_
  obtain ⟨A', c', hv, hc, hrd⟩ := SliceOf.of_own (base := base) (e := 5) (by rw [byteCells_length]; exact h1)
  rw [byteCells_length, ← hn] at hv hc hrd
  rw [← hn, hv] at h1
  rw [hv]
  exact h A' c' w' h1 hc hrd h2
def SealPost (w : World) (l : List UInt8) (err : Nat) (en : Ending) (w' : World) : Prop :=
  ∃ A c, en = .returned (.tuple #[.slice A l.length c, .int .i64 err]) ∧ l.length ≤ c ∧ w'.ownsRow w.heap.size 5 1 (.slice A l.length c) l.length (byteCells l) ∧ Below w.heap.size w w'
theorem enU_ge (x : Nat) : 1 ≤ (enU x).length := enU_pos x
end Go.Proofs.Ytmnagkjdnmnbkaa.W

/- wire.Open. -/
namespace Go.Proofs.Ytmnagkjdnmnbkaa.W
set_option linter.unusedVariables false
open Go.RowKit
open Go.Lib (byteCells byteCells_length byteCells_append byteCells_snoc)

theorem results_tmp4 {fn : Func} {t u v x : Tmp} (h : fn.results = #[.tmp t, .tmp u, .tmp v, .tmp x]) (tmps : Array Value) (P : Program) (w : World) :
    (results fn tmps).run P w = .ok (.tuple #[tmps.getD t undef, tmps.getD u undef, tmps.getD v undef, tmps.getD x undef]) w := by simp [results, h]
theorem quiet_add {P : Program} {f : FuncId} {args : Array Value} {w : World} {a n : Nat} {v : Value}
    (h : Calls P f args (w.drewN (a + n)) fun e w' => e = .returned v ∧ ∃ m, w' = (w.drewN (a + n)).drewN m) :
    Calls P f args (w.drewN (a + n)) fun e w'' => e = .returned v ∧ ∃ m, w'' = w.drewN (a + m) :=
  h.mono fun _ _ ⟨he, m, hm⟩ => ⟨he, n + m, by rw [hm, World.drewN_drewN, Nat.add_assoc]⟩
theorem quiet_left {P : Program} {f : FuncId} {args : Array Value} {w : World} {n : Nat} {v : Value}
    (h : Calls P f args (w.drewN n) fun e w' => e = .returned v ∧ w.drewN n = w') : Calls P f args (w.drewN n) fun e w'' => e = .returned v ∧ ∃ m, w'' = w.drewN m :=
  h.mono fun _ _ ⟨he, hm⟩ => ⟨he, n, hm.symm⟩
theorem slice_to {w : World} {B n c k : Nat} {ki : Int} {A : Option Addr} {bs : List UInt8} (h : Reads w B 1 A n (byteCells bs)) (hn : n ≤ c) (hk : k ≤ n) (hk0 : 0 < n) (hki : ki = (k : Int)) :
    ∀ (W : World), (Instr.slice 40 (.slice A n c) none (some (.int .i64 ki)) none).run Try.prog W = .ok (.slice A k c) W := by
  subst hki
  intro W
  rw [run_slice_h W 40 A n c (by simp [go_sem]) .i64 k (by omega) (by omega)]
  simp [go_sem]
theorem slice_mid {w : World} {B n c i j : Nat} {ii ij : Int} {A : Option Addr} {bs : List UInt8} (h : Reads w B 1 A n (byteCells bs)) (hn : n ≤ c) (hij : i ≤ j) (hj : j ≤ n) (hii : ii = (i : Int)) (hjj : ij = (j : Int)) :
    ∃ A', (∀ (W : World), (Instr.slice 40 (.slice A n c) (some (.int .i64 ii)) (some (.int .i64 ij)) none).run Try.prog W = .ok (.slice A' (j - i) (c - i)) W) ∧ Reads w B 1 A' (j - i) (byteCells ((bs.drop i).take (j - i))) := by
  subst hii hjj
  refine ⟨if c = i then A else A.map (·.add (i * 1)), fun W => ?_, ?_⟩
  · rw [run_slice_lh W 40 A n c (by simp [go_sem]) .i64 .i64 i j (by omega) (by omega) (by omega)]
    simp [go_sem]
  · have := (h.cut (k := i) (by omega) hn)
    have h2 : Reads w B 1 (if c = i then A else A.map (·.add (i * 1))) (n - i) (byteCells (bs.drop i)) := by simpa [byteCells] using this
    exact h2.takeTo (by omega)
def OpenPost (w : World) (k : Int) (l : List UInt8) (n err : Nat) (en : Ending) (w' : World) : Prop :=
  ∃ A c, en = .returned (.tuple #[.int .i64 k, .slice A l.length c, .int .i64 n, .int .i64 err]) ∧ l.length ≤ c ∧ w'.ownsRow w.heap.size 5 1 (.slice A l.length c) l.length (byteCells l) ∧ Below w.heap.size w w'
theorem openPost_nil {w w' : World} {err : Nat} (hb : Below w.heap.size w w') : OpenPost w 0 [] 0 err (.returned (.tuple #[.int .i64 0, .slice none 0 0, .int .i64 0, .int .i64 err])) w' :=
  ⟨none, 0, rfl, Nat.le_refl _, World.ownsRow_nil _ _ _ _, hb⟩
/- MAIN -/
theorem ret4 {a a' c c' d d' : Int} {v v' : Value} (h1 : a = a') (h2 : v = v') (h3 : c = c') (h4 : d = d') : Ending.returned (.tuple #[.int .i64 a, v, .int .i64 c, .int .i64 d]) = Ending.returned (.tuple #[.int .i64 a', v', .int .i64 c', .int .i64 d']) := by rw [h1, h2, h3, h4]
theorem below_drewN {B : Nat} {a w : World} (h : Below B a w) (n : Nat) : Below B a (w.drewN n) := ⟨h.os, h.tape, h.output, h.size, h.block⟩
theorem low4_rd (c : BitVec 32) (l : List UInt8) (hl : 4 ≤ l.length) : rd4 l = c.toNat ↔ l.take 4 = low4 c := by
  match l, hl with
  | a :: b :: d :: e :: t, _ =>
    have hc := c.isLt
    have ha := a.toNat_lt
    have hb := b.toNat_lt
    have hd := d.toNat_lt
    have he := e.toNat_lt
    have key : ∀ (x : UInt8) (m : Nat), m < 256 → (x = m.toUInt8 ↔ x.toNat = m) := fun x m hm => by
      constructor
      · intro h; rw [h, u8n hm]
      · intro h; exact UInt8.toNat_inj.1 (by rw [u8n hm]; exact h)
    simp only [rd4, low4, List.take_succ_cons, List.take_zero, List.getD_cons_zero, List.getD_cons_succ, List.cons.injEq, and_true]
    rw [key a _ (by omega), key b _ (by omega), key d _ (by omega), key e _ (by omega)]
    omega
end Go.Proofs.Ytmnagkjdnmnbkaa.W

/- The plain laws of the encodings: what is decoded of an encoding; what a decoded text begins with; prefixes. -/
namespace Go.Proofs.Ytmnagkjdnmnbkaa.W
set_option linter.unusedVariables false
open Go.Lib (uvarint zigzag unzigzag uvarint_small uvarint_big uvarint_pos)

theorem rdLen_back {v : Nat} {max : Int} (h : v < 18446744073709551616) (hm : (v : Int) ≤ max) (r : List UInt8) : rdLen (enU v ++ r) max = (v, (enU v).length, 0) := by
  unfold rdLen
  rw [rdU_back h r, if_neg (by omega), if_neg (by simp), if_neg (by simp; omega)]
theorem rdS_back {s : List UInt8} {max : Int} (hl : s.length < 18446744073709551616) (hm : (s.length : Int) ≤ max) (r : List UInt8) : rdS (enS s ++ r) max = (s, (enS s).length, 0) := by
  unfold rdS enS
  rw [List.append_assoc, rdLen_back hl hm, if_neg (by simp), if_neg (by simp)]
  simp
theorem drop_app {α : Type} {a b l : List α} {n : Nat} (h : l.drop n = a ++ b) : l.drop (n + a.length) = b := by
  rw [← List.drop_drop, h, List.drop_left]
theorem rdLoop_back {α : Type} {el : List UInt8 → α × Nat × Nat} {en : α → List UInt8} (ok : α → Prop) (hel : ∀ x r, ok x → el (en x ++ r) = (x, (en x).length, 0)) {b : List UInt8} :
    ∀ (l : List α) (out : List α) (n : Nat) (r : List UInt8), (∀ x ∈ l, ok x) → b.drop n = l.flatMap en ++ r → rdLoop el b l.length out n = (out ++ l, n + (l.flatMap en).length, 0)
  | [], out, n, r, _, _ => by simp [rdLoop]
  | x :: l, out, n, r, hok, hb => by
    rw [List.flatMap_cons, List.append_assoc] at hb
    have he := hel x (l.flatMap en ++ r) (hok x (by simp))
    rw [List.length_cons, rdLoop, hb, he, if_neg (by simp)]
    rw [rdLoop_back ok hel l _ _ r (fun y hy => hok y (by simp [hy])) (drop_app hb)]
    simp [Nat.add_assoc]
theorem rdIs_back {l : List Int} {max : Int} (hm : (l.length : Int) ≤ max) (hlt : l.length < 18446744073709551616) (hl : ∀ x ∈ l, In64 x) (r : List UInt8) : rdIs (enIs l ++ r) max = (l, (enIs l).length, 0) := by
  unfold rdIs rdL enIs
  rw [List.append_assoc, rdLen_back hlt hm, if_neg (by simp)]
  have := rdLoop_back (el := rdI) (en := enI) In64 (fun x r hx => rdI_back hx r) (b := enU l.length ++ (l.flatMap enI ++ r)) l [] (enU l.length).length r hl (by simp)
  rw [this]
  simp
theorem rdSs_back {l : List (List UInt8)} {max : Int} (hm : (l.length : Int) ≤ max) (hlt : l.length < 18446744073709551616) (hl : ∀ x ∈ l, x.length ≤ 64) (r : List UInt8) : rdSs (enSs l ++ r) max = (l, (enSs l).length, 0) := by
  unfold rdSs rdL enSs
  rw [List.append_assoc, rdLen_back hlt hm, if_neg (by simp)]
  have := rdLoop_back (el := rdS64) (en := enS) (fun x => x.length ≤ 64) (fun x r hx => rdS_back (max := 64) (by omega) (by omega) r) (b := enU l.length ++ (l.flatMap enS ++ r)) l [] (enU l.length).length r hl (by simp)
  rw [this]
  simp
theorem gv_ext {a b : GV} (h1 : a.kind = b.kind) (h2 : a.n = b.n) (h3 : a.s = b.s) (h4 : a.i = b.i) (h5 : a.l = b.l) : a = b := by
  cases a; cases b; simp_all
theorem tooL_no {l : List (List UInt8)} (h : tooL l = false) : ∀ s ∈ l, s.length ≤ 64 := by
  intro s hs
  have := (List.any_eq_false.1 h) s hs
  simpa using this
theorem tooL_of {l : List (List UInt8)} (h : ∀ s ∈ l, s.length ≤ 64) : tooL l = false := by
  unfold tooL
  rw [List.any_eq_false]
  intro s hs
  have := h s hs
  simp; omega
/-- What a valid value is, kind by kind. -/
theorem GV.ok_iff (v : GV) : v.ok = true ↔
    (v.kind = 0 ∧ v.n = 0 ∧ v.s = [] ∧ v.i = [] ∧ v.l = []) ∨ (v.kind = 1 ∧ v.s = [] ∧ v.i = [] ∧ v.l = []) ∨
    (v.kind = 2 ∧ (v.n = 0 ∨ v.n = 1) ∧ v.s = [] ∧ v.i = [] ∧ v.l = []) ∨ (v.kind = 3 ∧ v.s.length ≤ 64 ∧ v.n = 0 ∧ v.i = [] ∧ v.l = []) ∨
    (v.kind = 4 ∧ v.i.length ≤ 16 ∧ v.n = 0 ∧ v.s = [] ∧ v.l = []) ∨ (v.kind = 5 ∧ v.l.length ≤ 16 ∧ tooL v.l = false ∧ v.n = 0 ∧ v.s = [] ∧ v.i = []) := by
  have hi : (v.i.length : Int) = 0 ↔ v.i = [] := by rw [← List.length_eq_zero_iff]; omega
  have hl : (v.l.length : Int) = 0 ↔ v.l = [] := by rw [← List.length_eq_zero_iff]; omega
  unfold GV.ok
  simp only [Bool.or_eq_true, Bool.and_eq_true, beq_iff_eq, decide_eq_true_eq, Bool.not_eq_true', List.isEmpty_iff, hi, hl]
  have e1 : ((v.s.length : Int) ≤ 64) = (v.s.length ≤ 64) := by apply propext; omega
  have e2 : ((v.i.length : Int) ≤ 16) = (v.i.length ≤ 16) := by apply propext; omega
  have e3 : ((v.l.length : Int) ≤ 16) = (v.l.length ≤ 16) := by apply propext; omega
  rw [e1, e2, e3]
  constructor <;> intro h <;> simp only [and_assoc, or_assoc] at h ⊢ <;> exact h
end Go.Proofs.Ytmnagkjdnmnbkaa.W

/- The plain laws, more: values and frames. -/
namespace Go.Proofs.Ytmnagkjdnmnbkaa.W
set_option linter.unusedVariables false
open Go.Lib (uvarint zigzag unzigzag uvarint_small uvarint_big uvarint_pos)

/-- The numbers of a value are ints. -/
def GV.in64 (v : GV) : Prop := In64 v.n ∧ ∀ x ∈ v.i, In64 x
theorem rdV_cons {c : UInt8} {t : List UInt8} {v : GV} {n : Nat} (h : rdVb c.toNat t = (v, n, 0)) : rdV (c :: t) = (v, 1 + n, 0) := by
  show (if (rdVb c.toNat t).2.2 ≠ 0 then _ else _) = _
  rw [h, if_neg (by simp)]
theorem rdV_back {v : GV} (h : v.ok = true) (hin : v.in64) (r : List UInt8) : rdV (enV v ++ r) = (v, (enV v).length, 0) := by
  obtain ⟨k, n, s, i, l⟩ := v
  obtain ⟨hn, hi⟩ := hin
  dsimp only at hn hi
  rcases (GV.ok_iff _).1 h with h | h | h | h | h | h <;> dsimp only at h
  · obtain ⟨rfl, rfl, rfl, rfl, rfl⟩ := h
    rfl
  · obtain ⟨rfl, rfl, rfl, rfl⟩ := h
    show rdV ((1 : UInt8) :: (enI n ++ r)) = _
    have e : rdVb 1 (enI n ++ r) = (⟨1, n, [], [], []⟩, (enI n).length, 0) := by unfold rdVb; rw [rdI_back hn]; rfl
    rw [rdV_cons (c := 1) e]
    show (_, 1 + (enI n).length, 0) = (_, ((1 : UInt8) :: enI n).length, 0)
    rw [List.length_cons, Nat.add_comm]
  · obtain ⟨rfl, hn01, rfl, rfl, rfl⟩ := h
    rcases hn01 with rfl | rfl <;> rfl
  · obtain ⟨rfl, hs, rfl, rfl, rfl⟩ := h
    show rdV ((3 : UInt8) :: (enS s ++ r)) = _
    have e : rdVb 3 (enS s ++ r) = (⟨3, 0, s, [], []⟩, (enS s).length, 0) := by unfold rdVb; rw [rdS_back (max := 64) (by omega) (by omega)]; rfl
    rw [rdV_cons (c := 3) e]
    show (_, 1 + (enS s).length, 0) = (_, ((3 : UInt8) :: enS s).length, 0)
    rw [List.length_cons, Nat.add_comm]
  · obtain ⟨rfl, hl, rfl, rfl, rfl⟩ := h
    show rdV ((4 : UInt8) :: (enIs i ++ r)) = _
    have e : rdVb 4 (enIs i ++ r) = (⟨4, 0, [], i, []⟩, (enIs i).length, 0) := by unfold rdVb; rw [rdIs_back (max := 16) (by omega) (by omega) hi]; rfl
    rw [rdV_cons (c := 4) e]
    show (_, 1 + (enIs i).length, 0) = (_, ((4 : UInt8) :: enIs i).length, 0)
    rw [List.length_cons, Nat.add_comm]
  · obtain ⟨rfl, hl, ht, rfl, rfl, rfl⟩ := h
    show rdV ((5 : UInt8) :: (enSs l ++ r)) = _
    have e : rdVb 5 (enSs l ++ r) = (⟨5, 0, [], [], l⟩, (enSs l).length, 0) := by unfold rdVb; rw [rdSs_back (max := 16) (by omega) (by omega) (tooL_no ht)]; rfl
    rw [rdV_cons (c := 5) e]
    show (_, 1 + (enSs l).length, 0) = (_, ((5 : UInt8) :: enSs l).length, 0)
    rw [List.length_cons, Nat.add_comm]
theorem low4_len (c : BitVec 32) : (low4 c).length = 4 := rfl
theorem sealB_len (k : Int) (body : List UInt8) : (sealB k body).length = 3 + (enU body.length).length + body.length := by simp [sealB]; omega
theorem sealB_drop3 (k : Int) (body t : List UInt8) : (sealB k body ++ t).drop 3 = enU body.length ++ (body ++ t) := by simp [sealB]
theorem kindByte {k : Int} (h1 : 1 ≤ k) (h2 : k ≤ 255) : (k.toNat.toUInt8).toNat = k.toNat := u8n (by omega)
/-- The head of what begins with a frame's head. -/
theorem seal_head {k : Int} {body t : List UInt8} (h1 : 1 ≤ k) (h2 : k ≤ 255) :
    (sealB k body ++ t).getD 0 0 = 65 ∧ (sealB k body ++ t).getD 1 0 = 71 ∧ (sealB k body ++ t).getD 2 0 = k.toNat.toUInt8 ∧ k.toNat.toUInt8 ≠ 0 := by
  refine ⟨rfl, rfl, rfl, fun h => ?_⟩
  have := congrArg UInt8.toNat h
  rw [kindByte h1 h2] at this
  have e : (0 : UInt8).toNat = 0 := rfl
  omega
/-- Reading a frame's head, its length and its body: what is left to ask is the sum. -/
theorem rdOpen_seal {k : Int} {body t : List UInt8} (h1 : 1 ≤ k) (h2 : k ≤ 255) (hb : body.length ≤ 16777216) (ht : 4 ≤ t.length) :
    rdOpen (sealB k body ++ t) = if t.take 4 ≠ low4 (crc (sealB k body)) then (0, [], 0, 4) else (k, body, (sealB k body).length + 4, 0) := by
  obtain ⟨g0, g1, g2, g3⟩ := seal_head (body := body) (t := t) h1 h2
  have hlen : (sealB k body ++ t).length = 3 + (enU body.length).length + body.length + t.length := by rw [List.length_append, sealB_len]
  unfold rdOpen
  rw [if_neg (by omega), g0, g1, g2, if_neg (by simp [g3]), sealB_drop3, rdLen_back (by omega) (by omega)]
  dsimp only
  rw [if_neg (by simp), if_neg (by omega)]
  have hd : (sealB k body ++ t).drop (3 + (enU body.length).length + body.length) = t := by rw [← sealB_len k body, List.drop_left]
  have htk : (sealB k body ++ t).take (3 + (enU body.length).length + body.length) = sealB k body := by rw [← sealB_len k body, List.take_left]
  have hd3 : (sealB k body ++ t).drop (3 + (enU body.length).length) = body ++ t := by
    rw [← List.drop_drop, sealB_drop3, List.drop_left]
  rw [hd, htk, hd3, List.take_left, kindByte h1 h2, sealB_len]
  have : ((k.toNat : Nat) : Int) = k := by omega
  rw [this]
theorem rdOpen_back {k : Int} {body : List UInt8} (h1 : 1 ≤ k) (h2 : k ≤ 255) (hb : body.length ≤ 16777216) (r : List UInt8) :
    rdOpen (sealB k body ++ (low4 (crc (sealB k body)) ++ r)) = (k, body, (sealB k body ++ low4 (crc (sealB k body))).length, 0) := by
  rw [rdOpen_seal h1 h2 hb (by rw [List.length_append, low4_len]; omega)]
  rw [if_neg (by rw [show (4 : Nat) = (low4 (crc (sealB k body))).length from rfl, List.take_left]; simp), List.length_append, low4_len]
/-! ### what is decoded begins with its encoding -/
theorem drop_of {α : Type} {b x r : List α} (h : b = x ++ r) : b.drop x.length = r := by subst h; simp
theorem rdS_canon {b s : List UInt8} {max : Int} {n : Nat} (hs : rdS b max = (s, n, 0)) (hok : ∃ k m, rdU b = (k, m, 0) ∧ 0 ≤ max ∧ (k : Int) ≤ max ∧ s = (b.drop m).take k ∧ n = m + k ∧ m + k ≤ b.length ∧ 1 ≤ m ∧ m ≤ 10) :
    (s.length : Int) ≤ max ∧ n = (enS s).length ∧ ∃ r, b = enS s ++ r := by
  obtain ⟨k, m, h1, h2, h3, h4, h5, h6, _, _⟩ := hok
  obtain ⟨_, g2, r, g3⟩ := rdU_canon h1
  have hr : b.drop m = r := by rw [g3, g2, List.drop_left]
  rw [hr] at h4
  have hlen : b.length = m + r.length := by rw [g3, List.length_append, ← g2]
  have hsl : s.length = k := by rw [h4, List.length_take]; omega
  refine ⟨by omega, by rw [enS, List.length_append, hsl, ← g2, h5], r.drop k, ?_⟩
  rw [enS, hsl, h4, List.append_assoc, List.take_append_drop, ← g3]
theorem rdLoop_canon {α : Type} {el : List UInt8 → α × Nat × Nat} {en : α → List UInt8} (P : α → Prop) (hel : ∀ c x j, el c = (x, j, 0) → P x ∧ j = (en x).length ∧ ∃ r, c = en x ++ r) {b : List UInt8} :
    ∀ (k : Nat) (out : List α) (n : Nat) (res : List α) (m : Nat), rdLoop el b k out n = (res, m, 0) →
      ∃ l r, res = out ++ l ∧ l.length = k ∧ (∀ x ∈ l, P x) ∧ b.drop n = l.flatMap en ++ r ∧ m = n + (l.flatMap en).length
  | 0, out, n, res, m, h => by
    simp only [rdLoop, Prod.mk.injEq, and_true] at h
    exact ⟨[], b.drop n, by simp [h.1], rfl, by simp, by simp, by simp [h.2]⟩
  | k + 1, out, n, res, m, h => by
    rw [rdLoop] at h
    split at h
    · rename_i he; simp at h; exact absurd h.2.2 he
    · rename_i he
      obtain ⟨hp, hj, r0, hr0⟩ := hel (b.drop n) (el (b.drop n)).1 (el (b.drop n)).2.1 (by
        have : (el (b.drop n)).2.2 = 0 := by omega
        rw [← this])
      obtain ⟨l, r, g1, g2, g3, g4, g5⟩ := rdLoop_canon P hel k _ _ res m h
      refine ⟨(el (b.drop n)).1 :: l, r, by rw [g1]; simp, by simp [g2], ?_, ?_, ?_⟩
      · intro x hx
        rcases List.mem_cons.1 hx with rfl | hx
        · exact hp
        · exact g3 x hx
      · rw [List.flatMap_cons, List.append_assoc, ← g4]
        have hd : b.drop (n + (el (b.drop n)).2.1) = r0 := by rw [hj]; exact drop_app hr0
        rw [hd]; exact hr0
      · rw [g5, List.flatMap_cons, List.length_append, hj]; omega
theorem rdL_canon {α : Type} {el : List UInt8 → α × Nat × Nat} {en : α → List UInt8} (P : α → Prop) (hel : ∀ c x j, el c = (x, j, 0) → P x ∧ j = (en x).length ∧ ∃ r, c = en x ++ r) {b : List UInt8} {max : Int} {l : List α} {m : Nat}
    (h : rdL el b max = (l, m, 0)) (hlen : ∀ k n, rdLen b max = (k, n, 0) → rdU b = (k, n, 0) ∧ (k : Int) ≤ max) :
    (l.length : Int) ≤ max ∧ (∀ x ∈ l, P x) ∧ m = (enU l.length ++ l.flatMap en).length ∧ ∃ r, b = (enU l.length ++ l.flatMap en) ++ r := by
  unfold rdL at h
  split at h
  · rename_i he; simp at h; exact absurd h.2.2 he
  · rename_i he
    obtain ⟨g1, g2⟩ := hlen (rdLen b max).1 (rdLen b max).2.1 (by
      have : (rdLen b max).2.2 = 0 := by omega
      rw [← this])
    obtain ⟨_, q2, r, q3⟩ := rdU_canon g1
    obtain ⟨l', r', e1, e2, e3, e4, e5⟩ := rdLoop_canon P hel _ _ _ _ _ h
    obtain rfl : l = l' := by simpa using e1
    have hr : b.drop (rdLen b max).2.1 = r := by rw [q2]; exact drop_of q3
    rw [hr] at e4
    refine ⟨by rw [e2]; exact g2, e3, by rw [List.length_append, e2, ← q2, e5], r', ?_⟩
    rw [List.append_assoc, ← e4, e2]
    exact q3
end Go.Proofs.Ytmnagkjdnmnbkaa.W

/- same, join and awake. -/
namespace Go.Proofs.Ytmnagkjdnmnbkaa.W
set_option linter.unusedVariables false
open Go.RowKit
open Go.Lib (byteCells byteCells_length byteCells_append byteCells_snoc)

end Go.Proofs.Ytmnagkjdnmnbkaa.W

/- awake: the checks on fixed values all hold. -/
namespace Go.Proofs.Ytmnagkjdnmnbkaa.W
set_option linter.unusedVariables false
open Go.RowKit
open Go.Lib (byteCells byteCells_length byteCells_append byteCells_snoc)

/-- An encoder's result, written out. -/
def OwnS (base : Nat) (w : World) (l : List UInt8) (n : Nat) (en : Ending) (w' : World) : Prop :=
  ∃ A c, en = .returned (.slice A n c) ∧ n ≤ c ∧ w'.ownsRow base 5 1 (.slice A n c) n (byteCells l) ∧ Reads w' w'.heap.size 1 A n (byteCells l) ∧ Below base w w'
theorem OwnPost.to {base : Nat} {w : World} {l : List UInt8} {en : Ending} {w' : World} (h : OwnPost base w l en w') (l' : List UInt8) (n : Nat) (hl : l = l') (hn : l'.length = n) : OwnS base w l' n en w' := by
  subst hl hn
  obtain ⟨v, rfl, ho, hb⟩ := h
  obtain ⟨A, c, hv, hc, hr⟩ := SliceOf.of_own (base := base) (e := 5) (by rw [byteCells_length]; exact ho)
  rw [byteCells_length] at hv hc hr
  subst hv
  exact ⟨A, c, rfl, hc, ho, hr, hb⟩
/-- wire.Value's result, written out. -/
def ValS (w : World) (v : GV) (i l : Nat) (n err : Int) (en : Ending) (w' : World) : Prop :=
  ∃ I ci L cl, en = .returned (.tuple #[.agg #[.int .i64 v.kind, .int .i64 v.n, .string ⟨v.s.toArray⟩, .slice I i ci, .slice L l cl], .int .i64 n, .int .i64 err]) ∧ i ≤ ci ∧ l ≤ cl ∧ Reads w' w'.heap.size 1 I i (v.i.map intV) ∧ Reads w' w'.heap.size 1 L l (v.l.map strV) ∧ Below w.heap.size w w'
theorem ValPost.to {w : World} {v : GV} {n err : Nat} {en : Ending} {w' : World} (h : ValPost w v n err en w') (v' : GV) (i l : Nat) (ni ei : Int) (hv : v = v') (hi : v'.i.length = i) (hl : v'.l.length = l) (hn : (n : Int) = ni) (he : (err : Int) = ei) : ValS w v' i l ni ei en w' := by
  subst hv hi hl hn he
  obtain ⟨vi, vl, rfl, ⟨I, ci, rfl, h1, h2⟩, ⟨L, cl, rfl, h3, h4⟩, hb⟩ := h
  rw [List.length_map] at h1 h2 h3 h4
  exact ⟨I, ci, L, cl, by rw [List.length_map, List.length_map]; rfl, h1, h3, h2, h4, hb⟩
def OpenS (w : World) (k : Int) (l : List UInt8) (m : Nat) (n err : Int) (en : Ending) (w' : World) : Prop :=
  ∃ A c, en = .returned (.tuple #[.int .i64 k, .slice A m c, .int .i64 n, .int .i64 err]) ∧ m ≤ c ∧ Reads w' w'.heap.size 1 A m (byteCells l) ∧ Below w.heap.size w w'
theorem OpenPost.to {w : World} {k : Int} {l : List UInt8} {n err : Nat} {en : Ending} {w' : World} (h : OpenPost w k l n err en w') (k' : Int) (l' : List UInt8) (m : Nat) (ni ei : Int) (hk : k = k') (hl : l = l') (hm : l'.length = m) (hn : (n : Int) = ni) (he : (err : Int) = ei) : OpenS w k' l' m ni ei en w' := by
  subst hk hl hm hn he
  obtain ⟨A, c, rfl, hc, ho, hb⟩ := h
  refine ⟨A, c, rfl, hc, ?_, hb⟩
  have := Reads.of_own (A := A) (n := l.length) (c := c) ho
  exact this
def SealS (w : World) (l : List UInt8) (m : Nat) (err : Int) (en : Ending) (w' : World) : Prop :=
  ∃ A c, en = .returned (.tuple #[.slice A m c, .int .i64 err]) ∧ m ≤ c ∧ w'.ownsRow w.heap.size 5 1 (.slice A m c) m (byteCells l) ∧ Reads w' w'.heap.size 1 A m (byteCells l) ∧ Below w.heap.size w w'
theorem SealPost.to {w : World} {l : List UInt8} {err : Nat} {en : Ending} {w' : World} (h : SealPost w l err en w') (l' : List UInt8) (m : Nat) (ei : Int) (hl : l = l') (hm : l'.length = m) (he : (err : Int) = ei) : SealS w l' m ei en w' := by
  subst hl hm he
  obtain ⟨A, c, rfl, hc, ho, hb⟩ := h
  exact ⟨A, c, rfl, hc, ho, Reads.of_own ho, hb⟩
theorem ev1 : ((rdU [172, 2, 9]).1 : Int) = 300 ∧ ((rdU [172, 2, 9]).2.1 : Int) = 2 ∧ ((rdU [172, 2, 9]).2.2 : Int) = 0 := by decide
theorem ev2 : ((rdU [128, 0]).1 : Int) = 0 ∧ ((rdU [128, 0]).2.1 : Int) = 0 ∧ ((rdU [128, 0]).2.2 : Int) = 3 := by decide
theorem ev3 : [] ++ enS [97, 98] = [2, 97, 98] := by simp [enS, enU, Go.Lib.uvarint_small]
theorem ev4 : (rdS [2, 97, 98] 2).1 = [97, 98] ∧ ((rdS [2, 97, 98] 2).2.1 : Int) = 3 ∧ ((rdS [2, 97, 98] 2).2.2 : Int) = 0 := by decide
theorem ev5 : [] ++ enV ⟨5, 0, [], [], [[113]]⟩ = [5, 1, 1, 113] := by simp [enV, enSs, enS, enU, Go.Lib.uvarint_small]
theorem ev6 : rdV [5, 1, 1, 113] = (⟨5, 0, [], [], [[113]]⟩, 4, 0) := by rfl
theorem ev7 : sealB 7 [98, 111, 100, 121] = [65, 71, 7, 4, 98, 111, 100, 121] := by simp [sealB, enU, Go.Lib.uvarint_small]
theorem ev8 : crc [49, 50, 51, 52, 53, 54, 55, 56, 57] = 3421780262#32 := by decide +kernel
theorem ev9 : [5] ++ enI (-1) = [5, 1] := by simp [enI, Go.Lib.zigzag, Go.Lib.uvarint_small]
theorem reads_new' (W : World) (cs : Array Value) (bs : List UInt8) (n : Nat) (h : cs.toList = byteCells bs) (hn : bs.length = n) : Reads (W.alloc (.cells cs 5)) (W.heap.size + 1) 1 (some ⟨W.heap.size, 0, none⟩) n (byteCells bs) := hn ▸ reads_new W cs bs h
theorem reads_mark (W : World) (g : Nat) (hg : g = W.heap.size) (cs : Array Value) (fr : Nat × Nat) (bs : List UInt8) (n : Nat) (h : cs.toList = byteCells bs) (hn : bs.length = n) : Reads (W.alloc (.cells cs 5 fr)) (W.alloc (.cells cs 5 fr)).heap.size 1 (some ⟨g, 0, none⟩) n (byteCells bs) := by
  subst hg hn
  refine ⟨by rw [byteCells_length, Nat.mul_one], fun _ => ⟨_, rfl, by simp, fun j u hu => ?_⟩⟩
  have e : (⟨W.heap.size, 0, none⟩ : Addr).add j = ⟨W.heap.size, j, none⟩ := by unfold Addr.add; split <;> simp_all
  rw [e, World.cell?_alloc_mark W cs 5 fr j, ← hu, ← h]
  simp
theorem reads_str (W : World) (q : List UInt8) : Reads (W.alloc (.cells #[strV q] 9)) (W.heap.size + 1) 1 (some ⟨W.heap.size, 0, none⟩) 1 [strV q] := by
  refine ⟨rfl, fun _ => ⟨_, rfl, Nat.lt_succ_self _, fun j u hu => ?_⟩⟩
  match j, hu with
  | 0, hu => simp at hu; subst hu; have := cell_new1 W 9 (strV q); simp [Addr.add]
def body4 : List UInt8 := [98, 111, 100, 121]
def head8 : List UInt8 := [65, 71, 7, 4, 98, 111, 100, 121]
def frame12 : List UInt8 := head8 ++ low4 (crc head8)
theorem ev10 : rdSeal 7 body4 = (frame12, 0) := by
  unfold rdSeal body4
  rw [if_neg (by decide), ev7]; rfl
theorem ev11 : rdOpen frame12 = (7, body4, 12, 0) := by
  have h := rdOpen_back (k := 7) (body := body4) (by decide) (by decide) (by decide) []
  unfold body4 at h ⊢
  rw [ev7, List.append_nil] at h
  exact h
def gvQ : GV := ⟨5, 0, [], [], [[113]]⟩
theorem arg_q (W : World) (g : Nat) (hg : g = W.heap.size) : GVarg (W.alloc (.cells #[strV [113]] 9)) (W.alloc (.cells #[strV [113]] 9)).heap.size gvQ none (some ⟨g, 0, none⟩) 0 1 := by
  subst hg
  refine ⟨Reads.none_, (reads_str W [113]).more (by simp), Nat.le_refl _, Nat.le_refl _, ⟨by decide, by decide⟩, ⟨by decide, by decide⟩, by simp [gvQ], by decide, by decide, by decide, ?_⟩
  intro s hs
  simp [gvQ] at hs
  subst hs
  decide
end Go.Proofs.Ytmnagkjdnmnbkaa.W

/- slices.Equal at int and string, SameValue, Small. -/
namespace Go.Proofs.Ytmnagkjdnmnbkaa.W
set_option linter.unusedVariables false
open Go.RowKit
open Go.Lib (byteCells byteCells_length byteCells_append byteCells_snoc)

theorem take_eq_of {α : Type} {xs ys : List α} {k : Nat} (h : xs.take k = ys.take k) {x y : α} (hx : xs[k]? = some x) (hy : ys[k]? = some y) (hxy : x = y) : xs.take (k + 1) = ys.take (k + 1) := by
  rw [List.take_add_one, List.take_add_one, h, hx, hy, hxy]
theorem ne_of_get {α : Type} {xs ys : List α} {k : Nat} {x y : α} (hx : xs[k]? = some x) (hy : ys[k]? = some y) (hxy : x ≠ y) : xs ≠ ys := by
  rintro rfl
  rw [hx] at hy
  exact hxy (Option.some.inj hy)
set_option maxRecDepth 100000 in
set_option maxHeartbeats 1000000 in
theorem equal_int (A A' : Option Addr) (c c' B B' : Nat) (xs ys : List Int) (w : World) (ha : Reads w B 1 A xs.length (xs.map intV)) (hb : Reads w B' 1 A' ys.length (ys.map intV)) (hl : xs.length ≤ 1099511627776) (hl' : ys.length ≤ 1099511627776) :
    Calls Try.prog 35 #[.slice A xs.length c, .slice A' ys.length c'] w fun e w' => e = .returned (.bool (decide (xs = ys))) ∧ ∃ k, w' = w.drewN k := by
  by_cases hlen : xs.length = ys.length
  · have hz : ((xs.length : Int) != (ys.length : Int)) = false := bneF (by omega)
    have HL := Lib.hid hlen
    obtain ⟨n, hn⟩ : ∃ n, n = ys.length := ⟨_, rfl⟩
    rw [hlen] at ha hl hz ⊢
    rw [← hn] at ha hb hl hl' hz ⊢
    have HN := Lib.hid hn
    clear hlen hn
    go_enter Try.func35, Try.ntmps35
    go_wp2
    go_loopw [13] (fun i wr => ∃ k m : Nat, k ≤ n ∧ i = .int .i64 k ∧ wr = w.drewN m ∧ xs.take k = ys.take k) (fun i _ => n - (intOf i).toNat)
    case atStart => exact ⟨0, 0, Nat.zero_le _, rfl, rfl, by simp⟩
    case round =>
      obtain ⟨k, m, hk, rfl, rfl, htk⟩ := hrel
      by_cases hlt : k < n
      · obtain ⟨ad, u, rfl, _, hx, hc⟩ := ha.at_ hlt
        obtain ⟨bd, u', rfl, _, hx', hc'⟩ := hb.at_ hlt
        obtain ⟨x, hxk⟩ : ∃ x, xs[k]? = some x := ⟨_, List.getElem?_eq_getElem (by have := HL.out; have := HN.out; omega)⟩
        obtain ⟨y, hyk⟩ : ∃ y, ys[k]? = some y := ⟨_, List.getElem?_eq_getElem (by have := HN.out; omega)⟩
        have e1 : u = intV x := by simp [hxk] at hx; exact hx.symm
        have e2 : u' = intV y := by simp [hyk] at hx'; exact hx'.symm
        rw [e1] at hc
        rw [e2] at hc'
        have HXK := Lib.hid hxk
        have HYK := Lib.hid hyk
        have HTK := Lib.hid htk
        have hlt2 : (k : Int) < (n : Int) := by omega
        clear e1 e2 hx hx' hxk hyk htk
        dsimp only [intV] at hc hc'
        by_cases hxy : x = y
        · subst hxy
          have HT2 := Lib.hid (take_eq_of HTK.out HXK.out HYK.out rfl)
          go_wp2_with fail
          go_quiet (fail)
          go_wp2_with fail
          go_roundw
          case rel => exact ⟨k + 1, _, by omega, by go_num, rfl, HT2.out⟩
          case measure => simp [intOf]; omega
        · have hz2 : (x != y) = true := bneT hxy
          have HNE := Lib.hid (ne_of_get HXK.out HYK.out hxy)
          have hd := Lib.hid (show decide (xs = ys) = false by simpa using HNE.out)
          clear hxy
          go_wp2_with fail
          go_quiet (fail)
          go_wp2_with fail
          go_ret
          rw [hd.out]
          exact ⟨rfl, _, World.drewN_drewN _ _ _⟩
      · have hd := Lib.hid (show decide (xs = ys) = true by
          have h1 := HL.out
          have h2 := HN.out
          rw [List.take_of_length_le (by omega), List.take_of_length_le (by omega)] at htk
          simpa using htk)
        clear htk
        go_wp2
        go_ret
        rw [hd.out]
        exact ⟨rfl, _, rfl⟩
  · have hz : ((xs.length : Int) != (ys.length : Int)) = true := bneT (by omega)
    have hd := Lib.hid (show decide (xs = ys) = false by
      rw [decide_eq_false_iff_not]; intro h; exact hlen (by rw [h]))
    clear hlen
    go_enter Try.func35, Try.ntmps35
    go_wp2
    go_ret
    rw [hd.out]
    exact ⟨rfl, 0, rfl⟩
def sameV (v u : GV) : Bool := v.kind == u.kind && (v.n == u.n && (v.s == u.s && (decide (v.i = u.i) && decide (v.l = u.l))))
end Go.Proofs.Ytmnagkjdnmnbkaa.W

/- Small. -/
namespace Go.Proofs.Ytmnagkjdnmnbkaa.W
set_option linter.unusedVariables false
open Go.RowKit
open Go.Lib (byteCells byteCells_length byteCells_append byteCells_snoc)

theorem retB {a b : Bool} (h : b = a) : Ending.returned (.bool a) = Ending.returned (.bool b) := by rw [h]
def bigL (l : List (List UInt8)) : Bool := l.any fun s => decide (200 < s.length)
def smallV (v : GV) : Bool := decide (v.s.length ≤ 500) && decide (v.i.length ≤ 100) && decide (v.l.length ≤ 100) && !(bigL v.l)
/-- A value as it comes in: of whatever size. -/
structure GVraw (w : World) (B : Nat) (v : GV) (I L : Option Addr) (ci cl : Nat) : Prop where
  ri : Reads w B 1 I v.i.length (v.i.map intV)
  rl : Reads w B 1 L v.l.length (v.l.map strV)
  hci : v.i.length ≤ ci
  hcl : v.l.length ≤ cl
  k64 : In64 v.kind
  n64 : In64 v.n
  i64 : ∀ x ∈ v.i, In64 x
  s40 : v.s.length ≤ 9223372036854775807
  i40 : v.i.length ≤ 9223372036854775807
  l40 : v.l.length ≤ 9223372036854775807
  e40 : ∀ s ∈ v.l, s.length ≤ 9223372036854775807
theorem GVraw.below {w W : World} {B : Nat} {v : GV} {I L : Option Addr} {ci cl : Nat} (h : GVraw w B v I L ci cl) (hb : Below B w W) : GVraw W B v I L ci cl :=
  { h with ri := h.ri.below hb, rl := h.rl.below hb }
theorem GVraw.arg {w : World} {B : Nat} {v : GV} {I L : Option Addr} {ci cl : Nat} (h : GVraw w B v I L ci cl) (hs : smallV v = true) : GVarg w B v I L ci cl := by
  simp only [smallV, Bool.and_eq_true, decide_eq_true_eq, Bool.not_eq_true', bigL, List.any_eq_false] at hs
  obtain ⟨⟨⟨h1, h2⟩, h3⟩, h4⟩ := hs
  exact { ri := h.ri, rl := h.rl, hci := h.hci, hcl := h.hcl, k64 := h.k64, n64 := h.n64, i64 := h.i64, s40 := by omega, i40 := by omega, l40 := by omega,
          e40 := fun s hs => by have := h4 s hs; simp at this; omega }
theorem Blk.box5 {W : World} {g : Nat} {t : TypeId} {a b c d e : Value} (h : Blk W g t #[a, b, c, d, e]) :
    W.cell? ⟨g, 0, none⟩ = some a ∧ W.cell? ⟨g, 1, none⟩ = some b ∧ W.cell? ⟨g, 2, none⟩ = some c ∧ W.cell? ⟨g, 3, none⟩ = some d ∧ W.cell? ⟨g, 4, none⟩ = some e :=
  ⟨h.cell 0, h.cell 1, h.cell 2, h.cell 3, h.cell 4⟩
theorem Blk.step {w w1 w2 : World} {g : Nat} {t : TypeId} {cs : Array Value} (hB : Blk w1 g t cs) (hb : Below w.heap.size w w1) (hq : Below w1.heap.size w1 w2) : Below w.heap.size w w2 ∧ Blk w2 g t cs :=
  ⟨hb.trans (hq.mono hb.size), hB.below hq hB.lt⟩
end Go.Proofs.Ytmnagkjdnmnbkaa.W

/- The walk of WireRoundTrip: it returns true, whatever comes in. -/
namespace Go.Proofs.Ytmnagkjdnmnbkaa.W
set_option linter.unusedVariables false
open Go.RowKit
open Go.Lib (byteCells byteCells_length byteCells_append byteCells_snoc)

theorem sameV_refl (v : GV) : sameV v v = true := by simp [sameV]
def box (v : GV) (I L : Option Addr) (ci cl : Nat) : Array Value := #[.int .i64 v.kind, .int .i64 v.n, .string ⟨v.s.toArray⟩, .slice I v.i.length ci, .slice L v.l.length cl]
/- YES -/

theorem bstep {a b c : World} (h : Below a.heap.size a b) (hq : Below b.heap.size b c) : Below a.heap.size a c := h.trans (hq.mono h.size)
/-- How long the encoding of a small value can be. -/
theorem enIs_len {l : List Int} (h : ∀ x ∈ l, In64 x) : (l.flatMap enI).length ≤ 10 * l.length := by
  induction l with
  | nil => simp
  | cons x l ih =>
    have := ih (fun y hy => h y (by simp [hy]))
    have := enI_len (h x (by simp))
    rw [List.flatMap_cons, List.length_append, List.length_cons]; omega
theorem enSs_len {l : List (List UInt8)} (h : ∀ s ∈ l, s.length ≤ 64) : (l.flatMap enS).length ≤ 74 * l.length := by
  induction l with
  | nil => simp
  | cons x l ih =>
    have := ih (fun y hy => h y (by simp [hy]))
    have h1 := h x (by simp)
    have := enU_len (x := x.length) (by omega)
    have : (enS x).length = (enU x.length).length + x.length := List.length_append
    rw [List.flatMap_cons, List.length_append, List.length_cons]; omega
theorem enV_small {v : GV} (h : v.ok = true) (hi : ∀ x ∈ v.i, In64 x) (hn : In64 v.n) : (enV v).length ≤ 2000 := by
  obtain ⟨k, n, s, i, l⟩ := v
  dsimp only at hi hn
  rcases (GV.ok_iff _).1 h with h | h | h | h | h | h <;> dsimp only at h
  · obtain ⟨rfl, rfl, rfl, rfl, rfl⟩ := h; simp [enV]
  · obtain ⟨rfl, rfl, rfl, rfl⟩ := h
    have := enI_len hn
    simp [enV]; omega
  · obtain ⟨rfl, _, rfl, rfl, rfl⟩ := h; simp [enV]
  · obtain ⟨rfl, hs, rfl, rfl, rfl⟩ := h
    have := enU_len (x := s.length) (by omega)
    simp [enV, enS]; omega
  · obtain ⟨rfl, hl, rfl, rfl, rfl⟩ := h
    have := enU_len (x := i.length) (by omega)
    have := enIs_len hi
    have e : (enV ⟨4, 0, [], i, []⟩).length = 1 + ((enU i.length).length + (i.flatMap enI).length) := by
      show (_ :: (enU i.length ++ i.flatMap enI)).length = _
      rw [List.length_cons, List.length_append]; omega
    omega
  · obtain ⟨rfl, hl, ht, rfl, rfl, rfl⟩ := h
    have := enU_len (x := l.length) (by omega)
    have := enSs_len (tooL_no ht)
    have e : (enV ⟨5, 0, [], [], l⟩).length = 1 + ((enU l.length).length + (l.flatMap enS).length) := by
      show (_ :: (enU l.length ++ l.flatMap enS)).length = _
      rw [List.length_cons, List.length_append]; omega
    omega
end Go.Proofs.Ytmnagkjdnmnbkaa.W

/- The plain laws, more: what is cut short. -/
namespace Go.Proofs.Ytmnagkjdnmnbkaa.W
set_option linter.unusedVariables false
open Go.Lib (uvarint zigzag unzigzag uvarint_small uvarint_big uvarint_pos)

theorem rdLen_cut {v k : Nat} {max : Int} (h : v < 18446744073709551616) (hm : 0 ≤ max) (hk : k < (enU v).length) : rdLen ((enU v).take k) max = (0, 0, 2) := by
  unfold rdLen
  rw [rdU_cut h hk, if_neg (by omega), if_pos (by simp)]
theorem take_app {α : Type} (a b : List α) (k : Nat) : (k < a.length ∧ (a ++ b).take k = a.take k) ∨ ∃ j, k = a.length + j ∧ (a ++ b).take k = a ++ b.take j := by
  by_cases h : k < a.length
  · exact .inl ⟨h, List.take_append_of_le_length (by omega)⟩
  · exact .inr ⟨k - a.length, by omega, by rw [show k = a.length + (k - a.length) by omega, List.take_length_add_append]; simp⟩
theorem rdS_cut {s : List UInt8} {max : Int} {k : Nat} (hl : s.length < 18446744073709551616) (hm : (s.length : Int) ≤ max) (hk : k < (enS s).length) : rdS ((enS s).take k) max = ([], 0, 2) := by
  have hlen : (enS s).length = (enU s.length).length + s.length := List.length_append
  unfold enS
  rcases take_app (enU s.length) s k with ⟨h, e⟩ | ⟨j, rfl, e⟩
  · rw [e]
    unfold rdS
    rw [rdLen_cut hl (by omega) h, if_pos (by simp)]
  · rw [e]
    unfold rdS
    rw [rdLen_back hl hm, if_neg (by simp), if_pos (by rw [List.length_append, List.length_take]; dsimp only; omega)]
theorem rdLoop_cut {α : Type} {el : List UInt8 → α × Nat × Nat} {en : α → List UInt8} (ok : α → Prop) (hel : ∀ x r, ok x → el (en x ++ r) = (x, (en x).length, 0))
    (hcut : ∀ x k, ok x → k < (en x).length → (el ((en x).take k)).2.2 = 2) {b : List UInt8} :
    ∀ (l : List α) (out : List α) (n k : Nat), (∀ x ∈ l, ok x) → b.drop n = (l.flatMap en).take k → k < (l.flatMap en).length → rdLoop el b l.length out n = ([], 0, 2)
  | [], out, n, k, _, _, hk => by simp at hk
  | x :: l, out, n, k, hok, hb, hk => by
    rw [List.flatMap_cons] at hb hk
    rcases take_app (en x) (l.flatMap en) k with ⟨h, e⟩ | ⟨j, rfl, e⟩
    · rw [List.length_cons, rdLoop, hb, e, hcut x k (hok x (by simp)) h, if_pos (by simp)]
    · rw [e] at hb
      rw [List.length_append] at hk
      rw [List.length_cons, rdLoop, hb, hel x _ (hok x (by simp)), if_neg (by simp)]
      exact rdLoop_cut ok hel hcut l _ _ j (fun y hy => hok y (by simp [hy])) (drop_app hb) (by omega)
theorem rdL_cut {α : Type} {el : List UInt8 → α × Nat × Nat} {en : α → List UInt8} (ok : α → Prop) (hel : ∀ x r, ok x → el (en x ++ r) = (x, (en x).length, 0))
    (hcut : ∀ x k, ok x → k < (en x).length → (el ((en x).take k)).2.2 = 2) {l : List α} {max : Int} {k : Nat} (hm : (l.length : Int) ≤ max) (hlt : l.length < 18446744073709551616) (hl : ∀ x ∈ l, ok x)
    (hk : k < (enU l.length ++ l.flatMap en).length) : rdL el ((enU l.length ++ l.flatMap en).take k) max = ([], 0, 2) := by
  rw [List.length_append] at hk
  unfold rdL
  rcases take_app (enU l.length) (l.flatMap en) k with ⟨h, e⟩ | ⟨j, rfl, e⟩
  · rw [e, rdLen_cut hlt (by omega) h, if_pos (by simp)]
  · rw [e, rdLen_back hlt hm, if_neg (by simp)]
    exact rdLoop_cut ok hel hcut l [] (enU l.length).length j hl (by simp) (by omega)
theorem rdV_cut {v : GV} (h : v.ok = true) (hin : v.in64) {k : Nat} (hk : k < (enV v).length) : rdV ((enV v).take k) = (zeroGV 0, 0, 2) := by
  cases k with
  | zero => rfl
  | succ j =>
    have key : ∀ (c : UInt8) (t : List UInt8), enV v = c :: t → (rdVb c.toNat (t.take j)).2.2 = 2 → rdV ((enV v).take (j + 1)) = (zeroGV 0, 0, 2) := by
      intro c t he hr
      rw [he, List.take_succ_cons]
      show (if (rdVb c.toNat (t.take j)).2.2 ≠ 0 then _ else _) = _
      rw [hr, if_pos (by decide)]
    obtain ⟨kd, n, s, i, l⟩ := v
    obtain ⟨hn, hi⟩ := hin
    dsimp only at hn hi
    rcases (GV.ok_iff _).1 h with h | h | h | h | h | h <;> dsimp only at h
    · obtain ⟨rfl, rfl, rfl, rfl, rfl⟩ := h
      simp [enV] at hk
    · obtain ⟨rfl, rfl, rfl, rfl⟩ := h
      have hj : j < (enI n).length := by
        have e : (enV ⟨1, n, [], [], []⟩).length = (enI n).length + 1 := rfl
        omega
      refine key 1 (enI n) rfl ?_
      show (rdVb 1 ((enI n).take j)).2.2 = 2
      unfold rdVb
      rw [rdI_cut hn hj]; rfl
    · obtain ⟨rfl, hn01, rfl, rfl, rfl⟩ := h
      have hj : j = 0 := by
        have e : (enV ⟨2, n, [], [], []⟩).length = 2 := rfl
        omega
      subst hj
      exact key 2 _ rfl rfl
    · obtain ⟨rfl, hs, rfl, rfl, rfl⟩ := h
      have hj : j < (enS s).length := by
        have e : (enV ⟨3, 0, s, [], []⟩).length = (enS s).length + 1 := rfl
        omega
      refine key 3 (enS s) rfl ?_
      show (rdVb 3 ((enS s).take j)).2.2 = 2
      unfold rdVb
      rw [rdS_cut (max := 64) (by omega) (by omega) hj]; rfl
    · obtain ⟨rfl, hl, rfl, rfl, rfl⟩ := h
      have hj : j < (enIs i).length := by
        have e : (enV ⟨4, 0, [], i, []⟩).length = (enIs i).length + 1 := rfl
        omega
      refine key 4 (enIs i) rfl ?_
      show (rdVb 4 ((enIs i).take j)).2.2 = 2
      have := rdL_cut (el := rdI) (en := enI) In64 (fun x r hx => rdI_back hx r) (fun x k hx hk => by rw [rdI_cut hx hk]) (l := i) (max := 16) (k := j) (by omega) (by omega) hi hj
      have e : rdIs ((enIs i).take j) 16 = ([], 0, 2) := this
      unfold rdVb
      rw [e]; rfl
    · obtain ⟨rfl, hl, ht, rfl, rfl, rfl⟩ := h
      have hj : j < (enSs l).length := by
        have e : (enV ⟨5, 0, [], [], l⟩).length = (enSs l).length + 1 := rfl
        omega
      refine key 5 (enSs l) rfl ?_
      show (rdVb 5 ((enSs l).take j)).2.2 = 2
      have := rdL_cut (el := rdS64) (en := enS) (fun x => x.length ≤ 64) (fun x r hx => rdS_back (max := 64) (by omega) (by omega) r) (fun x k hx hk => by unfold rdS64; rw [rdS_cut (max := 64) (by omega) (by omega) hk]) (l := l) (max := 16) (k := j) (by omega) (by omega) (tooL_no ht) hj
      have e : rdSs ((enSs l).take j) 16 = ([], 0, 2) := this
      unfold rdVb
      rw [e]; rfl
theorem rdOpen_cut {k : Int} {body : List UInt8} (h1 : 1 ≤ k) (h2 : k ≤ 255) (hb : body.length ≤ 16777216) {j : Nat} (hj : j < (sealB k body ++ low4 (crc (sealB k body))).length) :
    rdOpen ((sealB k body ++ low4 (crc (sealB k body))).take j) = (0, [], 0, 2) := by
  rw [List.length_append, sealB_len, low4_len] at hj
  generalize hL : low4 (crc (sealB k body)) = L at *
  have hLl : L.length = 4 := by rw [← hL]; rfl
  have hlen : ((sealB k body ++ L).take j).length = j := by rw [List.length_take, List.length_append, sealB_len]; omega
  unfold rdOpen
  rw [hlen]
  by_cases h3 : j < 3
  · rw [if_pos h3]
  rw [if_neg h3]
  obtain ⟨m, rfl⟩ : ∃ m, j = m + 3 := ⟨j - 3, by omega⟩
  have e : (sealB k body ++ L).take (m + 3) = 65 :: 71 :: k.toNat.toUInt8 :: (enU body.length ++ (body ++ L)).take m := by simp [sealB]
  rw [e]
  obtain ⟨_, _, _, g3⟩ := seal_head (body := body) (t := L) h1 h2
  rw [if_neg (by simp [g3])]
  show (if (rdLen ((enU body.length ++ (body ++ L)).take m) 16777216).2.2 ≠ 0 then _ else if m + 3 - (3 + (rdLen ((enU body.length ++ (body ++ L)).take m) 16777216).2.1) < (rdLen ((enU body.length ++ (body ++ L)).take m) 16777216).1 + 4 then _ else _) = _
  rcases take_app (enU body.length) (body ++ L) m with ⟨h, e⟩ | ⟨q, rfl, e⟩
  · rw [e, rdLen_cut (by omega) (by omega) h, if_pos (by simp)]
    show (0, [], 0, (rdLen ((enU body.length).take m) 16777216).2.2) = _
    rw [rdLen_cut (by omega) (by omega) h]
  · rw [e, rdLen_back (by omega) (by omega), if_neg (by simp), if_pos (by dsimp only; omega)]
end Go.Proofs.Ytmnagkjdnmnbkaa.W

/- The plain laws, more: a checksum and the bits that were changed. -/
namespace Go.Proofs.Ytmnagkjdnmnbkaa.W
set_option linter.unusedVariables false

/-- n bits on. -/
def T : Nat → BitVec 32 → BitVec 32
  | 0, x => x
  | n + 1, x => T n (bit1 x)
theorem T_add (m n : Nat) : ∀ x, T (m + n) x = T n (T m x) := by
  induction m with
  | zero => intro x; simp [T]
  | succ m ih => intro x; rw [show m + 1 + n = (m + n) + 1 by omega]; exact ih (bit1 x)
theorem T_xor (n : Nat) : ∀ x y, T n (x ^^^ y) = T n x ^^^ T n y := by
  induction n with
  | zero => intro x y; rfl
  | succ n ih => intro x y; show T n (bit1 (x ^^^ y)) = _; rw [bit1_xor, ih]; rfl
theorem T_one : ∀ k : Fin 32, T k.val (BitVec.ofNat 32 (2 ^ k.val)) = 1#32 := by decide +kernel
theorem bit1_inj {x : BitVec 32} (h : bit1 x = 0#32) : x = 0#32 := by
  have hg : ∀ i, (bit1 x).getLsbD i = false := fun i => by rw [h]; simp
  unfold bit1 at hg
  by_cases h0 : x.getLsbD 0 = true
  · have := hg 31
    rw [if_pos h0, BitVec.getLsbD_xor, BitVec.getLsbD_ushiftRight] at this
    have e : x.getLsbD (1 + 31) = false := BitVec.getLsbD_of_ge _ _ (by omega)
    rw [e] at this
    exact absurd this (by decide)
  · rw [if_neg h0] at hg
    apply BitVec.eq_of_getLsbD_eq
    intro i hi
    cases i with
    | zero => simpa using h0
    | succ i =>
      have := hg i
      rw [BitVec.getLsbD_ushiftRight, Nat.add_comm] at this
      rw [this]; simp
theorem T_inj (n : Nat) : ∀ x, T n x = 0#32 → x = 0#32 := by
  induction n with
  | zero => intro x h; exact h
  | succ n ih => intro x h; exact bit1_inj (ih _ h)
theorem bits8_T (x : BitVec 32) : bits8 x = T 8 x := rfl
theorem crcFrom_cons (s : BitVec 32) (c : UInt8) (b : List UInt8) : crcFrom s (c :: b) = crcFrom (byte1 s c) b := rfl
theorem crcFrom_xor (b : List UInt8) : ∀ s d, crcFrom (s ^^^ d) b = crcFrom s b ^^^ T (8 * b.length) d := by
  induction b with
  | nil => intro s d; rfl
  | cons c b ih =>
    intro s d
    have e : byte1 (s ^^^ d) c = byte1 s c ^^^ T 8 d := by
      unfold byte1
      rw [bits8_T, bits8_T, BitVec.xor_assoc, BitVec.xor_comm d, ← BitVec.xor_assoc, T_xor]
    rw [crcFrom_cons, crcFrom_cons, e, ih, List.length_cons, show 8 * (b.length + 1) = 8 + 8 * b.length by omega, T_add]
/-- One bit of one byte changed. -/
def flipAt (l : List UInt8) (q r : Nat) : List UInt8 := l.set q (l.getD q 0 ^^^ (2 ^ r).toUInt8)
theorem flipAt_len (l : List UInt8) (q r : Nat) : (flipAt l q r).length = l.length := by simp [flipAt]
theorem byte1_flip (s : BitVec 32) (c : UInt8) {r : Nat} (hr : r < 8) : byte1 s (c ^^^ (2 ^ r).toUInt8) = byte1 s c ^^^ T (8 - r) 1#32 := by
  have hp : 2 ^ r < 256 := by
    have : 2 ^ r < 2 ^ 8 := Nat.pow_lt_pow_right (by omega) hr
    omega
  have e1 : BitVec.ofNat 32 (c ^^^ (2 ^ r).toUInt8).toNat = BitVec.ofNat 32 c.toNat ^^^ BitVec.ofNat 32 (2 ^ r) := by
    rw [UInt8.toNat_xor, u8n hp]
    apply BitVec.eq_of_getLsbD_eq
    intro i hi
    simp [hi]
  unfold byte1
  rw [bits8_T, bits8_T, e1, ← BitVec.xor_assoc, T_xor]
  have h8 : T 8 (BitVec.ofNat 32 (2 ^ r)) = T (8 - r) 1#32 := by
    rw [show (8 : Nat) = r + (8 - r) by omega, T_add, T_one ⟨r, by omega⟩, show r + (8 - r) - r = 8 - r by omega]
  rw [h8]
theorem flipAt_zero (c : UInt8) (b : List UInt8) (r : Nat) : flipAt (c :: b) 0 r = (c ^^^ (2 ^ r).toUInt8) :: b := rfl
theorem flipAt_succ (c : UInt8) (b : List UInt8) (q r : Nat) : flipAt (c :: b) (q + 1) r = c :: flipAt b q r := rfl
theorem crc_flip : ∀ (l : List UInt8) (s : BitVec 32) (q r : Nat), q < l.length → r < 8 → crcFrom s (flipAt l q r) = crcFrom s l ^^^ T (8 * l.length - (8 * q + r)) 1#32
  | [], s, q, r, hq, hr => by simp at hq
  | c :: b, s, 0, r, hq, hr => by
    rw [flipAt_zero, crcFrom_cons, crcFrom_cons, byte1_flip s c hr, crcFrom_xor, List.length_cons, show 8 * (b.length + 1) - (8 * 0 + r) = (8 - r) + 8 * b.length by omega, T_add]
  | c :: b, s, q + 1, r, hq, hr => by
    rw [List.length_cons] at hq
    rw [flipAt_succ, crcFrom_cons, crcFrom_cons, crc_flip b (byte1 s c) q r (by omega) hr, List.length_cons, show 8 * (b.length + 1) - (8 * (q + 1) + r) = 8 * b.length - (8 * q + r) by omega]
/-- The j lowest bits of V. -/
def lowB (V : Nat) : Nat → BitVec 32
  | 0 => 0#32
  | j + 1 => if V.testBit j then lowB V j ^^^ BitVec.ofNat 32 (2 ^ j) else lowB V j
theorem lowB_get (V : Nat) : ∀ j i, (lowB V j).getLsbD i = (decide (i < j) && decide (i < 32) && V.testBit i)
  | 0, i => by simp [lowB]
  | j + 1, i => by
    rw [lowB]
    by_cases hv : V.testBit j = true
    · rw [if_pos hv, BitVec.getLsbD_xor, lowB_get V j i, BitVec.getLsbD_ofNat, Nat.testBit_two_pow]
      by_cases h : i = j
      · subst h; simp [hv]
      · have e1 : decide (j = i) = false := by simp; omega
        have e2 : decide (i < j + 1) = decide (i < j) := by apply decide_eq_decide.2; omega
        rw [e1, e2]; simp
    · rw [if_neg hv, lowB_get V j i]
      by_cases h : i = j
      · subst h; simp at hv; simp [hv]
      · have e2 : decide (i < j + 1) = decide (i < j) := by apply decide_eq_decide.2; omega
        rw [e2]
theorem lowB_all {V : Nat} (hV : V < 4294967296) (h0 : V ≠ 0) : lowB V 32 ≠ 0#32 := by
  have e : lowB V 32 = BitVec.ofNat 32 V := by
    apply BitVec.eq_of_getLsbD_eq
    intro i hi
    rw [lowB_get, BitVec.getLsbD_ofNat]
    simp [hi]
  intro h
  rw [e] at h
  have := congrArg BitVec.toNat h
  rw [BitVec.toNat_ofNat] at this
  have : V % 2 ^ 32 = 0 := this
  omega
/-- What the changes up to bit j do to the sum of the body. -/
def Burst (S : BitVec 32) (body : List UInt8) (k V j : Nat) (l : List UInt8) : Prop :=
  l.length = body.length ∧ crcFrom S l = crcFrom S body ^^^ T (8 * body.length - k) (lowB V j)
theorem Burst.start (S : BitVec 32) (body : List UInt8) (k V : Nat) : Burst S body k V 0 body := by
  refine ⟨rfl, ?_⟩
  have : T (8 * body.length - k) (lowB V 0) = 0#32 := by
    have h := T_xor (8 * body.length - k) 0#32 0#32
    simp only [BitVec.xor_self] at h
    exact h
  rw [this]; simp
theorem Burst.keep {S : BitVec 32} {body l : List UInt8} {k V j : Nat} (h : Burst S body k V j l) (hv : V.testBit j = false) : Burst S body k V (j + 1) l := by
  refine ⟨h.1, ?_⟩
  rw [h.2, lowB, hv]; rfl
theorem Burst.flip {S : BitVec 32} {body l : List UInt8} {k V j : Nat} (h : Burst S body k V j l) (hv : V.testBit j = true) (hj : j < 32) (hk : k + 32 ≤ 8 * body.length) :
    Burst S body k V (j + 1) (flipAt l ((k + j) / 8) ((k + j) % 8)) := by
  refine ⟨(flipAt_len _ _ _).trans h.1, ?_⟩
  rw [crc_flip l S _ _ (by rw [h.1]; omega) (by omega), h.2, h.1, lowB, hv, if_pos rfl, T_xor, BitVec.xor_assoc]
  congr 2
  rw [show 8 * body.length - (8 * ((k + j) / 8) + (k + j) % 8) = 8 * body.length - k - j by omega]
  conv => rhs; rw [show 8 * body.length - k = j + (8 * body.length - k - j) by omega, T_add, T_one ⟨j, hj⟩]
theorem low4_inj {a b : BitVec 32} (h : low4 a = low4 b) : a = b := by
  simp only [low4, List.cons.injEq, and_true] at h
  obtain ⟨h0, h1, h2, h3⟩ := h
  have ha := a.isLt
  have hb := b.isLt
  have h0 := congrArg UInt8.toNat h0
  have h1 := congrArg UInt8.toNat h1
  have h2 := congrArg UInt8.toNat h2
  have h3 := congrArg UInt8.toNat h3
  rw [u8n (by omega), u8n (by omega)] at h0 h1 h2 h3
  apply BitVec.eq_of_toNat_eq
  omega
theorem crc_app (a b : List UInt8) : crc (a ++ b) = ~~~ crcFrom (crcFrom (BitVec.allOnes 32) a) b := by
  unfold crc crcFrom
  rw [List.foldl_append]
/-- A frame whose body was changed within 32 bits is not opened. -/
theorem rdOpen_burst {kd : Int} {body l : List UInt8} {k V : Nat} (h1 : 1 ≤ kd) (h2 : kd ≤ 255) (hb : body.length ≤ 16777216) (hV : V < 4294967296) (h0 : V ≠ 0)
    (h : Burst (crcFrom (BitVec.allOnes 32) (65 :: 71 :: kd.toNat.toUInt8 :: enU body.length)) body k V 32 l) :
    rdOpen ((65 :: 71 :: kd.toNat.toUInt8 :: enU body.length) ++ (l ++ low4 (crc (sealB kd body)))) = (0, [], 0, 4) := by
  have e : ∀ x : List UInt8, x.length = body.length → (65 :: 71 :: kd.toNat.toUInt8 :: enU body.length) ++ x = sealB kd x := by
    intro x hx; unfold sealB; rw [hx]; rfl
  rw [← List.append_assoc, e l h.1, rdOpen_seal h1 h2 (by rw [h.1]; exact hb) (by rw [low4_len]; omega), if_pos]
  rw [show (4 : Nat) = (low4 (crc (sealB kd body))).length from rfl, List.take_length]
  intro hc
  have hc := low4_inj hc
  rw [← e l h.1, ← e body rfl, crc_app, crc_app] at hc
  have hc := congrArg (fun x => ~~~ x) hc
  simp only [BitVec.not_not] at hc
  have h3 := h.2
  rw [← hc] at h3
  have h4 : T (8 * body.length - k) (lowB V 32) = 0#32 := by
    have := congrArg (fun x => crcFrom (crcFrom (BitVec.allOnes 32) (65 :: 71 :: kd.toNat.toUInt8 :: enU body.length)) body ^^^ x) h3
    simp only [← BitVec.xor_assoc, BitVec.xor_self, BitVec.zero_xor] at this
    exact this.symm
  exact lowB_all hV h0 (T_inj _ _ h4)
end Go.Proofs.Ytmnagkjdnmnbkaa.W

/- The plain laws, more: what is decoded begins with its encoding, for values and frames, too. -/
namespace Go.Proofs.Ytmnagkjdnmnbkaa.W
set_option linter.unusedVariables false
open Go.Lib (uvarint zigzag unzigzag uvarint_small uvarint_big uvarint_pos)

def Canon (b X : List UInt8) (n : Nat) : Prop := X.length = n ∧ 1 ≤ n ∧ n ≤ b.length ∧ b.take n = X
theorem Canon.of {b X : List UInt8} {n : Nat} (hn : n = X.length) (hp : 0 < X.length) (h : ∃ r, b = X ++ r) : Canon b X n := by
  obtain ⟨r, rfl⟩ := h
  subst hn
  exact ⟨rfl, hp, by simp, List.take_left⟩
theorem canonU {b : List UInt8} {v n : Nat} (h : rdU b = (v, n, 0)) : v < 18446744073709551616 ∧ Canon b (enU v) n := by
  obtain ⟨h1, h2, h3⟩ := rdU_canon h
  exact ⟨h1, .of h2 (enU_pos v) h3⟩
theorem canonI {b : List UInt8} {v : Int} {n : Nat} (h : rdI b = (v, n, 0)) : In64 v ∧ Canon b (enI v) n := by
  obtain ⟨h1, h2, h3⟩ := rdI_canon h
  exact ⟨h1, .of h2 (enU_pos _) h3⟩
theorem rdS_canon' {b s : List UInt8} {max : Int} {n : Nat} (h : rdS b max = (s, n, 0)) : (s.length : Int) ≤ max ∧ n = (enS s).length ∧ ∃ r, b = enS s ++ r := rdS_canon h (rdS_ok h)
theorem enS_pos' (s : List UInt8) : 0 < (enS s).length := by
  have := enU_pos s.length
  unfold enS
  rw [List.length_append]; omega
theorem canonS {b s : List UInt8} {max : Int} {n : Nat} (h : rdS b max = (s, n, 0)) : (s.length : Int) ≤ max ∧ Canon b (enS s) n := by
  obtain ⟨h1, h2, h3⟩ := rdS_canon' h
  exact ⟨h1, .of h2 (enS_pos' s) h3⟩
theorem rdIs_canon {b : List UInt8} {l : List Int} {max : Int} {n : Nat} (h : rdIs b max = (l, n, 0)) : (l.length : Int) ≤ max ∧ (∀ x ∈ l, In64 x) ∧ n = (enIs l).length ∧ ∃ r, b = enIs l ++ r :=
  rdL_canon (en := enI) In64 (fun c x j hx => rdI_canon hx) h (fun k n hk => ⟨(rdLen_ok hk).1, (rdLen_ok hk).2.2⟩)
theorem rdSs_canon {b : List UInt8} {l : List (List UInt8)} {max : Int} {n : Nat} (h : rdSs b max = (l, n, 0)) : (l.length : Int) ≤ max ∧ (∀ x ∈ l, (x.length : Int) ≤ 64) ∧ n = (enSs l).length ∧ ∃ r, b = enSs l ++ r :=
  rdL_canon (en := enS) (fun x => (x.length : Int) ≤ 64) (fun c x j hx => rdS_canon' hx) h (fun k n hk => ⟨(rdLen_ok hk).1, (rdLen_ok hk).2.2⟩)
theorem enIs_pos (l : List Int) : 0 < (enIs l).length := by
  have := enU_pos l.length
  unfold enIs
  rw [List.length_append]; omega
theorem canonIs {b : List UInt8} {l : List Int} {max : Int} {n : Nat} (h : rdIs b max = (l, n, 0)) : (l.length : Int) ≤ max ∧ (∀ x ∈ l, In64 x) ∧ Canon b (enIs l) n := by
  obtain ⟨h1, h2, h3, h4⟩ := rdIs_canon h
  exact ⟨h1, h2, .of h3 (enIs_pos l) h4⟩
theorem canonV {b : List UInt8} {v : GV} {n : Nat} (h : rdV b = (v, n, 0)) : v.ok = true ∧ v.in64 ∧ Canon b (enV v) n := by
  cases b with
  | nil => simp [rdV] at h
  | cons c r =>
    obtain ⟨⟨v', m, e⟩, hb⟩ : ∃ x, rdVb c.toNat r = x := ⟨_, rfl⟩
    have hu : rdV (c :: r) = if (rdVb c.toNat r).2.2 ≠ 0 then (zeroGV 0, 0, (rdVb c.toNat r).2.2) else ((rdVb c.toNat r).1, 1 + (rdVb c.toNat r).2.1, 0) := rfl
    rw [hu, hb] at h
    dsimp only at h
    by_cases he : e ≠ 0
    · rw [if_pos he] at h
      simp only [Prod.mk.injEq] at h
      exact absurd h.2.2 he
    obtain rfl : e = 0 := by omega
    rw [if_neg (by simp)] at h
    simp only [Prod.mk.injEq, and_true] at h
    obtain ⟨rfl, rfl⟩ := h
    have key : ∀ (k : Nat) (Y : List UInt8), c.toNat = k → enV v' = k.toUInt8 :: Y → m = Y.length → (∃ r', r = Y ++ r') → Canon (c :: r) (enV v') (1 + m) := by
      intro k Y hk hY hm hr
      rw [u8eq hk] at hY
      obtain ⟨r', rfl⟩ := hr
      exact .of (by rw [hY, List.length_cons, hm, Nat.add_comm]) (by rw [hY]; simp) ⟨r', by rw [hY]; rfl⟩
    generalize hk : c.toNat = k at hb
    unfold rdVb at hb
    have z64 : In64 0 := ⟨by decide, by decide⟩
    by_cases k0 : k = 0
    · subst k0
      rw [if_pos rfl] at hb
      simp only [Prod.mk.injEq, and_true] at hb
      obtain ⟨rfl, rfl⟩ := hb
      exact ⟨rfl, ⟨z64, by simp [zeroGV]⟩, key 0 [] hk rfl rfl ⟨r, rfl⟩⟩
    rw [if_neg k0] at hb
    by_cases k1 : k = 1
    · subst k1
      rw [if_pos rfl] at hb
      simp only [Prod.mk.injEq] at hb
      obtain ⟨rfl, hm, he⟩ := hb
      obtain ⟨g1, g2, g3⟩ := rdI_canon (b := r) (v := (rdI r).1) (n := m) (by rw [← hm, ← he])
      exact ⟨rfl, ⟨g1, by simp [zeroGV]⟩, key 1 (enI (rdI r).1) hk rfl g2 g3⟩
    rw [if_neg k1] at hb
    by_cases k2 : k = 2
    · subst k2
      rw [if_pos rfl] at hb
      simp only [Prod.mk.injEq] at hb
      obtain ⟨rfl, hm, he⟩ := hb
      cases r with
      | nil => simp [rdB] at he
      | cons d r =>
        have hu2 : rdB (d :: r) = if 1 < d.toNat then (0, 0, 3) else ((d.toNat : Int), 1, 0) := rfl
        by_cases hd : 1 < d.toNat
        · rw [hu2, if_pos hd] at he; simp at he
        · rw [hu2, if_neg hd] at hm
          have e1 : (rdB (d :: r)).1 = (d.toNat : Int) := by rw [hu2, if_neg hd]
          rw [e1] at key ⊢
          have hd2 : d.toNat = 0 ∨ d.toNat = 1 := by omega
          refine ⟨?_, ⟨⟨by dsimp only; omega, by dsimp only; omega⟩, by simp [zeroGV]⟩, key 2 [d] hk ?_ hm.symm ⟨r, rfl⟩⟩
          · rw [GV.ok_iff]
            exact .inr (.inr (.inl ⟨rfl, by dsimp only; omega, rfl, rfl, rfl⟩))
          · show _ :: [(d.toNat : Int).toNat.toUInt8] = _
            rw [Int.toNat_natCast, u8eq (c := d) rfl]
            rfl
    rw [if_neg k2] at hb
    by_cases k3 : k = 3
    · subst k3
      rw [if_pos rfl] at hb
      simp only [Prod.mk.injEq] at hb
      obtain ⟨rfl, hm, he⟩ := hb
      obtain ⟨g1, g2, g3⟩ := rdS_canon' (b := r) (max := 64) (s := (rdS r 64).1) (n := m) (by rw [← hm, ← he])
      refine ⟨?_, ⟨z64, by simp [zeroGV]⟩, key 3 (enS (rdS r 64).1) hk rfl g2 g3⟩
      rw [GV.ok_iff]
      exact .inr (.inr (.inr (.inl ⟨rfl, by dsimp only; omega, rfl, rfl, rfl⟩)))
    rw [if_neg k3] at hb
    by_cases k4 : k = 4
    · subst k4
      rw [if_pos rfl] at hb
      simp only [Prod.mk.injEq] at hb
      obtain ⟨rfl, hm, he⟩ := hb
      obtain ⟨g1, g2, g3, g4⟩ := rdIs_canon (b := r) (max := 16) (l := (rdIs r 16).1) (n := m) (by rw [← hm, ← he])
      refine ⟨?_, ⟨z64, g2⟩, key 4 (enIs (rdIs r 16).1) hk rfl g3 g4⟩
      rw [GV.ok_iff]
      exact .inr (.inr (.inr (.inr (.inl ⟨rfl, by dsimp only; omega, rfl, rfl, rfl⟩))))
    rw [if_neg k4] at hb
    by_cases k5 : k = 5
    · subst k5
      rw [if_pos rfl] at hb
      simp only [Prod.mk.injEq] at hb
      obtain ⟨rfl, hm, he⟩ := hb
      obtain ⟨g1, g2, g3, g4⟩ := rdSs_canon (b := r) (max := 16) (l := (rdSs r 16).1) (n := m) (by rw [← hm, ← he])
      refine ⟨?_, ⟨z64, by simp [zeroGV]⟩, key 5 (enSs (rdSs r 16).1) hk rfl g3 g4⟩
      rw [GV.ok_iff]
      exact .inr (.inr (.inr (.inr (.inr ⟨rfl, by dsimp only; omega, tooL_of (fun s hs => by have := g2 s hs; omega), rfl, rfl, rfl⟩))))
    rw [if_neg k5] at hb
    simp at hb
theorem canonO {b body : List UInt8} {k : Int} {n : Nat} (h : rdOpen b = (k, body, n, 0)) : 1 ≤ k ∧ k ≤ 255 ∧ body.length ≤ 16777216 ∧ Canon b (sealB k body ++ low4 (crc (sealB k body))) n := by
  match b, h with
  | [], h => simp [rdOpen] at h
  | [_], h => simp [rdOpen] at h
  | [_, _], h => simp [rdOpen] at h
  | a0 :: a1 :: a2 :: t, h =>
    obtain ⟨⟨L, m, e⟩, hL⟩ : ∃ x, rdLen t 16777216 = x := ⟨_, rfl⟩
    have hd3 : (a0 :: a1 :: a2 :: t).drop 3 = t := rfl
    unfold rdOpen at h
    rw [if_neg (by simp)] at h
    by_cases hh : (a0 :: a1 :: a2 :: t).getD 0 0 ≠ 65 ∨ (a0 :: a1 :: a2 :: t).getD 1 0 ≠ 71 ∨ (a0 :: a1 :: a2 :: t).getD 2 0 = 0
    · rw [if_pos hh] at h; simp at h
    rw [if_neg hh, hd3, hL] at h
    dsimp only at h
    by_cases he : e ≠ 0
    · rw [if_pos he] at h
      simp only [Prod.mk.injEq] at h
      exact absurd h.2.2.2 he
    obtain rfl : e = 0 := by omega
    rw [if_neg (by simp)] at h
    by_cases hs : (a0 :: a1 :: a2 :: t).length - (3 + m) < L + 4
    · rw [if_pos hs] at h; simp at h
    rw [if_neg hs] at h
    by_cases hc : ((a0 :: a1 :: a2 :: t).drop (3 + m + L)).take 4 ≠ low4 (crc ((a0 :: a1 :: a2 :: t).take (3 + m + L)))
    · rw [if_pos hc] at h; simp at h
    rw [if_neg hc] at h
    simp only [Prod.mk.injEq, and_true] at h
    obtain ⟨rfl, rfl, rfl⟩ := h
    obtain ⟨g1, g2, g3⟩ := rdLen_ok hL
    obtain ⟨_, g5, r, g6⟩ := rdU_canon g1
    simp only [not_or, ne_eq, Decidable.not_not] at hh hc
    obtain ⟨z0, z1, z2⟩ := hh
    obtain rfl : a0 = 65 := z0
    obtain rfl : a1 = 71 := z1
    have z2 : a2 ≠ 0 := z2
    have hlen : t.length = m + r.length := by rw [g6, List.length_append, ← g5]
    rw [List.length_cons, List.length_cons, List.length_cons] at hs
    have hrl : L + 4 ≤ r.length := by omega
    have e1 : ((65 :: 71 :: a2 :: t).drop (3 + m)) = r := by
      rw [← List.drop_drop, hd3, g5]; exact drop_of g6
    have e2 : ((65 :: 71 :: a2 :: t).getD 2 0) = a2 := rfl
    have hbl : (r.take L).length = L := by rw [List.length_take]; omega
    have ha2 : 1 ≤ a2.toNat := by
      have := a2.toNat_lt
      by_cases h0 : a2.toNat = 0
      · exact absurd (UInt8.toNat_inj.1 (h0.trans rfl)) z2
      · omega
    have ha3 := a2.toNat_lt
    have hse : sealB (a2.toNat : Int) (r.take L) = 65 :: 71 :: a2 :: (enU L ++ r.take L) := by
      unfold sealB
      rw [hbl, Int.toNat_natCast, u8eq (c := a2) rfl]
    have hbt : (65 :: 71 :: a2 :: t : List UInt8) = sealB (a2.toNat : Int) (r.take L) ++ r.drop L := by
      rw [hse, g6]
      simp
    have hsl : (sealB (a2.toNat : Int) (r.take L)).length = 3 + m + L := by rw [sealB_len, hbl, ← g5]
    rw [e1, e2]
    refine ⟨by omega, by omega, by rw [hbl]; omega, ?_⟩
    have t1 : (65 :: 71 :: a2 :: t).take (3 + m + L) = sealB (a2.toNat : Int) (r.take L) := by rw [← hsl, hbt, List.take_left]
    have t2 : (65 :: 71 :: a2 :: t).drop (3 + m + L) = r.drop L := by rw [← hsl, hbt, List.drop_left]
    rw [t1, t2] at hc
    refine .of (by rw [List.length_append, hsl, low4_len]) (by rw [List.length_append, hsl]; omega) ⟨(r.drop L).drop 4, ?_⟩
    rw [← hc, List.append_assoc, List.take_append_drop]
    exact hbt
end Go.Proofs.Ytmnagkjdnmnbkaa.W

/- The reference's decoder of numbers. -/
namespace Go.Proofs.Ytmnagkjdnmnbkaa.W
set_option linter.unusedVariables false
open Go.RowKit
open Go.Lib (byteCells byteCells_length byteCells_append byteCells_snoc)

end Go.Proofs.Ytmnagkjdnmnbkaa.W

/- The reference's encoder of numbers. -/
namespace Go.Proofs.Ytmnagkjdnmnbkaa.W
set_option linter.unusedVariables false
open Go.RowKit
open Go.Lib (byteCells byteCells_length byteCells_append byteCells_snoc uvarint zigzag unzigzag uvarint_small uvarint_big uvarint_pos)

end Go.Proofs.Ytmnagkjdnmnbkaa.W

/- The reference's signed numbers. -/
namespace Go.Proofs.Ytmnagkjdnmnbkaa.W
set_option linter.unusedVariables false
open Go.RowKit
open Go.Lib (byteCells byteCells_length byteCells_append byteCells_snoc uvarint zigzag unzigzag)

theorem retI {k : IntKind} {a b : Int} (h : a = b) : Ending.returned (.int k a) = Ending.returned (.int k b) := by rw [h]
end Go.Proofs.Ytmnagkjdnmnbkaa.W

/- The reference's checksum. -/
namespace Go.Proofs.Ytmnagkjdnmnbkaa.W
set_option linter.unusedVariables false
open Go.RowKit
open Go.Lib (byteCells byteCells_length byteCells_append byteCells_snoc)

theorem and_one (s : BitVec 32) : bits .and .u32 (s.toNat : Int) 1 = ((s.toNat % 2 : Nat) : Int) := by
  have h := u32_and_nat s.toNat 1 s.isLt (by decide)
  rw [Nat.and_one_is_mod] at h
  exact h
theorem bit1_odd (s : BitVec 32) (h : s.toNat % 2 = 1) : bits .xor .u32 ((s.toNat : Int) / 2) 3988292384 = (((bit1 s).toNat : Nat) : Int) := by
  have hs := s.isLt
  have e : ((s.toNat : Int) / 2) = ((s.toNat / 2 : Nat) : Int) := by omega
  have hb : s.getLsbD 0 = true := by simp [BitVec.getLsbD, Nat.testBit_zero, h]
  have hx := u32_xor_nat (s.toNat / 2) 3988292384 (by omega) (by decide)
  rw [e]
  unfold bit1
  rw [if_pos hb, BitVec.toNat_xor, BitVec.toNat_ushiftRight, Nat.shiftRight_eq_div_pow]
  exact hx
theorem bit1_even (s : BitVec 32) (h : s.toNat % 2 = 0) : ((s.toNat : Int) / 2) = (((bit1 s).toNat : Nat) : Int) := by
  have hb : s.getLsbD 0 = false := by simp [BitVec.getLsbD, Nat.testBit_zero, h]
  unfold bit1
  rw [hb]
  simp [BitVec.toNat_ushiftRight, Nat.shiftRight_eq_div_pow]
end Go.Proofs.Ytmnagkjdnmnbkaa.W

/- The reference's Low and Seal. -/
namespace Go.Proofs.Ytmnagkjdnmnbkaa.W
set_option linter.unusedVariables false
open Go.RowKit
open Go.Lib (byteCells byteCells_length byteCells_append byteCells_snoc)

theorem own_below {w w' : World} {base : Nat} {e : TypeId} {size : Nat} {v : Value} {n : Nat} {xs : List Value} (h : w.ownsRow base e size v n xs) (hb : Below w.heap.size w w') : w'.ownsRow base e size v n xs := by
  refine ⟨h.1, ?_⟩
  rcases h.2 with h0 | ⟨g, cap, cur, h1, h2, h3, h4⟩
  · exact .inl h0
  · exact .inr ⟨g, cap, cur, h1, h2, (hb.block g (h.lt g (by rw [h1]; rfl)).2).trans h3, h4⟩
theorem own_new (w : World) (cs : Array Value) (bs : List UInt8) (n : Nat) (h : cs.toList = byteCells bs) (hn : bs.length = n) (hm : n ≤ maxLen) : (w.alloc (.cells cs 5)).ownsRow w.heap.size 5 1 (.slice (some ⟨w.heap.size, 0, none⟩) n n) bs.length (byteCells bs) := by
  have hs : cs.size = n := by rw [← Array.length_toList, h, byteCells_length, hn]
  have := World.ownsRow_lit (base := w.heap.size) (e := 5) (size := 1) w cs n (Nat.le_refl _) hm (by omega)
  rw [h] at this
  rw [hn]
  exact this
end Go.Proofs.Ytmnagkjdnmnbkaa.W

/- The reference's String, ReadString, SameInts and SameStrings. -/
namespace Go.Proofs.Ytmnagkjdnmnbkaa.W
set_option linter.unusedVariables false
open Go.RowKit
open Go.Lib (byteCells byteCells_length byteCells_append byteCells_snoc unzigzag zigzag uvarint_small uvarint_big)

set_option maxRecDepth 100000 in
set_option maxHeartbeats 1000000 in
theorem refSameInts_any (A A' : Option Addr) (c c' B B' : Nat) (xs ys : List Int) (w : World) (ha : Reads w B 1 A xs.length (xs.map intV)) (hb : Reads w B' 1 A' ys.length (ys.map intV)) (hl : xs.length ≤ 1099511627776) (hl' : ys.length ≤ 1099511627776) :
    Calls Try.prog 33 #[.slice A xs.length c, .slice A' ys.length c'] w fun e w' => e = .returned (.bool (decide (xs = ys))) ∧ ∃ k, w' = w.drewN k := by
  by_cases hlen : xs.length = ys.length
  · have hz : ((xs.length : Int) != (ys.length : Int)) = false := bneF (by omega)
    have HL := Lib.hid hlen
    obtain ⟨n, hn⟩ : ∃ n, n = ys.length := ⟨_, rfl⟩
    rw [hlen] at ha hl hz ⊢
    rw [← hn] at ha hb hl hl' hz ⊢
    have HN := Lib.hid hn
    clear hlen hn
    go_enter Try.func33, Try.ntmps33
    go_wp2
    go_loopw [5] (fun i wr => ∃ k m : Nat, k ≤ n ∧ i = .int .i64 k ∧ wr = w.drewN m ∧ xs.take k = ys.take k) (fun i _ => n - (intOf i).toNat)
    case atStart => exact ⟨0, 0, Nat.zero_le _, rfl, rfl, by simp⟩
    case round =>
      obtain ⟨k, m, hk, rfl, rfl, htk⟩ := hrel
      by_cases hlt : k < n
      · obtain ⟨ad, u, rfl, _, hx, hc⟩ := ha.at_ hlt
        obtain ⟨bd, u', rfl, _, hx', hc'⟩ := hb.at_ hlt
        obtain ⟨x, hxk⟩ : ∃ x, xs[k]? = some x := ⟨_, List.getElem?_eq_getElem (by have := HL.out; have := HN.out; omega)⟩
        obtain ⟨y, hyk⟩ : ∃ y, ys[k]? = some y := ⟨_, List.getElem?_eq_getElem (by have := HN.out; omega)⟩
        have e1 : u = intV x := by simp [hxk] at hx; exact hx.symm
        have e2 : u' = intV y := by simp [hyk] at hx'; exact hx'.symm
        rw [e1] at hc
        rw [e2] at hc'
        have HXK := Lib.hid hxk
        have HYK := Lib.hid hyk
        have HTK := Lib.hid htk
        have hlt2 : (k : Int) < (n : Int) := by omega
        clear e1 e2 hx hx' hxk hyk htk
        dsimp only [intV] at hc hc'
        by_cases hxy : x = y
        · subst hxy
          have HT2 := Lib.hid (take_eq_of HTK.out HXK.out HYK.out rfl)
          go_wp2_with fail
          go_quiet (fail)
          go_wp2_with fail
          go_roundw
          case rel => exact ⟨k + 1, _, by omega, by go_num, rfl, HT2.out⟩
          case measure => simp [intOf]; omega
        · have hz2 : (x != y) = true := bneT hxy
          have HNE := Lib.hid (ne_of_get HXK.out HYK.out hxy)
          have hd := Lib.hid (show decide (xs = ys) = false by simpa using HNE.out)
          clear hxy
          go_wp2_with fail
          go_quiet (fail)
          go_wp2_with fail
          go_ret
          rw [hd.out]
          exact ⟨rfl, _, World.drewN_drewN _ _ _⟩
      · have hd := Lib.hid (show decide (xs = ys) = true by
          have h1 := HL.out
          have h2 := HN.out
          rw [List.take_of_length_le (by omega), List.take_of_length_le (by omega)] at htk
          simpa using htk)
        clear htk
        go_wp2
        go_ret
        rw [hd.out]
        exact ⟨rfl, _, rfl⟩
  · have hz : ((xs.length : Int) != (ys.length : Int)) = true := bneT (by omega)
    have hd := Lib.hid (show decide (xs = ys) = false by
      rw [decide_eq_false_iff_not]; intro h; exact hlen (by rw [h]))
    clear hlen
    go_enter Try.func33, Try.ntmps33
    go_wp2
    go_ret
    rw [hd.out]
    exact ⟨rfl, 0, rfl⟩
end Go.Proofs.Ytmnagkjdnmnbkaa.W

/- The reference's lists: their encoders and decoders. -/
namespace Go.Proofs.Ytmnagkjdnmnbkaa.W
set_option linter.unusedVariables false
open Go.RowKit
open Go.Lib (byteCells byteCells_length byteCells_append byteCells_snoc unzigzag zigzag uvarint_small uvarint_big)

end Go.Proofs.Ytmnagkjdnmnbkaa.W
