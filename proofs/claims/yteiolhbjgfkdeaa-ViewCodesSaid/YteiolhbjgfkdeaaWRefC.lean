/- The reference's checksum. -/
import Derived.Test.YteiolhbjgfkdeaaWRound
import Derived.Test.YteiolhbjgfkdeaaWMath5
namespace Go.Proofs.Yteiolhbjgfkdeaa.W
set_option linter.unusedVariables false
open Go.RowKit
open Go.Lib (byteCells byteCells_length byteCells_append byteCells_snoc)

theorem and_one (s : BitVec 32) : bits .and .u32 (s.toNat : Int) 1 = ((s.toNat % 2 : Nat) : Int) := by
  have h := u32_and_nat s.toNat 1 s.isLt (by decide)
  rw [Nat.and_one_is_mod] at h
  exact h
theorem bit1_odd (s : BitVec 32) (h : s.toNat % 2 = 1) : bits .xor .u32 ((s.toNat : Int) / 2) 3988292384 = (((bit1 s).toNat : Nat) : Int) := by
  have hs := s.isLt
  have e : ((s.toNat : Int) / 2) = ((s.toNat / 2 : Nat) : Int) := by omega
  have hb : s.getLsbD 0 = true := by simp [BitVec.getLsbD, Nat.testBit_zero, h]
  have hx := u32_xor_nat (s.toNat / 2) 3988292384 (by omega) (by decide)
  rw [e]
  unfold bit1
  rw [if_pos hb, BitVec.toNat_xor, BitVec.toNat_ushiftRight, Nat.shiftRight_eq_div_pow]
  exact hx
theorem bit1_even (s : BitVec 32) (h : s.toNat % 2 = 0) : ((s.toNat : Int) / 2) = (((bit1 s).toNat : Nat) : Int) := by
  have hb : s.getLsbD 0 = false := by simp [BitVec.getLsbD, Nat.testBit_zero, h]
  unfold bit1
  rw [hb]
  simp [BitVec.toNat_ushiftRight, Nat.shiftRight_eq_div_pow]
end Go.Proofs.Yteiolhbjgfkdeaa.W
