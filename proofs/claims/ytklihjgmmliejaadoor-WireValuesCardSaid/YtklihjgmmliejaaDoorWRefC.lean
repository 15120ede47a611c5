/- The reference's checksum. -/
import Derived.Test.YtklihjgmmliejaaDoorWRound
import Derived.Test.YtklihjgmmliejaaDoorWMath5
namespace Go.Proofs.YtklihjgmmliejaaDoor.W
set_option linter.unusedVariables false
open Go.RowKit
open Go.Lib (byteCells byteCells_length byteCells_append byteCells_snoc)

theorem and_one (s : BitVec 32) : bits .and .u32 (s.toNat : Int) 1 = ((s.toNat % 2 : Nat) : Int) := by
  have h := u32_and_nat s.toNat 1 s.isLt (by decide)
  rw [Nat.and_one_is_mod] at h
  exact h
theorem bit1_odd (s : BitVec 32) (h : s.toNat % 2 = 1) : bits .xor .u32 ((s.toNat : Int) / 2) 3988292384 = (((bit1 s).toNat : Nat) : Int) := by
  have hs := s.isLt
  have e : ((s.toNat : Int) / 2) = ((s.toNat / 2 : Nat) : Int) := by omega
  have hb : s.getLsbD 0 = true := by simp [BitVec.getLsbD, Nat.testBit_zero, h]
  have hx := u32_xor_nat (s.toNat / 2) 3988292384 (by omega) (by decide)
  rw [e]
  unfold bit1
  rw [if_pos hb, BitVec.toNat_xor, BitVec.toNat_ushiftRight, Nat.shiftRight_eq_div_pow]
  exact hx
theorem bit1_even (s : BitVec 32) (h : s.toNat % 2 = 0) : ((s.toNat : Int) / 2) = (((bit1 s).toNat : Nat) : Int) := by
  have hb : s.getLsbD 0 = false := by simp [BitVec.getLsbD, Nat.testBit_zero, h]
  unfold bit1
  rw [hb]
  simp [BitVec.toNat_ushiftRight, Nat.shiftRight_eq_div_pow]
set_option maxRecDepth 100000 in
set_option maxHeartbeats 400000 in
theorem refChecksum_any (A : Option Addr) (c B : Nat) (bs : List UInt8) (w : World) (hr : Reads w B 1 A bs.length (byteCells bs)) (hn : bs.length ≤ 4398046521104) :
    Calls Tryd.prog 52 #[.slice A bs.length c] w fun e w' => e = .returned (.int .u32 ((crc bs).toNat : Int)) ∧ w = w' := by
  go_enter Tryd.func52, Tryd.ntmps52
  go_wp2
  go_loop [3, 4] (fun v i => ∃ (k : Nat) (s : BitVec 32), k ≤ bs.length ∧ i = .int .i64 k ∧ v = .int .u32 (s.toNat : Int) ∧ crcFrom s (bs.drop k) = crcFrom (BitVec.allOnes 32) bs) (fun _ i => bs.length - (intOf i).toNat)
  case atStart => exact ⟨0, BitVec.allOnes 32, Nat.zero_le _, rfl, by simp, rfl⟩
  case round =>
    obtain ⟨k, s, hk, rfl, rfl, hres⟩ := hrel
    by_cases hlt : k < bs.length
    · obtain ⟨ad, z, rfl, _, hc, hd, _, hz⟩ := hr.byte hlt
      obtain ⟨y, hy⟩ : ∃ y, y = s ^^^ BitVec.ofNat 32 z.toNat := ⟨_, rfl⟩
      have hx1 : bits .xor .u32 (s.toNat : Int) (z.toNat : Int) = (y.toNat : Int) := by
        have := xor_walk s (BitVec.ofNat 32 z.toNat)
        rw [BitVec.toNat_ofNat, Nat.mod_eq_of_lt (by omega)] at this
        rw [this, hy]
      have hstep : crcFrom (T 8 y) (bs.drop (k + 1)) = crcFrom (BitVec.allOnes 32) bs := by
        rw [← hres, hd, hy]; rfl
      have HS := Lib.hid hstep
      have b0 := s.isLt
      have by0 := y.isLt
      clear hstep hres hd hy
      go_wp2
      go_loop [3, 5, 6] (fun v j _ => ∃ (q : Nat) (t : BitVec 32), q ≤ 8 ∧ j = .int .i64 q ∧ v = .int .u32 (t.toNat : Int) ∧ T (8 - q) t = T 8 y) (fun _ j _ => 8 - (intOf j).toNat)
      case atStart => exact ⟨0, y, by omega, rfl, rfl, rfl⟩
      case round =>
        obtain ⟨q, t, hq, rfl, rfl, ht⟩ := hrel
        by_cases hq8 : q < 8
        · have hq2 : (q : Int) < 8 := by omega
          have bt := t.isLt
          have ha := and_one t
          have ht2 : T (8 - (q + 1)) (bit1 t) = T 8 y := by
            rw [← ht, show 8 - q = (8 - (q + 1)) + 1 by omega]; rfl
          have HT2 := Lib.hid ht2
          have bb := (bit1 t).isLt
          clear ht ht2
          have hm : t.toNat % 2 = 0 ∨ t.toNat % 2 = 1 := by omega
          rcases hm with h0 | h1
          · have he := Lib.hid (bit1_even t h0)
            have hb : (((t.toNat % 2 : Nat) : Int) == 1) = false := beqF (by omega)
            go_wp2
            go_round
            case rel => exact ⟨q + 1, bit1 t, by omega, by go_num, by rw [he.out], HT2.out⟩
            case measure => simp [intOf]; omega
          · have he := Lib.hid (bit1_odd t h1)
            have hb : (((t.toNat % 2 : Nat) : Int) == 1) = true := beqT (by omega)
            go_wp2
            go_round
            case rel => exact ⟨q + 1, bit1 t, by omega, by go_num, by rw [he.out], HT2.out⟩
            case measure => simp [intOf]; omega
        · obtain rfl : q = 8 := by omega
          have hq2 : ¬ ((8 : Nat) : Int) < 8 := by omega
          obtain rfl : t = T 8 y := ht
          generalize T 8 y = t at *
          have bt := t.isLt
          go_wp2
          go_round
          case rel => exact ⟨k + 1, t, by omega, by go_num, rfl, HS.out⟩
          case measure => simp [intOf]; omega
    · have b0 := s.isLt
      have HR := Lib.hid (show crc bs = ~~~ s by rw [crc, ← hres, List.drop_eq_nil_of_le (by omega)]; rfl)
      clear hres
      go_wp2
      go_ret
      rw [HR.out]
      exact ⟨congrArg (fun n => Ending.returned (.int .u32 n)) (not_walk s), rfl⟩
end Go.Proofs.YtklihjgmmliejaaDoor.W
