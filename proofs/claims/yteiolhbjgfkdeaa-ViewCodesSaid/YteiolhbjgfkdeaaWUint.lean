/- wire.Uint returns what 'rdU' computes of the bytes, and touches nothing. -/
import Derived.Test.YteiolhbjgfkdeaaWMath
import Derived.Test.YteiolhbjgfkdeaaWMem
import Derived.Test.YteiolhbjgfkdeaaRows
import Derived.WalkKit
import Derived.BigGuardPart
import Derived.Lib.Hide
namespace Go.Proofs.Yteiolhbjgfkdeaa.W
open Go.RowKit
open Go.Lib (byteCells byteCells_length)

theorem or_place {acc x k : Nat} (ha : acc < 2 ^ (7 * k)) (hs : acc + x * 2 ^ (7 * k) < 18446744073709551616) :
    bits .or .u64 (acc : Int) ((x * 2 ^ (7 * k) : Nat) : Int) = ((acc + x * 2 ^ (7 * k) : Nat) : Int) := by
  have e64 : (2 : Nat) ^ 64 = 18446744073709551616 := by decide
  have h := (bits_nat .u64 64 (by decide) (fun n h0 h1 => by rw [IntKind.wrap_u64]; omega) acc (x * 2 ^ (7 * k)) (by omega) (by omega)).2
  rw [h]
  congr 1
  rw [Nat.or_comm, Nat.mul_comm, ← Nat.two_pow_add_eq_or_of_lt ha, Nat.add_comm]
theorem place_fits {acc m k : Nat} (hk : k ≤ 9) (ha : acc < 2 ^ (7 * k)) (hm : m < 128) (h9 : k = 9 → m ≤ 1) : acc + m * 2 ^ (7 * k) < 18446744073709551616 := by
  by_cases h : k = 9
  · have := h9 h
    subst h
    have e : (2 : Nat) ^ (7 * 9) = 9223372036854775808 := by decide
    rw [e] at ha ⊢
    omega
  · have h1 : acc + m * 2 ^ (7 * k) < 2 ^ (7 * (k + 1)) := by
      rw [pow7, Nat.mul_comm (2 ^ (7 * k)) 128]
      have : (m + 1) * 2 ^ (7 * k) ≤ 128 * 2 ^ (7 * k) := Nat.mul_le_mul_right _ (by omega)
      rw [Nat.add_mul, Nat.one_mul] at this
      omega
    have h2 : (2 : Nat) ^ (7 * (k + 1)) ≤ 2 ^ (7 * 9) := Nat.pow_le_pow_right (by decide) (by omega)
    have e : (2 : Nat) ^ (7 * 9) = 9223372036854775808 := by decide
    omega
theorem acc_next {acc m k : Nat} (ha : acc < 2 ^ (7 * k)) (hm : m < 128) : acc + m * 2 ^ (7 * k) < 2 ^ (7 * (k + 1)) := by
  rw [pow7, Nat.mul_comm (2 ^ (7 * k)) 128]
  have : (m + 1) * 2 ^ (7 * k) ≤ 128 * 2 ^ (7 * k) := Nat.mul_le_mul_right _ (by omega)
  rw [Nat.add_mul, Nat.one_mul] at this
  omega
/-- What the walk makes of 'v |= uint64(c%128) << (7*k)'. -/
theorem place_walk {acc z k : Nat} (hk : k ≤ 9) (ha : acc < 2 ^ (7 * k)) (h9 : k = 9 → z ≤ 1) :
    bits .or .u64 (acc : Int) (IntKind.u64.wrap ((z : Int) % 128 * 2 ^ (7 * k))) = ((acc + z % 128 * 2 ^ (7 * k) : Nat) : Int) := by
  have hf := place_fits (m := z % 128) hk ha (by omega) (fun h => by have := h9 h; omega)
  have e : ((z : Int) % 128 * 2 ^ (7 * k)) = ((z % 128 * 2 ^ (7 * k) : Nat) : Int) := by
    simp [Int.natCast_mul, Int.natCast_pow]
  have e64 : (2 : Nat) ^ 64 = 18446744073709551616 := by decide
  rw [e, IntKind.wrap_u64, Int.emod_eq_of_lt (by omega) (by omega)]
  exact or_place ha hf
theorem tup3 {k1 k2 k3 : IntKind} {a b c a' b' c' : Int} (h1 : a = a') (h2 : b = b') (h3 : c = c') :
    Ending.returned (.tuple #[.int k1 a, .int k2 b, .int k3 c]) = Ending.returned (.tuple #[.int k1 a', .int k2 b', .int k3 c']) := by rw [h1, h2, h3]
set_option maxRecDepth 100000 in
set_option maxHeartbeats 400000 in
theorem uint_any (A : Option Addr) (c B : Nat) (bs : List UInt8) (w : World) (hr : Reads w B 1 A bs.length (byteCells bs)) (hn : bs.length ≤ 1099511627776) :
    Calls Try.prog 53 #[.slice A bs.length c] w fun e w' =>
      e = .returned (.tuple #[.int .u64 (rdU bs).1, .int .i64 (rdU bs).2.1, .int .i64 (rdU bs).2.2]) ∧ w = w' := by
  go_enter Try.func53, Try.ntmps53
  go_wp2
  go_loop [2, 9] (fun v i => ∃ k acc : Nat, k ≤ bs.length ∧ k ≤ 9 ∧ i = .int .i64 k ∧ v = .int .u64 acc ∧ acc < 2 ^ (7 * k) ∧ uFrom k acc (bs.drop k) = rdU bs) (fun _ i => bs.length - (intOf i).toNat)
  case atStart => exact ⟨0, 0, Nat.zero_le _, by omega, rfl, rfl, by decide, rfl⟩
  case round =>
    obtain ⟨k, acc, hk, hk9, rfl, rfl, hacc, hres⟩ := hrel
    by_cases hlt : k < bs.length
    · obtain ⟨ad, z, rfl, _, hc, hd, _, hz⟩ := hr.byte hlt
      have hp := pow7_pos k
      by_cases hbad : (k = 9 ∧ 1 < z.toNat) ∨ (0 < k ∧ z.toNat = 0)
      · have HR : Hid (rdU bs = (0, 0, 3)) := by
          rw [← hres, hd, uFrom, if_pos hbad]; rfl
        clear hres hd
        rcases hbad with ⟨h9, h1⟩ | ⟨h0, h1⟩
        · have h8 : 8 < k := by omega
          clear h9
          go_wp2
          go_ret3
          rw [HR.out]
          exact ⟨rfl, rfl⟩
        · have h8 : ¬ 1 < z.toNat := by omega
          have h7 : z.toNat ≤ 0 := by omega
          clear h1
          by_cases h9 : k = 9
          · have h10 : 8 < k := by omega
            clear h9
            go_wp2
            go_ret3
            rw [HR.out]
            exact ⟨rfl, rfl⟩
          · have h10 : k < 9 := by omega
            clear h9
            have hb9 : ((k : Int) == 9) = false := by simp; omega
            have hbz : ((z.toNat : Int) == 0) = true := by simp; omega
            go_wp2
            go_ret3
            rw [HR.out]
            exact ⟨rfl, rfl⟩
      · have hstep : uFrom k acc (z :: bs.drop (k + 1)) = if z.toNat < 128 then (acc + z.toNat % 128 * 2 ^ (7 * k), k + 1, 0) else uFrom (k + 1) (acc + z.toNat % 128 * 2 ^ (7 * k)) (bs.drop (k + 1)) := by rw [uFrom, if_neg hbad]
        rw [hd, hstep] at hres
        clear hstep hd
        by_cases hs : z.toNat < 128
        · rw [if_pos hs] at hres
          have HR := Lib.hid hres.symm
          clear hres
          by_cases h9 : k = 9
          · have h8 : ¬ 1 < z.toNat := fun h => hbad (.inl ⟨h9, h⟩)
            have h7 : 0 < z.toNat := Nat.pos_of_ne_zero fun h => hbad (.inr ⟨by omega, h⟩)
            have h10 : 8 < k := by omega
            clear hbad h9
            have hb9 : ((k : Int) == 9) = true := by simp; omega
            have hbz : ((z.toNat : Int) == 0) = false := by simp; omega
            go_wp2
            go_ret3
            rw [HR.out]
            exact ⟨tup3 (place_walk (by omega) hacc (fun _ => by omega)) (by dsimp only; omega) rfl, rfl⟩
          · have h10 : k < 9 := by omega
            have hb9 : ((k : Int) == 9) = false := by simp; omega
            by_cases h0 : 0 < k
            · have h7 : 0 < z.toNat := Nat.pos_of_ne_zero fun h => hbad (.inr ⟨h0, h⟩)
              have hbz : ((z.toNat : Int) == 0) = false := by simp; omega
              clear hbad h9
              go_wp2
              go_ret3
              rw [HR.out]
              exact ⟨tup3 (place_walk (by omega) hacc (fun _ => by omega)) (by dsimp only; omega) rfl, rfl⟩
            · clear hbad h9
              go_wp2
              go_ret3
              rw [HR.out]
              exact ⟨tup3 (place_walk (by omega) hacc (fun _ => by omega)) (by dsimp only; omega) rfl, rfl⟩
        · rw [if_neg hs] at hres
          have HR := Lib.hid hres
          clear hres
          have h10 : k < 9 := by
            rcases Nat.lt_or_ge k 9 with h | h
            · exact h
            · exact absurd (.inl ⟨by omega, by omega⟩) hbad
          have hb9 : ((k : Int) == 9) = false := by simp; omega
          have hbz : ((z.toNat : Int) == 0) = false := by simp; omega
          clear hbad
          by_cases h0 : 0 < k
          all_goals
            go_wp2
            go_round
            case rel => exact ⟨k + 1, _, by omega, by omega, by go_num, congrArg (Value.int .u64) (place_walk (by omega) hacc (fun _ => by omega)), acc_next hacc (by omega), HR.out⟩
            case measure => simp [intOf]; omega
    · have HR : Hid (rdU bs = (0, 0, 2)) := by
        rw [← hres, List.drop_eq_nil_of_le (by omega)]; rfl
      have : k = bs.length := by omega
      subst this
      clear hres
      go_wp2
      go_ret3
      rw [HR.out]
      exact ⟨rfl, rfl⟩
end Go.Proofs.Yteiolhbjgfkdeaa.W
