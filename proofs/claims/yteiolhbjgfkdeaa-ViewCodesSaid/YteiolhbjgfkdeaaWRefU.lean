/- The reference's decoder of numbers. -/
import Derived.Test.YteiolhbjgfkdeaaWRound
namespace Go.Proofs.Yteiolhbjgfkdeaa.W
set_option linter.unusedVariables false
open Go.RowKit
open Go.Lib (byteCells byteCells_length byteCells_append byteCells_snoc)

set_option maxRecDepth 100000 in
set_option maxHeartbeats 400000 in
theorem refReadUint_any (A : Option Addr) (c B : Nat) (bs : List UInt8) (w : World) (hr : Reads w B 1 A bs.length (byteCells bs)) (hn : bs.length ≤ 1099511627776) :
    Calls Try.prog 55 #[.slice A bs.length c] w fun e w' =>
      e = .returned (.tuple #[.int .u64 (rdU bs).1, .int .i64 (rdU bs).2.1, .int .i64 (rdU bs).2.2]) ∧ w = w' := by
  go_enter Try.func55, Try.ntmps55
  go_wp2
  go_loop [5, 6] (fun v i => ∃ k acc : Nat, k ≤ bs.length ∧ k ≤ 9 ∧ i = .int .i64 k ∧ v = .int .u64 acc ∧ acc < 2 ^ (7 * k) ∧ uFrom k acc (bs.drop k) = rdU bs) (fun _ i => bs.length - (intOf i).toNat)
  case atStart => exact ⟨0, 0, Nat.zero_le _, by omega, rfl, rfl, by decide, rfl⟩
  case round =>
    obtain ⟨k, acc, hk, hk9, rfl, rfl, hacc, hres⟩ := hrel
    by_cases hlt : k < bs.length
    · obtain ⟨ad, z, rfl, _, hc, hd, _, hz⟩ := hr.byte hlt
      have hp := pow7_pos k
      by_cases hbad : (k = 9 ∧ 1 < z.toNat) ∨ (0 < k ∧ z.toNat = 0)
      · have HR : Hid (rdU bs = (0, 0, 3)) := by
          rw [← hres, hd, uFrom, if_pos hbad]; rfl
        clear hres hd
        rcases hbad with ⟨h9, h1⟩ | ⟨h0, h1⟩
        · have h8 : 8 < k := by omega
          clear h9
          go_wp2
          go_ret3
          rw [HR.out]
          exact ⟨rfl, rfl⟩
        · have h8 : ¬ 1 < z.toNat := by omega
          have h7 : z.toNat ≤ 0 := by omega
          clear h1
          by_cases h9 : k = 9
          · have h10 : 8 < k := by omega
            clear h9
            go_wp2
            go_ret3
            rw [HR.out]
            exact ⟨rfl, rfl⟩
          · have h10 : k < 9 := by omega
            clear h9
            have hb9 : ((k : Int) == 9) = false := by simp; omega
            have hbz : ((z.toNat : Int) == 0) = true := by simp; omega
            go_wp2
            go_ret3
            rw [HR.out]
            exact ⟨rfl, rfl⟩
      · have hstep : uFrom k acc (z :: bs.drop (k + 1)) = if z.toNat < 128 then (acc + z.toNat % 128 * 2 ^ (7 * k), k + 1, 0) else uFrom (k + 1) (acc + z.toNat % 128 * 2 ^ (7 * k)) (bs.drop (k + 1)) := by rw [uFrom, if_neg hbad]
        rw [hd, hstep] at hres
        clear hstep hd
        by_cases hs : z.toNat < 128
        · rw [if_pos hs] at hres
          have HR := Lib.hid hres.symm
          clear hres
          by_cases h9 : k = 9
          · have h8 : ¬ 1 < z.toNat := fun h => hbad (.inl ⟨h9, h⟩)
            have h7 : 0 < z.toNat := Nat.pos_of_ne_zero fun h => hbad (.inr ⟨by omega, h⟩)
            have h10 : 8 < k := by omega
            clear hbad h9
            have hb9 : ((k : Int) == 9) = true := by simp; omega
            have hbz : ((z.toNat : Int) == 0) = false := by simp; omega
            go_wp2
            go_ret3
            rw [HR.out]
            exact ⟨tup3 (place_walk (by omega) hacc (fun _ => by omega)) (by dsimp only; omega) rfl, rfl⟩
          · have h10 : k < 9 := by omega
            have hb9 : ((k : Int) == 9) = false := by simp; omega
            by_cases h0 : 0 < k
            · have h7 : 0 < z.toNat := Nat.pos_of_ne_zero fun h => hbad (.inr ⟨h0, h⟩)
              have hbz : ((z.toNat : Int) == 0) = false := by simp; omega
              clear hbad h9
              go_wp2
              go_ret3
              rw [HR.out]
              exact ⟨tup3 (place_walk (by omega) hacc (fun _ => by omega)) (by dsimp only; omega) rfl, rfl⟩
            · clear hbad h9
              go_wp2
              go_ret3
              rw [HR.out]
              exact ⟨tup3 (place_walk (by omega) hacc (fun _ => by omega)) (by dsimp only; omega) rfl, rfl⟩
        · rw [if_neg hs] at hres
          have HR := Lib.hid hres
          clear hres
          have h10 : k < 9 := by
            rcases Nat.lt_or_ge k 9 with h | h
            · exact h
            · exact absurd (.inl ⟨by omega, by omega⟩) hbad
          have hb9 : ((k : Int) == 9) = false := by simp; omega
          have hbz : ((z.toNat : Int) == 0) = false := by simp; omega
          clear hbad
          by_cases h0 : 0 < k
          all_goals
            go_wp2
            go_round
            case rel => exact ⟨k + 1, _, by omega, by omega, by go_num, congrArg (Value.int .u64) (place_walk (by omega) hacc (fun _ => by omega)), acc_next hacc (by omega), HR.out⟩
            case measure => simp [intOf]; omega
    · have HR : Hid (rdU bs = (0, 0, 2)) := by
        rw [← hres, List.drop_eq_nil_of_le (by omega)]; rfl
      have : k = bs.length := by omega
      subst this
      clear hres
      go_wp2
      go_ret3
      rw [HR.out]
      exact ⟨rfl, rfl⟩
end Go.Proofs.Yteiolhbjgfkdeaa.W
