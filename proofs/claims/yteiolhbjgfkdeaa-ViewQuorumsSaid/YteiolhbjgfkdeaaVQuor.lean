/- Layer 3: ViewQuorums' walk. -/
import Derived.Test.YteiolhbjgfkdeaaVLists
namespace Go.Proofs.Yteiolhbjgfkdeaa.V
set_option linter.unusedVariables false
open Go.RowKit
open Go.Proofs.Yteiolhbjgfkdeaa.W

theorem pop_ext : ∀ (k m x : Nat), x < 2 ^ k → k ≤ m → pop m x = pop k x
  | 0, m, x, h, _ => by
    have : x = 0 := by simpa using h
    subst this
    rw [pop_zero]; rfl
  | k + 1, 0, x, _, h => by omega
  | k + 1, m + 1, x, h, hk => by
    show x % 2 + pop m (x / 2) = x % 2 + pop k (x / 2)
    rw [pop_ext k m (x / 2) (by rw [Nat.pow_succ] at h; omega) (by omega)]
theorem mask_eq {k a : Nat} (h1 : 1 ≤ k) (h2 : k ≤ 16) (ha : a < 65536) : bits .and .u32 (a : Int) (((2 : Int) ^ k - 1) % 4294967296) = ((a % 2 ^ k : Nat) : Int) := by
  have hp : 2 ^ k ≤ 2 ^ 16 := Nat.pow_le_pow_right (by decide) h2
  have hp1 : 1 ≤ 2 ^ k := Nat.one_le_two_pow
  have hc : ((2 : Int) ^ k - 1) % 4294967296 = ((2 ^ k - 1 : Nat) : Int) := by
    have e : (2 : Int) ^ k = ((2 ^ k : Nat) : Int) := by simp
    rw [e]
    generalize 2 ^ k = p at *
    omega
  rw [hc, u32_and_nat a (2 ^ k - 1) (by omega) (by omega), Nat.and_two_pow_sub_one_eq_mod]
set_option maxRecDepth 100000 in
set_option maxHeartbeats 4000000 in
theorem quor_walk (n a b c : Nat) (w : World) (hn : n < 256) (ha : a < 65536) (hb : b < 65536) (hc : c < 65536) :
    Calls Try.prog 8 #[.int .u8 (n : Int), .int .u16 (a : Int), .int .u16 (b : Int), .int .u16 (c : Int)] w (PB w true) := by
  have AW := Lib.hid (awake_any w)
  go_enter Try.func8, Try.ntmps8
  go_upto_region 6 with (go_at_call 10; refine AW.out.mono ?_; rintro e wa ⟨rfl, hqa⟩)
  clear AW
  have e1 : (1 + (n : Int) % 16) = ((1 + n % 16 : Nat) : Int) := by omega
  have h1 : 1 ≤ 1 + n % 16 := by omega
  have h2 : 1 + n % 16 ≤ 16 := by omega
  rw [mask_eq h1 h2 ha, mask_eq h1 h2 hb, mask_eq h1 h2 hc, e1]
  clear e1
  generalize 1 + n % 16 = k at *
  have pk : 0 < 2 ^ k := Nat.two_pow_pos k
  have lx : a % 2 ^ k < 2 ^ k := Nat.mod_lt _ pk
  have ly : b % 2 ^ k < 2 ^ k := Nat.mod_lt _ pk
  have lz : c % 2 ^ k < 2 ^ k := Nat.mod_lt _ pk
  generalize a % 2 ^ k = X at *
  generalize b % 2 ^ k = Y at *
  generalize c % 2 ^ k = Z at *
  have p32 : 2 ^ k ≤ 2 ^ 16 := Nat.pow_le_pow_right (by decide) h2
  have ex := pop_ext k 32 X lx (by omega)
  have ey := pop_ext k 32 Y ly (by omega)
  have ez := pop_ext k 32 Z lz (by omega)
  have J := Lib.hid (fun (W : World) (hW : Below w.heap.size w W) => (viewMaj_any k W ⟨by omega, by omega⟩).mono fun e w' (h : PI W (maj k) e w') => (show e = .returned (.int .i64 (maj k)) ∧ Below w.heap.size w w' from ⟨h.1, bstep hW h.2⟩))
  have K := Lib.hid (fun (W : World) (hW : Below w.heap.size w W) => (viewFast_any k W ⟨by omega, by omega⟩).mono fun e w' (h : PI W (fastQ k) e w') => (show e = .returned (.int .i64 (fastQ k)) ∧ Below w.heap.size w w' from ⟨h.1, bstep hW h.2⟩))
  have OX := Lib.hid (fun W => ones_any X W (by omega))
  have OY := Lib.hid (fun W => ones_any Y W (by omega))
  have OZ := Lib.hid (fun W => ones_any Z W (by omega))
  obtain ⟨o1, o2, o3⟩ := quorum_order h1 h2
  have hand : X &&& Y < 4294967296 := Nat.lt_of_le_of_lt Nat.and_le_left (by omega)
  have fxy := u32_and_nat X Y (by omega) (by omega)
  have fxyz := u32_and_nat (X &&& Y) Z hand (by omega)
  have HV := Lib.hid (fun (g1 : maj k ≤ (pop 32 X : Int)) (g2 : maj k ≤ (pop 32 Y : Int)) => show (((X &&& Y : Nat) : Int) == 0) = false from beqF (by have := maj_two h1 h2 (by rw [← ex]; exact g1) (by rw [← ey]; exact g2); omega))
  have HU := Lib.hid (fun (g1 : ¬ (pop 32 X : Int) < fastQ k) (g2 : ¬ (pop 32 Y : Int) < fastQ k) (g3 : ¬ (pop 32 Z : Int) < maj k) => show (((X &&& Y &&& Z : Nat) : Int) != 0) = true from bneT (by have := fast_three h1 h2 (by rw [← ex]; omega) (by rw [← ey]; omega) (by rw [← ez]; omega); omega))
  clear ex ey ez lx ly lz pk p32 hand
  generalize pop 32 X = px at *
  generalize pop 32 Y = py at *
  generalize pop 32 Z = pz at *
  generalize X &&& Y &&& Z = U at *
  generalize X &&& Y = V at *
  generalize maj k = M at *
  generalize fastQ k = F at *
  have n1 : ¬ M < 1 := by omega
  have n2 : ¬ F < M := by omega
  have n3 : ¬ (k : Int) < F := by omega
  go_upto_region 8 with (first
    | (go_at_call 20; (with_reducible refine (J.out _ (by assumption)).mono ?_); rintro e y ⟨rfl, hy⟩)
    | (go_at_call 22; (with_reducible refine (K.out _ (by assumption)).mono ?_); rintro e y ⟨rfl, hy⟩)
    | (go_at_call 42; (with_reducible refine (OX.out _).mono ?_); rintro e y ⟨rfl, rfl⟩)
    | (go_at_call 42; (with_reducible refine (OY.out _).mono ?_); rintro e y ⟨rfl, rfl⟩)
    | (go_at_call 42; (with_reducible refine (OZ.out _).mono ?_); rintro e y ⟨rfl, rfl⟩)
    | fail)
  by_cases g1 : M ≤ (px : Int)
  · by_cases g2 : M ≤ (py : Int)
    · have hV := HV.out (by omega) (by omega)
      go_upto_region 10 with (first
        | (go_at_call 20; (with_reducible refine (J.out _ (by assumption)).mono ?_); rintro e y ⟨rfl, hy⟩)
        | (go_at_call 22; (with_reducible refine (K.out _ (by assumption)).mono ?_); rintro e y ⟨rfl, hy⟩)
        | (go_at_call 42; (with_reducible refine (OX.out _).mono ?_); rintro e y ⟨rfl, rfl⟩)
        | (go_at_call 42; (with_reducible refine (OY.out _).mono ?_); rintro e y ⟨rfl, rfl⟩)
        | (go_at_call 42; (with_reducible refine (OZ.out _).mono ?_); rintro e y ⟨rfl, rfl⟩)
        | fail)
      by_cases r1 : (px : Int) < F
      · go_wp2_with (first
          | (go_at_call 20; (with_reducible refine (J.out _ (by assumption)).mono ?_); rintro e y ⟨rfl, hy⟩)
          | (go_at_call 22; (with_reducible refine (K.out _ (by assumption)).mono ?_); rintro e y ⟨rfl, hy⟩)
          | (go_at_call 42; (with_reducible refine (OX.out _).mono ?_); rintro e y ⟨rfl, rfl⟩)
          | (go_at_call 42; (with_reducible refine (OY.out _).mono ?_); rintro e y ⟨rfl, rfl⟩)
          | (go_at_call 42; (with_reducible refine (OZ.out _).mono ?_); rintro e y ⟨rfl, rfl⟩)
          | fail)
        all_goals first | (exfalso; omega) | (go_ret; exact ⟨by simp, by assumption⟩) | (go_ret; exact ⟨rfl, by assumption⟩)
      by_cases r2 : (py : Int) < F
      · go_wp2_with (first
          | (go_at_call 20; (with_reducible refine (J.out _ (by assumption)).mono ?_); rintro e y ⟨rfl, hy⟩)
          | (go_at_call 22; (with_reducible refine (K.out _ (by assumption)).mono ?_); rintro e y ⟨rfl, hy⟩)
          | (go_at_call 42; (with_reducible refine (OX.out _).mono ?_); rintro e y ⟨rfl, rfl⟩)
          | (go_at_call 42; (with_reducible refine (OY.out _).mono ?_); rintro e y ⟨rfl, rfl⟩)
          | (go_at_call 42; (with_reducible refine (OZ.out _).mono ?_); rintro e y ⟨rfl, rfl⟩)
          | fail)
        all_goals first | (exfalso; omega) | (go_ret; exact ⟨by simp, by assumption⟩) | (go_ret; exact ⟨rfl, by assumption⟩)
      by_cases r3 : (pz : Int) < M
      · go_wp2_with (first
          | (go_at_call 20; (with_reducible refine (J.out _ (by assumption)).mono ?_); rintro e y ⟨rfl, hy⟩)
          | (go_at_call 22; (with_reducible refine (K.out _ (by assumption)).mono ?_); rintro e y ⟨rfl, hy⟩)
          | (go_at_call 42; (with_reducible refine (OX.out _).mono ?_); rintro e y ⟨rfl, rfl⟩)
          | (go_at_call 42; (with_reducible refine (OY.out _).mono ?_); rintro e y ⟨rfl, rfl⟩)
          | (go_at_call 42; (with_reducible refine (OZ.out _).mono ?_); rintro e y ⟨rfl, rfl⟩)
          | fail)
        all_goals first | (exfalso; omega) | (go_ret; exact ⟨by simp, by assumption⟩) | (go_ret; exact ⟨rfl, by assumption⟩)
      have hU := HU.out (by omega) (by omega) (by omega)
      go_wp2_with (first
        | (go_at_call 20; (with_reducible refine (J.out _ (by assumption)).mono ?_); rintro e y ⟨rfl, hy⟩)
        | (go_at_call 22; (with_reducible refine (K.out _ (by assumption)).mono ?_); rintro e y ⟨rfl, hy⟩)
        | (go_at_call 42; (with_reducible refine (OX.out _).mono ?_); rintro e y ⟨rfl, rfl⟩)
        | (go_at_call 42; (with_reducible refine (OY.out _).mono ?_); rintro e y ⟨rfl, rfl⟩)
        | (go_at_call 42; (with_reducible refine (OZ.out _).mono ?_); rintro e y ⟨rfl, rfl⟩)
        | fail)
      all_goals first | (exfalso; omega) | (go_ret; exact ⟨by simp, by assumption⟩) | (go_ret; exact ⟨rfl, by assumption⟩)
    · go_upto_region 10 with (first
        | (go_at_call 20; (with_reducible refine (J.out _ (by assumption)).mono ?_); rintro e y ⟨rfl, hy⟩)
        | (go_at_call 22; (with_reducible refine (K.out _ (by assumption)).mono ?_); rintro e y ⟨rfl, hy⟩)
        | (go_at_call 42; (with_reducible refine (OX.out _).mono ?_); rintro e y ⟨rfl, rfl⟩)
        | (go_at_call 42; (with_reducible refine (OY.out _).mono ?_); rintro e y ⟨rfl, rfl⟩)
        | (go_at_call 42; (with_reducible refine (OZ.out _).mono ?_); rintro e y ⟨rfl, rfl⟩)
        | fail)
      by_cases r1 : (px : Int) < F
      · go_wp2_with (first
          | (go_at_call 20; (with_reducible refine (J.out _ (by assumption)).mono ?_); rintro e y ⟨rfl, hy⟩)
          | (go_at_call 22; (with_reducible refine (K.out _ (by assumption)).mono ?_); rintro e y ⟨rfl, hy⟩)
          | (go_at_call 42; (with_reducible refine (OX.out _).mono ?_); rintro e y ⟨rfl, rfl⟩)
          | (go_at_call 42; (with_reducible refine (OY.out _).mono ?_); rintro e y ⟨rfl, rfl⟩)
          | (go_at_call 42; (with_reducible refine (OZ.out _).mono ?_); rintro e y ⟨rfl, rfl⟩)
          | fail)
        all_goals first | (exfalso; omega) | (go_ret; exact ⟨by simp, by assumption⟩) | (go_ret; exact ⟨rfl, by assumption⟩)
      by_cases r2 : (py : Int) < F
      · go_wp2_with (first
          | (go_at_call 20; (with_reducible refine (J.out _ (by assumption)).mono ?_); rintro e y ⟨rfl, hy⟩)
          | (go_at_call 22; (with_reducible refine (K.out _ (by assumption)).mono ?_); rintro e y ⟨rfl, hy⟩)
          | (go_at_call 42; (with_reducible refine (OX.out _).mono ?_); rintro e y ⟨rfl, rfl⟩)
          | (go_at_call 42; (with_reducible refine (OY.out _).mono ?_); rintro e y ⟨rfl, rfl⟩)
          | (go_at_call 42; (with_reducible refine (OZ.out _).mono ?_); rintro e y ⟨rfl, rfl⟩)
          | fail)
        all_goals first | (exfalso; omega) | (go_ret; exact ⟨by simp, by assumption⟩) | (go_ret; exact ⟨rfl, by assumption⟩)
      by_cases r3 : (pz : Int) < M
      · go_wp2_with (first
          | (go_at_call 20; (with_reducible refine (J.out _ (by assumption)).mono ?_); rintro e y ⟨rfl, hy⟩)
          | (go_at_call 22; (with_reducible refine (K.out _ (by assumption)).mono ?_); rintro e y ⟨rfl, hy⟩)
          | (go_at_call 42; (with_reducible refine (OX.out _).mono ?_); rintro e y ⟨rfl, rfl⟩)
          | (go_at_call 42; (with_reducible refine (OY.out _).mono ?_); rintro e y ⟨rfl, rfl⟩)
          | (go_at_call 42; (with_reducible refine (OZ.out _).mono ?_); rintro e y ⟨rfl, rfl⟩)
          | fail)
        all_goals first | (exfalso; omega) | (go_ret; exact ⟨by simp, by assumption⟩) | (go_ret; exact ⟨rfl, by assumption⟩)
      have hU := HU.out (by omega) (by omega) (by omega)
      go_wp2_with (first
        | (go_at_call 20; (with_reducible refine (J.out _ (by assumption)).mono ?_); rintro e y ⟨rfl, hy⟩)
        | (go_at_call 22; (with_reducible refine (K.out _ (by assumption)).mono ?_); rintro e y ⟨rfl, hy⟩)
        | (go_at_call 42; (with_reducible refine (OX.out _).mono ?_); rintro e y ⟨rfl, rfl⟩)
        | (go_at_call 42; (with_reducible refine (OY.out _).mono ?_); rintro e y ⟨rfl, rfl⟩)
        | (go_at_call 42; (with_reducible refine (OZ.out _).mono ?_); rintro e y ⟨rfl, rfl⟩)
        | fail)
      all_goals first | (exfalso; omega) | (go_ret; exact ⟨by simp, by assumption⟩) | (go_ret; exact ⟨rfl, by assumption⟩)
  · go_upto_region 10 with (first
      | (go_at_call 20; (with_reducible refine (J.out _ (by assumption)).mono ?_); rintro e y ⟨rfl, hy⟩)
      | (go_at_call 22; (with_reducible refine (K.out _ (by assumption)).mono ?_); rintro e y ⟨rfl, hy⟩)
      | (go_at_call 42; (with_reducible refine (OX.out _).mono ?_); rintro e y ⟨rfl, rfl⟩)
      | (go_at_call 42; (with_reducible refine (OY.out _).mono ?_); rintro e y ⟨rfl, rfl⟩)
      | (go_at_call 42; (with_reducible refine (OZ.out _).mono ?_); rintro e y ⟨rfl, rfl⟩)
      | fail)
    by_cases r1 : (px : Int) < F
    · go_wp2_with (first
        | (go_at_call 20; (with_reducible refine (J.out _ (by assumption)).mono ?_); rintro e y ⟨rfl, hy⟩)
        | (go_at_call 22; (with_reducible refine (K.out _ (by assumption)).mono ?_); rintro e y ⟨rfl, hy⟩)
        | (go_at_call 42; (with_reducible refine (OX.out _).mono ?_); rintro e y ⟨rfl, rfl⟩)
        | (go_at_call 42; (with_reducible refine (OY.out _).mono ?_); rintro e y ⟨rfl, rfl⟩)
        | (go_at_call 42; (with_reducible refine (OZ.out _).mono ?_); rintro e y ⟨rfl, rfl⟩)
        | fail)
      all_goals first | (exfalso; omega) | (go_ret; exact ⟨by simp, by assumption⟩) | (go_ret; exact ⟨rfl, by assumption⟩)
    by_cases r2 : (py : Int) < F
    · go_wp2_with (first
        | (go_at_call 20; (with_reducible refine (J.out _ (by assumption)).mono ?_); rintro e y ⟨rfl, hy⟩)
        | (go_at_call 22; (with_reducible refine (K.out _ (by assumption)).mono ?_); rintro e y ⟨rfl, hy⟩)
        | (go_at_call 42; (with_reducible refine (OX.out _).mono ?_); rintro e y ⟨rfl, rfl⟩)
        | (go_at_call 42; (with_reducible refine (OY.out _).mono ?_); rintro e y ⟨rfl, rfl⟩)
        | (go_at_call 42; (with_reducible refine (OZ.out _).mono ?_); rintro e y ⟨rfl, rfl⟩)
        | fail)
      all_goals first | (exfalso; omega) | (go_ret; exact ⟨by simp, by assumption⟩) | (go_ret; exact ⟨rfl, by assumption⟩)
    by_cases r3 : (pz : Int) < M
    · go_wp2_with (first
        | (go_at_call 20; (with_reducible refine (J.out _ (by assumption)).mono ?_); rintro e y ⟨rfl, hy⟩)
        | (go_at_call 22; (with_reducible refine (K.out _ (by assumption)).mono ?_); rintro e y ⟨rfl, hy⟩)
        | (go_at_call 42; (with_reducible refine (OX.out _).mono ?_); rintro e y ⟨rfl, rfl⟩)
        | (go_at_call 42; (with_reducible refine (OY.out _).mono ?_); rintro e y ⟨rfl, rfl⟩)
        | (go_at_call 42; (with_reducible refine (OZ.out _).mono ?_); rintro e y ⟨rfl, rfl⟩)
        | fail)
      all_goals first | (exfalso; omega) | (go_ret; exact ⟨by simp, by assumption⟩) | (go_ret; exact ⟨rfl, by assumption⟩)
    have hU := HU.out (by omega) (by omega) (by omega)
    go_wp2_with (first
      | (go_at_call 20; (with_reducible refine (J.out _ (by assumption)).mono ?_); rintro e y ⟨rfl, hy⟩)
      | (go_at_call 22; (with_reducible refine (K.out _ (by assumption)).mono ?_); rintro e y ⟨rfl, hy⟩)
      | (go_at_call 42; (with_reducible refine (OX.out _).mono ?_); rintro e y ⟨rfl, rfl⟩)
      | (go_at_call 42; (with_reducible refine (OY.out _).mono ?_); rintro e y ⟨rfl, rfl⟩)
      | (go_at_call 42; (with_reducible refine (OZ.out _).mono ?_); rintro e y ⟨rfl, rfl⟩)
      | fail)
    all_goals first | (exfalso; omega) | (go_ret; exact ⟨by simp, by assumption⟩) | (go_ret; exact ⟨rfl, by assumption⟩)
end Go.Proofs.Yteiolhbjgfkdeaa.V
