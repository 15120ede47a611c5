/- AlertsMerge at arguments that are too long. -/
import Derived.Test.YtojhdljbpmjigaaGreatDoorAAwake
namespace Go.Proofs.YtojhdljbpmjigaaGreatDoor.Al
set_option linter.unusedVariables false
set_option linter.unusedSimpArgs false
open Go.RowKit
open Go.Proofs.YtojhdljbpmjigaaGreatDoor.W
open Go.Proofs.YtojhdljbpmjigaaGreatDoor.V
open Go.Proofs.YtojhdljbpmjigaaGreatDoor.O
open Go.Proofs.YtojhdljbpmjigaaGreatDoor.Pb (Alr alrC alrsC two_blk)

set_option maxRecDepth 1000000 in
set_option maxHeartbeats 4000000 in
theorem merge_no (num : Int) (A : Option Addr) (n c : Nat) (E F : Option Addr) (m cE o cF : Nat) (subj : Int) (w : World) (ht : H.Tab w) (hbad : ¬ (n ≤ 60 ∧ m ≤ 150 ∧ o ≤ 150)) :
    Calls Tryz.prog 3 #[.agg #[.int .i64 num, .slice A n c], .slice E m cE, .slice F o cF, .int .i64 subj] w (PB w true) := by
  have hb0 := (Below.refl w.heap.size w).alloc (Nat.le_refl _) (.cells #[.int .i64 num, .slice A n c] 24)
  have hz := Blk.new w 24 #[.int .i64 num, .slice A n c]
  have AW := Lib.hid (fun W (hW : Below w.heap.size w W) => awake_any W (ht.on hW))
  have S0 := Lib.hid (fun W => small_any num A E n c m cE W)
  have S1 := Lib.hid (fun W => small_any num A F n c o cF W)
  have B0 := Lib.hid hb0
  have Z1 := Lib.hid hz
  clear hb0 hz ht
  by_cases h0 : n ≤ 60 ∧ m ≤ 150
  case neg =>
    have d0 : (decide (n ≤ 60) && decide (m ≤ 150)) = false := by rw [← Bool.not_eq_true]; simp; omega
    rw [d0] at S0
    clear hbad d0
    go_enter Tryz.func3, Tryz.ntmps3
    go_upto_region 1 with fail
    generalize w.alloc (.cells #[.int .i64 num, .slice A n c] 24) = w0 at *
    have FB := Lib.hid (fun W (hW : Below w0.heap.size w0 W) => blk2 (Z1.out.below hW Z1.out.lt))
    go_wp2_with (first
      | (go_at_call 4; (with_reducible refine (AW.out _ B0.out).mono ?_); rintro e w1 ⟨rfl, b1⟩; (have p1 := FB.out _ b1))
      | (go_at_call 5; (with_reducible refine (S0.out _).mono ?_); rintro e x0 ⟨rfl, q0⟩; (have r0 := below2s b1 q0); (have s0 := FB.out _ r0))
      | fail)
    go_ret
    exact ⟨rfl, below2s B0.out r0⟩
  have d0 : (decide (n ≤ 60) && decide (m ≤ 150)) = true := by simp [h0.1, h0.2]
  rw [d0] at S0
  by_cases h1 : n ≤ 60 ∧ o ≤ 150
  case neg =>
    have d1 : (decide (n ≤ 60) && decide (o ≤ 150)) = false := by rw [← Bool.not_eq_true]; simp; omega
    rw [d1] at S1
    clear hbad d1
    go_enter Tryz.func3, Tryz.ntmps3
    go_upto_region 1 with fail
    generalize w.alloc (.cells #[.int .i64 num, .slice A n c] 24) = w0 at *
    have FB := Lib.hid (fun W (hW : Below w0.heap.size w0 W) => blk2 (Z1.out.below hW Z1.out.lt))
    go_wp2_with (first
      | (go_at_call 4; (with_reducible refine (AW.out _ B0.out).mono ?_); rintro e w1 ⟨rfl, b1⟩; (have p1 := FB.out _ b1))
      | (go_at_call 5; (with_reducible refine (S0.out _).mono ?_); rintro e x0 ⟨rfl, q0⟩; (have r0 := below2s b1 q0); (have s0 := FB.out _ r0))
      | (go_at_call 5; (with_reducible refine (S1.out _).mono ?_); rintro e x1 ⟨rfl, q1⟩; (have r1 := below2s r0 q1); (have s1 := FB.out _ r1))
      | fail)
    go_ret
    exact ⟨rfl, below2s B0.out r1⟩
  have d1 : (decide (n ≤ 60) && decide (o ≤ 150)) = true := by simp [h1.1, h1.2]
  rw [d1] at S1
  exact absurd ⟨h0.1, h0.2, h1.2⟩ hbad
end Go.Proofs.YtojhdljbpmjigaaGreatDoor.Al
