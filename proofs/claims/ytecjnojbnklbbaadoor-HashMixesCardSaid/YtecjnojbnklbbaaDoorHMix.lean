/- The contracts of hashing.unfold, Mix and Unmix, and of the reference's Mix. -/
import Derived.Test.YtecjnojbnklbbaaDoorHSpec
import Derived.Test.YtecjnojbnklbbaaDoorRows
import Derived.WalkKit
import Derived.BigGuardPart
import Derived.Lib.Hide
import Derived.Below
import Derived.Deep.QuietTactic
import Derived.BigQuiet
namespace Go.Proofs.YtecjnojbnklbbaaDoor.H
set_option linter.unusedVariables false
open Go.RowKit

/-- The three tables lie in the first blocks. -/
structure Tab (w : World) : Prop where
  s0 : w.cell? ⟨0, 0, none⟩ = some (.int .u64 30)
  s1 : w.cell? ⟨0, 1, none⟩ = some (.int .u64 27)
  s2 : w.cell? ⟨0, 2, none⟩ = some (.int .u64 31)
  f0 : w.cell? ⟨1, 0, none⟩ = some (.int .u64 13787848793156543929)
  f1 : w.cell? ⟨1, 1, none⟩ = some (.int .u64 10723151780598845931)
  i0 : w.cell? ⟨2, 0, none⟩ = some (.int .u64 10871156337175269513)
  i1 : w.cell? ⟨2, 1, none⟩ = some (.int .u64 3573116690164977347)
theorem Tab.drewN {w : World} (h : Tab w) (k : Nat) : Tab (w.drewN k) := ⟨h.s0, h.s1, h.s2, h.f0, h.f1, h.i0, h.i1⟩

/-- What a pure function of words leaves: the word, and nothing written. -/
def Gives (w : World) (r : BitVec 64) (e : Ending) (w' : World) : Prop := e = .returned (.int .u64 (r.toNat : Int)) ∧ ∃ k, w' = w.drewN k
theorem Gives.of {w : World} {a r : BitVec 64} {k : Nat} (h : a = r) : Gives w r (.returned (.int .u64 (a.toNat : Int))) (w.drewN k) := ⟨by rw [h], k, rfl⟩
theorem Gives.of0 {w : World} {a r : BitVec 64} (h : a = r) : Gives w r (.returned (.int .u64 (a.toNat : Int))) w := ⟨by rw [h], 0, rfl⟩

theorem quiet_left {P : Program} {f : FuncId} {args : Array Value} {w : World} {k n : Nat} {v : Value}
    (h : Calls P f args (w.drewN (k + n)) fun e w' => e = .returned v ∧ w.drewN (k + n) = w') : Calls P f args (w.drewN (k + n)) fun e w'' => e = .returned v ∧ ∃ m, w'' = w.drewN (k + m) :=
  h.mono fun _ _ ⟨he, hm⟩ => ⟨he, n, hm.symm⟩
set_option maxRecDepth 100000 in
theorem unfold27 (y : BitVec 64) (w : World) :
    Calls Tryd.prog 22 #[.int .u64 (y.toNat : Int), .int .u64 27] w fun e w' => e = .returned (.int .u64 ((unf 27 y).toNat : Int)) ∧ w = w' := by
  have h1 := fold_walk y 27 134217728 (by decide)
  have h2 := fold_walk (fold 27 y) 54 18014398509481984 (by decide)
  have hr : unf 27 y = fold 54 (fold 27 y) := rfl
  rw [hr]
  generalize fold 54 (fold 27 y) = r at *
  generalize fold 27 y = p at *
  have b0 := y.isLt
  have b1 := p.isLt
  clear hr
  go_enter Tryd.func22, Tryd.ntmps22
  go_wp2
  go_ret
  exact ⟨rfl, rfl⟩
set_option maxRecDepth 100000 in
theorem unfold30 (y : BitVec 64) (w : World) :
    Calls Tryd.prog 22 #[.int .u64 (y.toNat : Int), .int .u64 30] w fun e w' => e = .returned (.int .u64 ((unf 30 y).toNat : Int)) ∧ w = w' := by
  have h1 := fold_walk y 30 1073741824 (by decide)
  have h2 := fold_walk (fold 30 y) 60 1152921504606846976 (by decide)
  have hr : unf 30 y = fold 60 (fold 30 y) := rfl
  rw [hr]
  generalize fold 60 (fold 30 y) = r at *
  generalize fold 30 y = p at *
  have b0 := y.isLt
  have b1 := p.isLt
  clear hr
  go_enter Tryd.func22, Tryd.ntmps22
  go_wp2
  go_ret
  exact ⟨rfl, rfl⟩
set_option maxRecDepth 100000 in
theorem unfold31 (y : BitVec 64) (w : World) :
    Calls Tryd.prog 22 #[.int .u64 (y.toNat : Int), .int .u64 31] w fun e w' => e = .returned (.int .u64 ((unf 31 y).toNat : Int)) ∧ w = w' := by
  have h1 := fold_walk y 31 2147483648 (by decide)
  have h2 := fold_walk (fold 31 y) 62 4611686018427387904 (by decide)
  have hr : unf 31 y = fold 62 (fold 31 y) := rfl
  rw [hr]
  generalize fold 62 (fold 31 y) = r at *
  generalize fold 31 y = p at *
  have b0 := y.isLt
  have b1 := p.isLt
  clear hr
  go_enter Tryd.func22, Tryd.ntmps22
  go_wp2
  go_ret
  exact ⟨rfl, rfl⟩

set_option maxRecDepth 100000 in
set_option maxHeartbeats 400000 in
theorem refMix_any (x : BitVec 64) (w : World) : Calls Tryd.prog 10 #[.int .u64 (x.toNat : Int)] w (Gives w (mix x)) := by
  have h1 := fold_walk x 30 1073741824 (by decide)
  have h2 := mul_walk (fold 30 x) F0 13787848793156543929 (by decide)
  have h3 := fold_walk (fold 30 x * F0) 27 134217728 (by decide)
  have h4 := mul_walk (fold 27 (fold 30 x * F0)) F1 10723151780598845931 (by decide)
  have h5 := fold_walk (fold 27 (fold 30 x * F0) * F1) 31 2147483648 (by decide)
  have hr : mix x = fold 31 (fold 27 (fold 30 x * F0) * F1) := rfl
  rw [hr]
  generalize fold 31 (fold 27 (fold 30 x * F0) * F1) = p5 at *
  generalize fold 27 (fold 30 x * F0) * F1 = p4 at *
  generalize fold 27 (fold 30 x * F0) = p3 at *
  generalize fold 30 x * F0 = p2 at *
  generalize fold 30 x = p1 at *
  have b0 := x.isLt
  have b1 := p1.isLt
  have b2 := p2.isLt
  have b3 := p3.isLt
  have b4 := p4.isLt
  clear hr
  go_enter Tryd.func10, Tryd.ntmps10
  go_wp2
  go_ret
  exact Gives.of0 rfl

set_option maxRecDepth 100000 in
set_option maxHeartbeats 400000 in
theorem mix_any (x : BitVec 64) (w : World) (ht : Tab w) : Calls Tryd.prog 9 #[.int .u64 (x.toNat : Int)] w (Gives w (mix x)) := by
  have h1 := fold_walk x 30 1073741824 (by decide)
  have h2 := mul_walk (fold 30 x) F0 13787848793156543929 (by decide)
  have h3 := fold_walk (fold 30 x * F0) 27 134217728 (by decide)
  have h4 := mul_walk (fold 27 (fold 30 x * F0)) F1 10723151780598845931 (by decide)
  have h5 := fold_walk (fold 27 (fold 30 x * F0) * F1) 31 2147483648 (by decide)
  have hr : mix x = fold 31 (fold 27 (fold 30 x * F0) * F1) := rfl
  rw [hr]
  generalize fold 31 (fold 27 (fold 30 x * F0) * F1) = p5 at *
  generalize fold 27 (fold 30 x * F0) * F1 = p4 at *
  generalize fold 27 (fold 30 x * F0) = p3 at *
  generalize fold 30 x * F0 = p2 at *
  generalize fold 30 x = p1 at *
  have b0 := x.isLt
  have b1 := p1.isLt
  have b2 := p2.isLt
  have b3 := p3.isLt
  have b4 := p4.isLt
  clear hr
  obtain ⟨s0, s1, s2, f0, f1, _, _⟩ := ht
  go_enter Tryd.func9, Tryd.ntmps9
  go_wp2
  go_loopw [0, 4] (fun v i wr => (i = .int .i64 0 ∧ v = .int .u64 (x.toNat : Int) ∧ ∃ k, wr = w.drewN k) ∨ (i = .int .i64 1 ∧ v = .int .u64 (p2.toNat : Int) ∧ ∃ k, wr = w.drewN k) ∨ (i = .int .i64 2 ∧ v = .int .u64 (p4.toNat : Int) ∧ ∃ k, wr = w.drewN k)) (fun _ i _ => 2 - (intOf i).toNat)
  case atStart => exact .inl ⟨rfl, rfl, 0, rfl⟩
  case round =>
    rcases hrel with ⟨rfl, rfl, k, rfl⟩ | ⟨rfl, rfl, k, rfl⟩ | ⟨rfl, rfl, k, rfl⟩
    · go_wp2_with fail
      go_quiet (fail)
      go_wp2_with fail
      go_roundw
      case rel => exact .inr (.inl ⟨rfl, rfl, _, rfl⟩)
      case measure => simp [intOf]
    · go_wp2_with fail
      go_quiet (fail)
      go_wp2_with fail
      go_roundw
      case rel => exact .inr (.inr ⟨rfl, rfl, _, rfl⟩)
      case measure => simp [intOf]
    · go_wp2
      go_ret
      exact Gives.of rfl

set_option maxRecDepth 100000 in
set_option maxHeartbeats 400000 in
theorem unmix_any (y : BitVec 64) (w : World) (ht : Tab w) : Calls Tryd.prog 11 #[.int .u64 (y.toNat : Int)] w (Gives w (unmix y)) := by
  have C1 := Lib.hid (fun W => unfold31 y W)
  have h2 := mul_walk (unf 31 y) I1 3573116690164977347 (by decide)
  have C2 := Lib.hid (fun W => unfold27 (unf 31 y * I1) W)
  have h3 := mul_walk (unf 27 (unf 31 y * I1)) I0 10871156337175269513 (by decide)
  have C3 := Lib.hid (fun W => unfold30 (unf 27 (unf 31 y * I1) * I0) W)
  have hr : unmix y = unf 30 (unf 27 (unf 31 y * I1) * I0) := rfl
  rw [hr]
  generalize unf 30 (unf 27 (unf 31 y * I1) * I0) = p5 at *
  generalize unf 27 (unf 31 y * I1) * I0 = p4 at *
  generalize unf 27 (unf 31 y * I1) = p3 at *
  generalize unf 31 y * I1 = p2 at *
  generalize unf 31 y = p1 at *
  have b0 := y.isLt
  have b1 := p1.isLt
  have b2 := p2.isLt
  have b3 := p3.isLt
  have b4 := p4.isLt
  clear hr
  obtain ⟨s0, s1, s2, _, _, i0, i1⟩ := ht
  go_enter Tryd.func11, Tryd.ntmps11
  go_wp2_with (go_at_call 22; refine (C1.out _).mono ?_; rintro e w' ⟨rfl, rfl⟩)
  go_loopw [3, 4] (fun v i wr => (i = .int .i64 1 ∧ v = .int .u64 (p1.toNat : Int) ∧ ∃ k, wr = w.drewN k) ∨ (i = .int .i64 0 ∧ v = .int .u64 (p3.toNat : Int) ∧ ∃ k, wr = w.drewN k) ∨ (i = .int .i64 (-1) ∧ v = .int .u64 (p5.toNat : Int) ∧ ∃ k, wr = w.drewN k)) (fun _ i _ => (intOf i + 1).toNat)
  case atStart => exact .inl ⟨rfl, rfl, 0, rfl⟩
  case round =>
    rcases hrel with ⟨rfl, rfl, k, rfl⟩ | ⟨rfl, rfl, k, rfl⟩ | ⟨rfl, rfl, k, rfl⟩
    · go_wp2_with fail
      go_quiet (first | (go_at_call 22; exact quiet_left (C2.out _)))
      go_wp2_with fail
      go_roundw
      case rel => exact .inr (.inl ⟨rfl, rfl, _, rfl⟩)
      case measure => simp [intOf]
    · go_wp2_with fail
      go_quiet (first | (go_at_call 22; exact quiet_left (C3.out _)))
      go_wp2_with fail
      go_roundw
      case rel => exact .inr (.inr ⟨rfl, rfl, _, rfl⟩)
      case measure => simp [intOf]
    · go_wp2
      go_ret
      exact Gives.of rfl
end Go.Proofs.YtecjnojbnklbbaaDoor.H
