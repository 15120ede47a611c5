/- slices.Equal at int and string, SameValue, Small. -/
import Derived.Test.YteiolhbjgfkdeaaWAwake
namespace Go.Proofs.Yteiolhbjgfkdeaa.W
set_option linter.unusedVariables false
open Go.RowKit
open Go.Lib (byteCells byteCells_length byteCells_append byteCells_snoc)

theorem take_eq_of {α : Type} {xs ys : List α} {k : Nat} (h : xs.take k = ys.take k) {x y : α} (hx : xs[k]? = some x) (hy : ys[k]? = some y) (hxy : x = y) : xs.take (k + 1) = ys.take (k + 1) := by
  rw [List.take_add_one, List.take_add_one, h, hx, hy, hxy]
theorem ne_of_get {α : Type} {xs ys : List α} {k : Nat} {x y : α} (hx : xs[k]? = some x) (hy : ys[k]? = some y) (hxy : x ≠ y) : xs ≠ ys := by
  rintro rfl
  rw [hx] at hy
  exact hxy (Option.some.inj hy)
def sameV (v u : GV) : Bool := v.kind == u.kind && (v.n == u.n && (v.s == u.s && (decide (v.i = u.i) && decide (v.l = u.l))))
end Go.Proofs.Yteiolhbjgfkdeaa.W
