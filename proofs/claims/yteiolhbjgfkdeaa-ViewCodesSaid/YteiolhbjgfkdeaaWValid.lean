/- tooLong, slices.IndexFunc, slices.ContainsFunc (at tooLong), ValidValue. -/
import Derived.Test.YteiolhbjgfkdeaaWEnc2
namespace Go.Proofs.Yteiolhbjgfkdeaa.W
set_option linter.unusedVariables false
open Go.RowKit
open Go.Lib (byteCells byteCells_length byteCells_append byteCells_snoc unzigzag zigzag uvarint_small uvarint_big)

/-- A value of the actor language as the program holds it. -/
def gvV (v : GV) (I L : Option Addr) (ci cl : Nat) : Value := .agg #[.int .i64 v.kind, .int .i64 v.n, strV v.s, .slice I v.i.length ci, .slice L v.l.length cl]
structure GVarg (w : World) (B : Nat) (v : GV) (I L : Option Addr) (ci cl : Nat) : Prop where
  ri : Reads w B 1 I v.i.length (v.i.map intV)
  rl : Reads w B 1 L v.l.length (v.l.map strV)
  hci : v.i.length ≤ ci
  hcl : v.l.length ≤ cl
  k64 : In64 v.kind
  n64 : In64 v.n
  i64 : ∀ x ∈ v.i, In64 x
  s40 : v.s.length ≤ 1099511627776
  i40 : v.i.length ≤ 1099511627776
  l40 : v.l.length ≤ 1099511627776
  e40 : ∀ s ∈ v.l, s.length ≤ 1099511627776
end Go.Proofs.Yteiolhbjgfkdeaa.W
