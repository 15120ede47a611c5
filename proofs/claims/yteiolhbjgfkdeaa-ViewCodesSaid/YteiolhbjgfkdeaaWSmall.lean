/- Small. -/
import Derived.Test.YteiolhbjgfkdeaaWSame
namespace Go.Proofs.Yteiolhbjgfkdeaa.W
set_option linter.unusedVariables false
open Go.RowKit
open Go.Lib (byteCells byteCells_length byteCells_append byteCells_snoc)

theorem retB {a b : Bool} (h : b = a) : Ending.returned (.bool a) = Ending.returned (.bool b) := by rw [h]
def bigL (l : List (List UInt8)) : Bool := l.any fun s => decide (200 < s.length)
def smallV (v : GV) : Bool := decide (v.s.length ≤ 500) && decide (v.i.length ≤ 100) && decide (v.l.length ≤ 100) && !(bigL v.l)
/-- A value as it comes in: of whatever size. -/
structure GVraw (w : World) (B : Nat) (v : GV) (I L : Option Addr) (ci cl : Nat) : Prop where
  ri : Reads w B 1 I v.i.length (v.i.map intV)
  rl : Reads w B 1 L v.l.length (v.l.map strV)
  hci : v.i.length ≤ ci
  hcl : v.l.length ≤ cl
  k64 : In64 v.kind
  n64 : In64 v.n
  i64 : ∀ x ∈ v.i, In64 x
  s40 : v.s.length ≤ 9223372036854775807
  i40 : v.i.length ≤ 9223372036854775807
  l40 : v.l.length ≤ 9223372036854775807
  e40 : ∀ s ∈ v.l, s.length ≤ 9223372036854775807
theorem GVraw.below {w W : World} {B : Nat} {v : GV} {I L : Option Addr} {ci cl : Nat} (h : GVraw w B v I L ci cl) (hb : Below B w W) : GVraw W B v I L ci cl :=
  { h with ri := h.ri.below hb, rl := h.rl.below hb }
theorem GVraw.arg {w : World} {B : Nat} {v : GV} {I L : Option Addr} {ci cl : Nat} (h : GVraw w B v I L ci cl) (hs : smallV v = true) : GVarg w B v I L ci cl := by
  simp only [smallV, Bool.and_eq_true, decide_eq_true_eq, Bool.not_eq_true', bigL, List.any_eq_false] at hs
  obtain ⟨⟨⟨h1, h2⟩, h3⟩, h4⟩ := hs
  exact { ri := h.ri, rl := h.rl, hci := h.hci, hcl := h.hcl, k64 := h.k64, n64 := h.n64, i64 := h.i64, s40 := by omega, i40 := by omega, l40 := by omega,
          e40 := fun s hs => by have := h4 s hs; simp at this; omega }
theorem Blk.box5 {W : World} {g : Nat} {t : TypeId} {a b c d e : Value} (h : Blk W g t #[a, b, c, d, e]) :
    W.cell? ⟨g, 0, none⟩ = some a ∧ W.cell? ⟨g, 1, none⟩ = some b ∧ W.cell? ⟨g, 2, none⟩ = some c ∧ W.cell? ⟨g, 3, none⟩ = some d ∧ W.cell? ⟨g, 4, none⟩ = some e :=
  ⟨h.cell 0, h.cell 1, h.cell 2, h.cell 3, h.cell 4⟩
theorem Blk.step {w w1 w2 : World} {g : Nat} {t : TypeId} {cs : Array Value} (hB : Blk w1 g t cs) (hb : Below w.heap.size w w1) (hq : Below w1.heap.size w1 w2) : Below w.heap.size w w2 ∧ Blk w2 g t cs :=
  ⟨hb.trans (hq.mono hb.size), hB.below hq hB.lt⟩
end Go.Proofs.Yteiolhbjgfkdeaa.W
