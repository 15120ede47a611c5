/- The reference's Low and Seal. -/
import Derived.Test.YteiolhbjgfkdeaaWRefC
import Derived.Test.YteiolhbjgfkdeaaWRefE
namespace Go.Proofs.Yteiolhbjgfkdeaa.W
set_option linter.unusedVariables false
open Go.RowKit
open Go.Lib (byteCells byteCells_length byteCells_append byteCells_snoc)

theorem own_below {w w' : World} {base : Nat} {e : TypeId} {size : Nat} {v : Value} {n : Nat} {xs : List Value} (h : w.ownsRow base e size v n xs) (hb : Below w.heap.size w w') : w'.ownsRow base e size v n xs := by
  refine ⟨h.1, ?_⟩
  rcases h.2 with h0 | ⟨g, cap, cur, h1, h2, h3, h4⟩
  · exact .inl h0
  · exact .inr ⟨g, cap, cur, h1, h2, (hb.block g (h.lt g (by rw [h1]; rfl)).2).trans h3, h4⟩
theorem own_new (w : World) (cs : Array Value) (bs : List UInt8) (n : Nat) (h : cs.toList = byteCells bs) (hn : bs.length = n) (hm : n ≤ maxLen) : (w.alloc (.cells cs 5)).ownsRow w.heap.size 5 1 (.slice (some ⟨w.heap.size, 0, none⟩) n n) bs.length (byteCells bs) := by
  have hs : cs.size = n := by rw [← Array.length_toList, h, byteCells_length, hn]
  have := World.ownsRow_lit (base := w.heap.size) (e := 5) (size := 1) w cs n (Nat.le_refl _) hm (by omega)
  rw [h] at this
  rw [hn]
  exact this
end Go.Proofs.Yteiolhbjgfkdeaa.W
