/- same, join and awake. -/
import Derived.Test.YtklihjgmmliejaaDoorWOpen
import Derived.Test.YtklihjgmmliejaaDoorWMath3
namespace Go.Proofs.YtklihjgmmliejaaDoor.W
set_option linter.unusedVariables false
open Go.RowKit
open Go.Lib (byteCells byteCells_length byteCells_append byteCells_snoc)

set_option maxRecDepth 100000 in
set_option maxHeartbeats 400000 in
theorem same_any (A A' : Option Addr) (c c' n n' B B' : Nat) (xs ys : List UInt8) (w : World) (ha : Reads w B 1 A n (byteCells xs)) (hb : Reads w B' 1 A' n' (byteCells ys)) :
    Calls Tryd.prog 18 #[.slice A n c, .slice A' n' c'] w fun e w' => e = .returned (.bool (xs == ys)) ∧ w = w' := by
  have h1 := run_str (P := Tryd.prog) (w := w) Tryd.underlying22 Tryd.underlying5 Tryd.underlying9 ha c
  have h2 := run_str (P := Tryd.prog) (w := w) Tryd.underlying22 Tryd.underlying5 Tryd.underlying9 hb c'
  go_enter Tryd.func18, Tryd.ntmps18
  go_wp2_with fail
  go_ret
  exact ⟨rfl, rfl⟩

set_option maxRecDepth 100000 in
set_option maxHeartbeats 400000 in
theorem join_any (A A' : Option Addr) (c c' n n' : Nat) (xs ys : List UInt8) (w : World) (ha : Reads w w.heap.size 1 A n (byteCells xs)) (hb : Reads w w.heap.size 1 A' n' (byteCells ys)) (hl : xs.length + ys.length ≤ 4398046511104) :
    Calls Tryd.prog 20 #[.slice A n c, .slice A' n' c'] w (OwnPost w.heap.size w (xs ++ ys)) := by
  have hlen := ha.len
  have hlen2 := hb.len
  have ho0 : (w.alloc (.cells #[] 5)).ownsRow w.heap.size 5 1 (.slice (some ⟨w.heap.size, 0, none⟩) 0 0) ([] : List UInt8).length (byteCells []) :=
    World.ownsRow_made w #[] 0 (Nat.le_refl _) (by unfold maxLen; omega) rfl
  have hb1 := (Below.refl w.heap.size w).alloc (Nat.le_refl _)
  have hx1 : ([] : List UInt8).length + xs.length ≤ 8796093022208 := by simp; omega
  have hx2 : ([] ++ xs).length + ys.length ≤ 8796093022208 := by simp; omega
  have H1 := Lib.hid hx1
  have H2 := Lib.hid hx2
  clear hlen hlen2 hx1 hx2
  go_enter Tryd.func20, Tryd.ntmps20
  go_wp2_with (first
    | (at_builtin; refine wp_append_bytes _ rfl (.tmp 5) (.tmp 6) rfl w.heap.size _ [] xs _ _ _ _ rfl ho0 rfl (ha.below (hb1 _)) H1.out (hb1 _).size ?_; intro v2 w2 ho2 hb2; have hbw2 : Below w.heap.size w w2 := (hb1 _).trans hb2)
    | (at_builtin; refine wp_append_bytes _ rfl (.tmp 7) (.tmp 8) rfl w.heap.size v2 ([] ++ xs) ys _ _ _ _ rfl ho2 rfl (hb.below hbw2) H2.out hbw2.size ?_; intro v3 w3 ho3 hb3))
  go_ret
  exact ⟨_, rfl, ho3, hbw2.trans hb3⟩
end Go.Proofs.YtklihjgmmliejaaDoor.W
