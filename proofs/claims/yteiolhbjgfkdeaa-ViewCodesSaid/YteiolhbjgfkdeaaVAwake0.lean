/- Layer 3: what awake's fixed values are. -/
import Derived.Test.YteiolhbjgfkdeaaVSmall
namespace Go.Proofs.Yteiolhbjgfkdeaa.V
set_option linter.unusedVariables false
open Go.RowKit
open Go.Proofs.Yteiolhbjgfkdeaa.W
open Go.Lib (byteCells byteCells_length byteCells_append byteCells_snoc)

theorem evN : next 0 [1, 2, 3] [3, 4] = ((1, [1, 2, 4]), 0) := by decide
theorem evM : next 0 [1, 2, 3] [1, 2] = ((0, []), 9) := by decide
theorem evE : encV 1 [1, 2, 4] = [1, 3, 2, 4, 8] := by simp [encV, validV, validM, rising, riseF, isID, enIs, enI, enU, Go.Lib.zigzag, Go.Lib.uvarint_small]
theorem evD : decV [1, 3, 2, 4, 8] = (((1, [1, 2, 4]), 5), 0) := by rfl
theorem in_lit {l : List Int} (h : (l.all fun x => decide (-9223372036854775808 ≤ x) && decide (x ≤ 9223372036854775807)) = true) : ∀ x ∈ l, In64 x := by
  intro x hx
  have := List.all_eq_true.1 h x hx
  simp at this
  exact ⟨by omega, by omega⟩
/-- Next's result, written out. -/
def NextS (w : World) (num : Int) (k : Nat) (l : List Int) (err : Int) (en : Ending) (w' : World) : Prop :=
  ∃ A c, en = .returned (.tuple #[.agg #[.int .i64 num, .slice A k c], .int .i64 err]) ∧ k ≤ c ∧ Reads w' w'.heap.size 1 A k (l.map intV) ∧ Below w.heap.size w w'
theorem NextPost.to {w : World} {r : (Int × List Int) × Nat} {e : Ending} {w' : World} (h : NextPost w r e w') (num : Int) (l : List Int) (k err : Nat) (hr : r = ((num, l), err)) (hk : l.length = k) : NextS w num k l err e w' := by
  subst hr hk
  obtain ⟨A, c, h1, h2, h3, h4⟩ := h
  exact ⟨A, c, h1, h2, h3, h4⟩
def DecS (w : World) (num : Int) (k : Nat) (l : List Int) (n err : Int) (en : Ending) (w' : World) : Prop :=
  ∃ A c, en = .returned (.tuple #[.agg #[.int .i64 num, .slice A k c], .int .i64 n, .int .i64 err]) ∧ k ≤ c ∧ Reads w' w'.heap.size 1 A k (l.map intV) ∧ Below w.heap.size w w'
theorem DecPost.to {w : World} {r : ((Int × List Int) × Nat) × Nat} {e : Ending} {w' : World} (h : DecPost w r e w') (num : Int) (l : List Int) (k n err : Nat) (hr : r = (((num, l), n), err)) (hk : l.length = k) : DecS w num k l n err e w' := by
  subst hr hk
  obtain ⟨A, c, h1, h2, h3, h4⟩ := h
  exact ⟨A, c, h1, h2, h3, h4⟩
/-- A literal row of ints. -/
theorem ls_lit (W : World) (g : Nat) (hg : g = W.heap.size) (cs : Array Value) (fr : Nat × Nat) (l : List Int) (n : Nat) (h : cs.toList = l.map intV) (hn : l.length = n) (hl : n ≤ 1000)
    (hel : ∀ x ∈ l, In64 x) : LS (W.alloc (.cells cs 3 fr)) (W.alloc (.cells cs 3 fr)).heap.size l (some ⟨g, 0, none⟩) n := by
  subst hg hn
  refine ⟨⟨by simp, fun _ => ⟨_, rfl, by simp, fun j u hu => ?_⟩⟩, by omega, hel, Nat.le_refl _⟩
  have e : (⟨W.heap.size, 0, none⟩ : Addr).add j = ⟨W.heap.size, j, none⟩ := by unfold Addr.add; split <;> simp_all
  rw [e, World.cell?_alloc_mark W cs 3 fr j, ← hu, ← h]
  simp
end Go.Proofs.Yteiolhbjgfkdeaa.V
