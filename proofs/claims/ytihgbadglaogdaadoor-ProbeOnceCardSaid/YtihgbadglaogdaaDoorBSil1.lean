/- Layer 5: boxes and rows, carried over an append. -/
import Derived.Test.YtihgbadglaogdaaDoorBSil0
namespace Go.Proofs.YtihgbadglaogdaaDoor.Pb
set_option linter.unusedVariables false
open Go.RowKit
open Go.Proofs.YtihgbadglaogdaaDoor.W
open Go.Proofs.YtihgbadglaogdaaDoor.V
open Go.Proofs.YtihgbadglaogdaaDoor.O
theorem reads_grown {W W' : World} {B size n : Nat} {A : Option Addr} {xs : List Value} {row : Option Nat} (h : Reads W B size A n xs) (hB : B ≤ W.heap.size) (hg : W.grownBy W' row) (hr : ∀ b, row = some b → Off A b) : Reads W' B size A n xs := by
  refine ⟨h.1, fun hn => ?_⟩
  obtain ⟨ad, e, hb, hc⟩ := h.2 hn
  refine ⟨ad, e, hb, fun j u hu => ?_⟩
  rw [← hc j u hu]
  refine World.cell?_of_block ?_
  rw [block_of_add]
  refine hg.block ad.block (by omega) (fun e2 => ?_)
  exact hr ad.block e2.symm ad e rfl
theorem DD.grown {W W' : World} {d : Dt} {A E : Option Addr} {c cE : Nat} {row : Option Nat} (h : DD W d A c E cE) (hg : W.grownBy W' row) (hA : ∀ b, row = some b → Off A b) (hE : ∀ b, row = some b → Off E b) : DD W' d A c E cE := by
  have h1 := reads_grown h.vw.rd (Nat.le_refl _) hg hA
  have h2 := reads_grown h.rd (Nat.le_refl _) hg hE
  exact { h with vw := { h.vw with rd := h1.more hg.size }, rd := h2.more hg.size }
theorem One.grown {w0 W W' : World} {g : Nat} {d : Dt} {A E : Option Addr} {c cE : Nat} {row : Option Nat} (h : One w0 W g d A c E cE) (hg : W.grownBy W' row) (h0 : ∀ b, row = some b → w0.heap.size ≤ b) (hG : ∀ b, row = some b → b ≠ g)
    (hA : ∀ b, row = some b → Off A b) (hE : ∀ b, row = some b → Off E b) : One w0 W' g d A c E cE :=
  ⟨h.bel.grown hg h.bel.size h0, h.box.grown hg (fun e => hG g e.symm rfl), h.dd.grown hg hA hE, h.oA, h.oE, h.hg⟩
theorem own_put4 {W : World} {B g : Nat} {d : Dt} {A E : Option Addr} {c cE : Nat} {e : TypeId} {size : Nat} {v : Value} {n : Nat} {xs : List Value} (h : W.ownsRow B e size v n xs) (hg : g < B) : (put4 W g d A c E cE).ownsRow B e size v n xs := by
  unfold put4
  exact own_setV (own_setV (own_setV (own_setV h hg _) hg _) hg _) hg _
end Go.Proofs.YtihgbadglaogdaaDoor.Pb
