/- Layer 5: two boxes that hold detectors. -/
import Derived.Test.YtihgbadglaogdaaDoorBStates
namespace Go.Proofs.YtihgbadglaogdaaDoor.Pb
set_option linter.unusedVariables false
open Go.RowKit
open Go.Proofs.YtihgbadglaogdaaDoor.W
open Go.Proofs.YtihgbadglaogdaaDoor.V
open Go.Proofs.YtihgbadglaogdaaDoor.O

/-- What a detector's box holds. -/
@[reducible] def boxC (d : Dt) (A : Option Addr) (c : Nat) (E : Option Addr) (cE : Nat) : Array Value := #[.int .i64 d.me, .int .i64 d.num, .slice A d.l.length c, .slice E d.es.length cE]
/-- A box that holds a detector, and whose rows lie elsewhere. -/
structure One (w0 W : World) (g : Nat) (d : Dt) (A : Option Addr) (c : Nat) (E : Option Addr) (cE : Nat) : Prop where
  bel : Below w0.heap.size w0 W
  box : Blk W g 34 (boxC d A c E cE)
  dd : DD W d A c E cE
  oA : Off A g
  oE : Off E g
  hg : w0.heap.size ≤ g
section
variable {w0 W W' : World} {g g' : Nat} {d d' : Dt} {A E A' E' : Option Addr} {c cE c' cE' : Nat}
theorem One.on (h : One w0 W g d A c E cE) (q : Below W.heap.size W W') : One w0 W' g d A c E cE := ⟨h.bel.trans (q.mono h.bel.size), h.box.below q h.box.lt, h.dd.on q, h.oA, h.oE, h.hg⟩
theorem One.drew (h : One w0 W g d A c E cE) : One w0 W.drew g d A c E cE := ⟨h.bel.drew, h.box, h.dd.on (Below.refl _ _).drew, h.oA, h.oE, h.hg⟩
/-- A store of a whole detector into the box. -/
def put4 (W : World) (g : Nat) (d : Dt) (A : Option Addr) (c : Nat) (E : Option Addr) (cE : Nat) : World :=
  (((W.setCell ⟨g, 0, none⟩ (.int .i64 d.me)).setCell ⟨g, 1, none⟩ (.int .i64 d.num)).setCell ⟨g, 2, none⟩ (.slice A d.l.length c)).setCell ⟨g, 3, none⟩ (.slice E d.es.length cE)
theorem put4_size : (put4 W g d A c E cE).heap.size = W.heap.size := by simp [put4, World.setCell]
theorem One.put (h : One w0 W g d A c E cE) (q : Below W.heap.size W W') (hd : DD W' d' A' c' E' cE') (hA : Off A' g) (hE : Off E' g) : One w0 (put4 W' g d' A' c' E' cE') g d' A' c' E' cE' := by
  have hb := (h.on q).bel
  refine ⟨?_, ?_, ?_, hA, hE, h.hg⟩
  · unfold put4
    exact (((hb.setCell h.hg _).setCell h.hg _).setCell h.hg _).setCell h.hg _
  · have := ((((h.box.below q h.box.lt).set_ 0 (.int .i64 d'.me)).set_ 1 (.int .i64 d'.num)).set_ 2 (.slice A' d'.l.length c')).set_ 3 (.slice E' d'.es.length cE')
    exact this
  · unfold put4
    exact (((hd.set (p := ⟨g, 0, none⟩) hA hE _).set (p := ⟨g, 1, none⟩) hA hE _).set (p := ⟨g, 2, none⟩) hA hE _).set (p := ⟨g, 3, none⟩) hA hE _
/-- .. and another box behind it. -/
theorem One.far (h : One w0 W g' d A c E cE) (hg : w0.heap.size ≤ g) (hne : g' ≠ g) (hA : Off A g) (hE : Off E g) : One w0 (put4 W g d' A' c' E' cE') g' d A c E cE := by
  refine ⟨?_, ?_, ?_, h.oA, h.oE, h.hg⟩
  · unfold put4
    exact (((h.bel.setCell hg _).setCell hg _).setCell hg _).setCell hg _
  · unfold put4
    exact (((h.box.far (p := ⟨g, 0, none⟩) hne _).far (p := ⟨g, 1, none⟩) hne _).far (p := ⟨g, 2, none⟩) hne _).far (p := ⟨g, 3, none⟩) hne _
  · unfold put4
    exact (((h.dd.set (p := ⟨g, 0, none⟩) hA hE _).set (p := ⟨g, 1, none⟩) hA hE _).set (p := ⟨g, 2, none⟩) hA hE _).set (p := ⟨g, 3, none⟩) hA hE _
theorem One.lt (h : One w0 W g d A c E cE) : g < W.heap.size := h.box.lt
theorem One.fresh (h : One w0 W g d A c E cE) (hf : Fresh E' W.heap.size) : Off E' g := hf.off h.lt
end
/-- Rows read at a world, carried over a store of a detector elsewhere. -/
theorem reads_put {W : World} {g B size n : Nat} {X : Option Addr} {xs : List Value} {d : Dt} {A E : Option Addr} {c cE : Nat} (h : Reads W B size X n xs) (hX : Off X g) : Reads (put4 W g d A c E cE) B size X n xs := by
  unfold put4
  exact reads_far (reads_far (reads_far (reads_far h (p := ⟨g, 0, none⟩) hX _) (p := ⟨g, 1, none⟩) hX _) (p := ⟨g, 2, none⟩) hX _) (p := ⟨g, 3, none⟩) hX _
theorem cell_put {W : World} {g : Nat} {p : Addr} {d : Dt} {A E : Option Addr} {c cE : Nat} (hp : p.block ≠ g) : (put4 W g d A c E cE).cell? p = W.cell? p := by
  unfold put4
  have hne : ∀ j, (⟨g, j, none⟩ : Addr) ≠ p := fun j e => hp (by rw [← e])
  rw [World.cell?_setCell_other _ _ _ _ (hne 3), World.cell?_setCell_other _ _ _ _ (hne 2), World.cell?_setCell_other _ _ _ _ (hne 1), World.cell?_setCell_other _ _ _ _ (hne 0)]
end Go.Proofs.YtihgbadglaogdaaDoor.Pb
