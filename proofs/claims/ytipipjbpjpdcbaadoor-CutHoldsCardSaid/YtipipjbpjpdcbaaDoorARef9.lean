/- The reference of layer 6: Decode. -/
import Derived.Test.YtipipjbpjpdcbaaDoorARef8
namespace Go.Proofs.YtipipjbpjpdcbaaDoor.Al
set_option linter.unusedVariables false
set_option linter.unusedSimpArgs false
open Go.RowKit
open Go.Proofs.YtipipjbpjpdcbaaDoor.W
open Go.Proofs.YtipipjbpjpdcbaaDoor.V
open Go.Proofs.YtipipjbpjpdcbaaDoor.O
open Go.Proofs.YtipipjbpjpdcbaaDoor.Pb (Alr alrC alrsC len_alrsC alrsC_app alrsC_one alrsC_get alrsC_cell alrInfo step_append_alr reads_blk two_blk)
open Go.Lib (byteCells byteCells_length byteCells_append)

/-- One alert read, at a place of the whole. -/
theorem rdItems_at {num : Int} {l : List Int} {k at_ n1 n2 x y e1 e2 : Nat} {O : List Alr} {bs : List UInt8} (h1 : rdU (bs.drop at_) = (x, n1, e1)) (h2 : rdU (bs.drop (at_ + n1)) = (y, n2, e2)) :
    rdItems K num l (k + 1) O at_ (bs.drop at_) =
      if e1 ≠ 0 then ([], 0, e1) else if e2 ≠ 0 then ([], 0, e2) else if 1000 < x ∨ 5 ≤ y then ([], 0, 3)
      else match (obsL K l (x : Int))[y]? with
        | none => ([], 0, 3)
        | some o => if (match O.getLast? with | none => false | some p => !(lessA p ⟨num, (y : Int), o, (x : Int)⟩)) then ([], 0, 3)
          else rdItems K num l k (O ++ [⟨num, (y : Int), o, (x : Int)⟩]) (at_ + n1 + n2) (bs.drop (at_ + n1 + n2)) := by
  rw [rdItems]
  simp only [h1, List.drop_drop]
  rw [h2]
  simp only []
  rw [show at_ + n1 + n2 = at_ + (n1 + n2) by omega]
  rfl
theorem obs_64 {num : Int} {l : List Int} {x y : Nat} {z : Int} (hv : validV num l = true) (hy : y < 5) (hz : (obsL K l (x : Int))[y]? = some z) : In64 z := by
  have h : okA K num l ⟨num, (y : Int), z, (x : Int)⟩ = true := okA_iff.2 ⟨hv, rfl, by show (0 : Int) ≤ (y : Int); omega, by show (y : Int) < 5; omega, by simpa using hz⟩
  have := okA_in h inj_K
  unfold inA at this
  simp only [Bool.and_eq_true] at this
  have := this.2.2.1
  unfold isID at this
  simp at this
  exact ⟨by omega, by omega⟩
theorem below2s {w a b : World} (h : Below w.heap.size w a) (q : Below a.heap.size a b) : Below w.heap.size w b := h.trans (q.mono h.size)
theorem el_snoc {O : List Alr} {a : Alr} (h : ∀ x ∈ O, El x) (ha : El a) : ∀ x ∈ O ++ [a], El x := fun x hx => by
  rcases List.mem_append.1 hx with h1 | h1
  · exact h x h1
  · rw [List.mem_singleton.1 h1]; exact ha
theorem outDec_no {w w' : World} {R : List Alr × Nat × Nat} {k : Nat} {e : Ending} (hR : R = ([], 0, k)) (he : e = .returned (.tuple #[.slice none 0 0, .int .i64 0, .int .i64 (k : Int)])) (hb : Below w.heap.size w w') : OutDec w R e w' := by
  subst hR
  exact ⟨none, 0, he, AS.nil, hb⟩
theorem outDec_yes {w w' : World} {R : List Alr × Nat × Nat} {O : List Alr} {n : Nat} {e : Ending} {X : Option Addr} {cX : Nat} (hR : R = (O, n, 0)) (he : e = .returned (.tuple #[.slice X O.length cX, .int .i64 (n : Int), .int .i64 0])) (ho : AS w' w'.heap.size O X cX) (hb : Below w.heap.size w w') : OutDec w R e w' := by
  subst hR
  exact ⟨X, cX, he, ho, hb⟩
end Go.Proofs.YtipipjbpjpdcbaaDoor.Al
