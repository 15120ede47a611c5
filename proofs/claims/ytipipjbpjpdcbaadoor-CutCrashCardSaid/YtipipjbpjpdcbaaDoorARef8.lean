/- The reference of layer 6: Encode. -/
import Derived.Test.YtipipjbpjpdcbaaDoorARef7
namespace Go.Proofs.YtipipjbpjpdcbaaDoor.Al
set_option linter.unusedVariables false
open Go.RowKit
open Go.Proofs.YtipipjbpjpdcbaaDoor.W
open Go.Proofs.YtipipjbpjpdcbaaDoor.V
open Go.Proofs.YtipipjbpjpdcbaaDoor.O
open Go.Proofs.YtipipjbpjpdcbaaDoor.Pb (Alr alrC alrsC len_alrsC alrsC_app alrsC_one alrsC_get alrsC_cell alrInfo step_append_alr reads_blk two_blk)
open Go.Lib (byteCells byteCells_length byteCells_append)

theorem flat_snoc {s : List Alr} {k : Nat} {x : Alr} (h : s[k]? = some x) : (s.take (k + 1)).flatMap enA = (s.take k).flatMap enA ++ enA x := by
  rw [take_snoc h, List.flatMap_append]
  simp
theorem out_bytes {w w' : World} {bs : List UInt8} {B : Nat} {v : Value} {e : Ending} (he : e = .returned v) (ho : w'.ownsRow B 5 1 v bs.length (byteCells bs)) (hb : Below w.heap.size w w') : OutByt w bs e w' := by
  obtain ⟨A, c, hv, hc, hr⟩ := SliceOf.of_own (base := B) (e := 5) (by rw [byteCells_length]; exact ho)
  rw [byteCells_length] at hv hc hr
  subst hv
  exact ⟨A, c, he, hc, hr, hb⟩
end Go.Proofs.YtipipjbpjpdcbaaDoor.Al
