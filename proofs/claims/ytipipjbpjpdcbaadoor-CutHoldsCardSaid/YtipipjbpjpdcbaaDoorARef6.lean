/- The reference of layer 6: Merge. -/
import Derived.Test.YtipipjbpjpdcbaaDoorARef5
namespace Go.Proofs.YtipipjbpjpdcbaaDoor.Al
set_option linter.unusedVariables false
open Go.RowKit
open Go.Proofs.YtipipjbpjpdcbaaDoor.W
open Go.Proofs.YtipipjbpjpdcbaaDoor.V
open Go.Proofs.YtipipjbpjpdcbaaDoor.O
open Go.Proofs.YtipipjbpjpdcbaaDoor.Pb (Alr alrC alrsC len_alrsC alrsC_app alrsC_one alrsC_get alrsC_cell alrInfo step_append_alr reads_blk two_blk)

theorem merge_snoc {a b : List Alr} {k : Nat} {x : Alr} (h : b[k]? = some x) : mergeA a (b.take (k + 1)) = putA (mergeA a (b.take k)) x := by
  rw [take_snoc h]
  unfold mergeA
  rw [List.foldl_append]
  rfl
theorem outMrg_no {w w' : World} {num : Int} {l : List Int} {a b : List Alr} {e : Ending} (hk : (okS K num l a && okS K num l b) = false) (he : e = .returned (.tuple #[.slice none 0 0, .int .i64 1])) (hb : Below w.heap.size w w') :
    OutMrg w (mrgS K num l a b) (mrgE K num l a b) e w' := by
  unfold mrgS mrgE
  rw [hk]
  exact ⟨none, 0, he, AS.nil, hb⟩
theorem outMrg_yes {w w' : World} {num : Int} {l : List Int} {a b : List Alr} {e : Ending} {X : Option Addr} {cX : Nat} (hk : (okS K num l a && okS K num l b) = true) (he : e = .returned (.tuple #[.slice X (mergeA a b).length cX, .int .i64 0])) (ho : AS w' w'.heap.size (mergeA a b) X cX) (hb : Below w.heap.size w w') :
    OutMrg w (mrgS K num l a b) (mrgE K num l a b) e w' := by
  unfold mrgS mrgE
  rw [hk]
  exact ⟨X, cX, he, ho, hb⟩
end Go.Proofs.YtipipjbpjpdcbaaDoor.Al
