/- The reference of layer 6: Subjects. -/
import Derived.Test.YtojhdljbpmjigaaDoorARef6
namespace Go.Proofs.YtojhdljbpmjigaaDoor.Al
set_option linter.unusedVariables false
open Go.RowKit
open Go.Proofs.YtojhdljbpmjigaaDoor.W
open Go.Proofs.YtojhdljbpmjigaaDoor.V
open Go.Proofs.YtojhdljbpmjigaaDoor.O
open Go.Proofs.YtojhdljbpmjigaaDoor.Pb (Alr alrC alrsC len_alrsC alrsC_app alrsC_one alrsC_get alrsC_cell alrInfo step_append_alr reads_blk two_blk)

theorem subs_snoc {s : List Alr} {k : Nat} {x : Alr} (h : s[k]? = some x) : subsA (s.take (k + 1)) = subStep (subsA (s.take k)) x := by
  rw [take_snoc h]
  unfold subsA
  rw [List.foldl_append]
  rfl
theorem ins_len (x : Int) : ∀ l : List Int, (ins x l).length ≤ l.length + 1
  | [] => by simp [ins]
  | y :: t => by
    unfold ins
    split
    · simp
    · have := ins_len x t
      simp; omega
theorem subs_len : ∀ (s : List Alr) (out : List Int), (s.foldl subStep out).length ≤ out.length + s.length
  | [], out => by simp
  | x :: t, out => by
    have h1 := subs_len t (subStep out x)
    have h2 : (subStep out x).length ≤ out.length + 1 := by
      unfold subStep
      split
      · omega
      · exact ins_len _ _
    show (t.foldl subStep (subStep out x)).length ≤ _
    simp
    omega
end Go.Proofs.YtojhdljbpmjigaaDoor.Al
