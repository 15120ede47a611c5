/- Layer 6: the walk of AlertsMerge. -/
import Derived.Test.YtojhdljbpmjigaaDoorAAwake
namespace Go.Proofs.YtojhdljbpmjigaaDoor.Al
set_option linter.unusedVariables false
open Go.RowKit
open Go.Proofs.YtojhdljbpmjigaaDoor.W
open Go.Proofs.YtojhdljbpmjigaaDoor.V
open Go.Proofs.YtojhdljbpmjigaaDoor.O
open Go.Proofs.YtojhdljbpmjigaaDoor.Pb (Alr alrC alrsC two_blk)

theorem merge_len' {K : Int → Int → Nat} {num : Int} {l : List Int} {a b : List Alr} (ha : a.length ≤ 150) (hb : b.length ≤ 150) : (mrgS K num l a b).length ≤ 1000 := by
  unfold mrgS
  split
  · have := (merge_len (a := a) (b := b)).2; omega
  · simp
def OutIntN (w : World) (l : List Int) (n : Nat) (e : Ending) (w' : World) : Prop := ∃ A c, e = .returned (.slice A n c) ∧ n ≤ c ∧ Reads w' w'.heap.size 1 A n (l.map intV) ∧ Below w.heap.size w w'
theorem OutInt.to {w w' : World} {l : List Int} {e : Ending} (h : OutInt w l e w') (n : Nat) (hn : n = l.length) : OutIntN w l n e w' := by subst hn; exact h
theorem subsA_len {s : List Alr} (h : s.length ≤ 150) : (subsA s).length ≤ 1000 := by
  have := subs_len s []
  unfold subsA
  simp at this
  omega
end Go.Proofs.YtojhdljbpmjigaaDoor.Al
