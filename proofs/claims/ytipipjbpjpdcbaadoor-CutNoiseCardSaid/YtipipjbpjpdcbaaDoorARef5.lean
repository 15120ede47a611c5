/- The reference of layer 6: Add. -/
import Derived.Test.YtipipjbpjpdcbaaDoorARef4
namespace Go.Proofs.YtipipjbpjpdcbaaDoor.Al
set_option linter.unusedVariables false
open Go.RowKit
open Go.Proofs.YtipipjbpjpdcbaaDoor.W
open Go.Proofs.YtipipjbpjpdcbaaDoor.V
open Go.Proofs.YtipipjbpjpdcbaaDoor.O
open Go.Proofs.YtipipjbpjpdcbaaDoor.Pb (Alr alrC alrsC len_alrsC alrsC_app alrsC_one alrsC_get alrsC_cell alrInfo step_append_alr reads_blk two_blk)

theorem outAdd_no {w w' : World} {num : Int} {l : List Int} {s : List Alr} {a : Alr} {k : Nat} {e : Ending} (hk : addE K num l s a = k) (h0 : k ≠ 0) (he : e = .returned (.tuple #[.slice none 0 0, .bool false, .int .i64 (k : Int)])) (hb : Below w.heap.size w w') :
    OutAdd w (addS K num l s a) (addB K num l s a) (addE K num l s a) e w' := by
  unfold addS addB
  rw [hk, if_neg h0, if_neg h0]
  exact ⟨none, 0, he, AS.nil, hb⟩
theorem outAdd_yes {w w' : World} {num : Int} {l : List Int} {s : List Alr} {a : Alr} {e : Ending} {v : Value} (hk : addE K num l s a = 0) (he : e = .returned (.tuple #[v, .bool (!(hasA s a.subj a.ring)), .int .i64 0])) (B : Nat) (ho : w'.ownsRow B 48 4 v (putA s a).length (alrsC (putA s a))) (hl : (putA s a).length ≤ 1099511627776) (hel : ∀ x ∈ putA s a, El x) (hb : Below w.heap.size w w') :
    OutAdd w (addS K num l s a) (addB K num l s a) (addE K num l s a) e w' := by
  unfold addS addB
  rw [hk, if_pos rfl, if_pos rfl]
  obtain ⟨A, c, rfl, h⟩ := AS.of_own ho hl hel
  exact ⟨A, c, he, h, hb⟩
theorem addE_1 {num : Int} {l : List Int} {s : List Alr} {a : Alr} (h : (okS K num l s && inA a) = false) : addE K num l s a = 1 := by unfold addE; rw [h]; rfl
theorem addE_8 {num : Int} {l : List Int} {s : List Alr} {a : Alr} (h : (okS K num l s && inA a) = true) (hv : a.view ≠ num) : addE K num l s a = 8 := by unfold addE; rw [h]; simp [hv]
theorem addE_6 {num : Int} {l : List Int} {s : List Alr} {a : Alr} (h : (okS K num l s && inA a) = true) (hv : a.view = num) (ho : okA K num l a = false) : addE K num l s a = 6 := by unfold addE; rw [h, ho]; simp [hv]
theorem addE_0 {num : Int} {l : List Int} {s : List Alr} {a : Alr} (h : (okS K num l s && inA a) = true) (hv : a.view = num) (ho : okA K num l a = true) : addE K num l s a = 0 := by unfold addE; rw [h, ho]; simp [hv]
theorem bdrew {w w' : World} (b : Below w.drew.heap.size w.drew w') : Below w.heap.size w w' := (Below.refl _ _).drew.trans b
end Go.Proofs.YtipipjbpjpdcbaaDoor.Al
