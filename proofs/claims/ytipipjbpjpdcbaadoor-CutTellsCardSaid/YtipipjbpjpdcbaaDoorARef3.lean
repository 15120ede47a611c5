/- The reference of layer 6: Same. -/
import Derived.Test.YtipipjbpjpdcbaaDoorAB
namespace Go.Proofs.YtipipjbpjpdcbaaDoor.Al
set_option linter.unusedVariables false
open Go.RowKit
open Go.Proofs.YtipipjbpjpdcbaaDoor.W
open Go.Proofs.YtipipjbpjpdcbaaDoor.V
open Go.Proofs.YtipipjbpjpdcbaaDoor.O
open Go.Proofs.YtipipjbpjpdcbaaDoor.Pb (Alr alrC alrsC len_alrsC alrsC_app alrsC_one alrsC_get alrsC_cell alrInfo step_append_alr reads_blk two_blk)

theorem neq_alr (x y : Alr) (W : World) : (binOp .neq 48 (.agg #[.int .i64 x.view, .int .i64 x.ring, .int .i64 x.obs, .int .i64 x.subj]) (.agg #[.int .i64 y.view, .int .i64 y.ring, .int .i64 y.obs, .int .i64 y.subj])).run Tryd.prog W = .ok (.bool (!(decide (x = y)))) W := by
  obtain ⟨a1, a2, a3, a4⟩ := x
  obtain ⟨b1, b2, b3, b4⟩ := y
  by_cases h1 : a1 = b1 <;> by_cases h2 : a2 = b2 <;> by_cases h3 : a3 = b3 <;> by_cases h4 : a4 = b4 <;> simp [go_sem, h1, h2, h3, h4]
theorem ext_take {α : Type} [DecidableEq α] {a b : List α} {k : Nat} (hl : a.length = b.length) (h : a.take k = b.take k) (hk : a.length ≤ k) : a = b := by
  rw [List.take_of_length_le hk, List.take_of_length_le (by omega)] at h
  exact h
theorem take_same {α : Type} {a b : List α} {k : Nat} {x : α} (h : a.take k = b.take k) (ha : a[k]? = some x) (hb : b[k]? = some x) : a.take (k + 1) = b.take (k + 1) := by rw [List.take_add_one, List.take_add_one, h, ha, hb]
end Go.Proofs.YtipipjbpjpdcbaaDoor.Al
