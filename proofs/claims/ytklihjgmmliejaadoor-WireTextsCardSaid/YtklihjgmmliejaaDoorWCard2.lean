/- Slices of integers and of strings that come in, opened. -/
import Derived.Test.YtklihjgmmliejaaDoorWCard
namespace Go.Proofs.YtklihjgmmliejaaDoor.W
set_option linter.unusedVariables false
open Go.Joins Go.ChangeShapes Go.WideShapes Go.ChangeAt Go.RowKit Go.Deep
open Go.ChangeMaps (open_string shut_string)
section
variable {H : Type} {enc : TypeId × Value → H} {W : World} {base : Nat} {d : DataW H} {p : List MemPlace} {v : Value}
theorem open_intsl (hval : Value.okWide Tryd.prog W .any base 37 v) (h : DataW.Trod enc Tryd.prog W 0 (fun _ => true) true 37 v d p) :
    ∃ (A : Option Addr) (c : Nat) (is : List Int), v = .slice A is.length c ∧ is.length ≤ c ∧ c ≤ maxLen ∧ Reads W W.heap.size 1 A is.length (is.map intV) ∧ ∀ x ∈ is, In64 x := by
  obtain ⟨A, n, c, rfl⟩ := okWide_slice Tryd.underlying37 hval
  obtain ⟨fuel, hf⟩ := h
  obtain ⟨A', c', is, hcs, h1, h2, h3, h4⟩ := ints_of hf
  simp [Value.cells] at hcs
  obtain ⟨rfl, rfl, rfl⟩ := hcs
  exact ⟨_, _, is, rfl, h1, h2, h3, h4⟩
theorem open_strsl (hval : Value.okWide Tryd.prog W .any base 38 v) (h : DataW.Trod enc Tryd.prog W 0 (fun _ => true) true 38 v d p) :
    ∃ (A : Option Addr) (c : Nat) (ss : List (List UInt8)), v = .slice A ss.length c ∧ ss.length ≤ c ∧ c ≤ maxLen ∧ Reads W W.heap.size 1 A ss.length (ss.map strV) ∧ ∀ x ∈ ss, x.length ≤ maxLen := by
  obtain ⟨A, n, c, rfl⟩ := okWide_slice Tryd.underlying38 hval
  obtain ⟨fuel, hf⟩ := h
  obtain ⟨A', c', ss, hcs, h1, h2, h3, h4⟩ := strs_of hf
  simp [Value.cells] at hcs
  obtain ⟨rfl, rfl, rfl⟩ := hcs
  exact ⟨_, _, ss, rfl, h1, h2, h3, h4⟩
end
theorem len_max {s : ByteArray} (h : s.size ≤ maxLen) : s.data.toList.length ≤ 9223372036854775807 := by
  have e : s.data.toList.length = s.size := by rw [Array.length_toList]; rfl
  rw [e]
  unfold maxLen at h
  omega
end Go.Proofs.YtklihjgmmliejaaDoor.W
