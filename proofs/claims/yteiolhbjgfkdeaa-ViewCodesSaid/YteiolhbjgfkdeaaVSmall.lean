/- Layer 3: Small, over a row of rows. -/
import Derived.Test.YteiolhbjgfkdeaaVRef6
namespace Go.Proofs.Yteiolhbjgfkdeaa.V
set_option linter.unusedVariables false
open Go.RowKit
open Go.Proofs.Yteiolhbjgfkdeaa.W
open Go.Lib (byteCells byteCells_length byteCells_append byteCells_snoc)

def slV (x : Option Addr × Nat × Nat) : Value := .slice x.1 x.2.1 x.2.2
def smallB (xs : List (Option Addr × Nat × Nat)) : Bool := xs.all fun x => decide (x.2.1 ≤ 100)
set_option maxRecDepth 100000 in
set_option maxHeartbeats 400000 in
theorem small3_any (L : Option Addr) (c B : Nat) (xs : List (Option Addr × Nat × Nat)) (w : World) (hr : Reads w B 1 L xs.length (xs.map slV)) (hl : xs.length ≤ 1099511627776)
    (he : ∀ x ∈ xs, x.2.1 ≤ 9223372036854775807) :
    Calls Try.prog 11 #[.slice L xs.length c] w fun e w' => e = .returned (.bool (smallB xs)) ∧ w = w' := by
  have HE := Lib.hid he
  clear he
  go_enter Try.func11, Try.ntmps11
  go_wp2
  go_loop [3] (fun j => ∃ k : Nat, k ≤ xs.length ∧ j = .int .i64 k ∧ smallB (xs.drop k) = smallB xs) (fun j => xs.length - (intOf j).toNat)
  case atStart => exact ⟨0, Nat.zero_le _, rfl, rfl⟩
  case round =>
    obtain ⟨k, hk, rfl, hd⟩ := hrel
    by_cases hlt : k < xs.length
    · obtain ⟨ad, u, rfl, _, hx, hcell⟩ := hr.at_ hlt
      have hux : u = slV xs[k] := by simp [hlt] at hx; exact hx.symm
      rw [hux] at hcell
      have hdk : xs.drop k = xs[k] :: xs.drop (k + 1) := List.drop_eq_getElem_cons hlt
      have hbx := HE.out xs[k] (List.getElem_mem hlt)
      generalize xs[k] = x at *
      obtain ⟨X, n, m⟩ := x
      rw [hdk] at hd
      have HD := Lib.hid hd
      have hlt2 : (k : Int) < (xs.length : Int) := by omega
      clear hd hdk hx hux
      dsimp only [slV] at hcell hbx
      by_cases hb : n ≤ 100
      · have hb2 : ¬ (100 : Int) < (n : Int) := by omega
        have ht := Lib.hid (show smallB (xs.drop (k + 1)) = smallB xs by rw [← HD.out]; simp [smallB, hb])
        go_wp2_with fail
        go_round
        case rel => exact ⟨k + 1, by omega, by go_num, ht.out⟩
        case measure => simp [intOf]; omega
      · have hb2 : (100 : Int) < (n : Int) := by omega
        have ht := Lib.hid (show smallB xs = false by rw [← HD.out]; simp [smallB]; omega)
        go_wp2_with fail
        go_ret
        exact ⟨retB' ht.out, rfl⟩
    · have ht := Lib.hid (show smallB xs = true by rw [← hd, List.drop_eq_nil_of_le (by omega)]; rfl)
      have hlt2 : ¬ (k : Int) < (xs.length : Int) := by omega
      clear hd
      go_wp2
      go_ret
      exact ⟨retB' ht.out, rfl⟩
end Go.Proofs.Yteiolhbjgfkdeaa.V
