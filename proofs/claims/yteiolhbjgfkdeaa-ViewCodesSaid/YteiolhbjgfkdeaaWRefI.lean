/- The reference's signed numbers. -/
import Derived.Test.YteiolhbjgfkdeaaWRefE
import Derived.Test.YteiolhbjgfkdeaaWRefU
namespace Go.Proofs.Yteiolhbjgfkdeaa.W
set_option linter.unusedVariables false
open Go.RowKit
open Go.Lib (byteCells byteCells_length byteCells_append byteCells_snoc uvarint zigzag unzigzag)

theorem retI {k : IntKind} {a b : Int} (h : a = b) : Ending.returned (.int k a) = Ending.returned (.int k b) := by rw [h]
set_option maxRecDepth 100000 in
theorem refZig_any (x : Int) (w : World) (hx : In64 x) :
    Calls Try.prog 71 #[.int .i64 x] w fun e w' => e = .returned (.int .u64 (zigzag x : Nat)) ∧ w = w' := by
  obtain ⟨h1, h2⟩ := hx
  by_cases hneg : x < 0
  · have hz : ((zigzag x : Nat) : Int) = 2 * (-(x + 1)) + 1 := by unfold zigzag; rw [if_neg (by omega)]; omega
    have HZ := Lib.hid hz
    clear hz
    go_enter Try.func71, Try.ntmps71
    go_wp2
    go_ret
    exact ⟨retI (by rw [HZ.out]; omega), rfl⟩
  · have hz : ((zigzag x : Nat) : Int) = 2 * x := by unfold zigzag; rw [if_pos (by omega)]; omega
    have HZ := Lib.hid hz
    clear hz
    go_enter Try.func71, Try.ntmps71
    go_wp2
    go_ret
    exact ⟨retI (by rw [HZ.out]; omega), rfl⟩
set_option maxRecDepth 100000 in
theorem refUnzig_any (u : Nat) (w : World) (hu : u < 18446744073709551616) :
    Calls Try.prog 70 #[.int .u64 u] w fun e w' => e = .returned (.int .i64 (unzigzag u)) ∧ w = w' := by
  have hm : u % 2 = 0 ∨ u % 2 = 1 := by omega
  rcases hm with h | h
  · have hz : unzigzag u = (u : Int) / 2 := by unfold unzigzag; simp [h]; try omega
    have HZ := Lib.hid hz
    have hb : ((u : Int) % 2 == 1) = false := beqF (by omega)
    clear hz
    go_enter Try.func70, Try.ntmps70
    go_wp2
    go_ret
    exact ⟨retI (by rw [HZ.out]), rfl⟩
  · have hz : unzigzag u = -((u : Int) / 2) - 1 := by unfold unzigzag; simp [h]; try omega
    have HZ := Lib.hid hz
    have hb : ((u : Int) % 2 == 1) = true := beqT (by omega)
    clear hz
    go_enter Try.func70, Try.ntmps70
    go_wp2
    go_ret
    exact ⟨retI (by rw [HZ.out]), rfl⟩
set_option maxRecDepth 100000 in
theorem refInt_any (x : Int) (w : World) (hx : In64 x) :
    Calls Try.prog 68 #[.int .i64 x] w (OwnPost w.heap.size w (enI x)) := by
  have CZ := Lib.hid (refZig_any x w hx)
  have CU := Lib.hid (refUint_any (zigzag x) w (zig_lt hx))
  go_enter Try.func68, Try.ntmps68
  go_wp2_with (first
    | (go_at_call 71; refine CZ.out.mono ?_; rintro e w' ⟨rfl, rfl⟩)
    | (go_at_call 59; refine CU.out.mono ?_; rintro e w2 ⟨v2, rfl, ho2, hb2⟩))
  go_ret
  exact ⟨v2, rfl, ho2, hb2⟩
set_option maxRecDepth 100000 in
theorem refReadInt_any (A : Option Addr) (c B : Nat) (bs : List UInt8) (w : World) (hr : Reads w B 1 A bs.length (byteCells bs)) (hn : bs.length ≤ 1099511627776) :
    Calls Try.prog 64 #[.slice A bs.length c] w fun e w' =>
      e = .returned (.tuple #[.int .i64 (rdI bs).1, .int .i64 (rdI bs).2.1, .int .i64 (rdI bs).2.2]) ∧ w = w' := by
  have hc := refReadUint_any A c B bs w hr hn
  obtain ⟨⟨u, n, e⟩, hu⟩ : ∃ r, rdU bs = r := ⟨_, rfl⟩
  rw [hu] at hc
  have HC := Lib.hid hc
  clear hc
  by_cases he : e = 0
  · subst he
    have HR := Lib.hid (show rdI bs = (unzigzag u, n, 0) by unfold rdI; rw [hu]; simp)
    have CZ := Lib.hid (refUnzig_any u w (rdU_used hu).1)
    clear hu
    go_enter Try.func64, Try.ntmps64
    go_wp2_with (first
      | (go_at_call 55; refine HC.out.mono ?_; rintro e w' ⟨rfl, rfl⟩)
      | (go_at_call 70; refine CZ.out.mono ?_; rintro e w' ⟨rfl, rfl⟩))
    go_ret3
    rw [HR.out]
    exact ⟨rfl, rfl⟩
  · have HR := Lib.hid (show rdI bs = (0, 0, e) by unfold rdI; rw [hu]; simp [he])
    have hb : ((e : Int) != 0) = true := bneT (by omega)
    clear hu
    go_enter Try.func64, Try.ntmps64
    go_wp2_with (first
      | (go_at_call 55; refine HC.out.mono ?_; rintro e w' ⟨rfl, rfl⟩))
    go_ret3
    rw [HR.out]
    exact ⟨rfl, rfl⟩
end Go.Proofs.Yteiolhbjgfkdeaa.W
