/- The reference's encoder of numbers. -/
import Derived.Test.YteiolhbjgfkdeaaWRound
namespace Go.Proofs.Yteiolhbjgfkdeaa.W
set_option linter.unusedVariables false
open Go.RowKit
open Go.Lib (byteCells byteCells_length byteCells_append byteCells_snoc uvarint zigzag unzigzag uvarint_small uvarint_big uvarint_pos)

set_option maxRecDepth 100000 in
set_option maxHeartbeats 400000 in
theorem refUint_any (x : Nat) (w : World) (hx : x < 18446744073709551616) :
    Calls Try.prog 59 #[.int .u64 x] w (OwnPost w.heap.size w (enU x)) := by
  have hlen := Go.Lib.uvarint_length64 hx
  have hown : w.ownsRow w.heap.size 5 1 (.slice none 0 0) ([] : List UInt8).length (byteCells []) := World.ownsRow_nil _ _ _ _
  obtain ⟨base, hbase0⟩ : ∃ base, base = w.heap.size := ⟨_, rfl⟩
  rw [← hbase0] at hown ⊢
  have hbase : base ≤ w.heap.size := by omega
  obtain ⟨l, hl0⟩ : ∃ l : List UInt8, l = [] := ⟨_, rfl⟩
  rw [← hl0] at hown
  have hl : l.length ≤ 4398046511104 := by rw [hl0]; simp
  have HLN := Lib.hid hl0
  clear hbase0 hl0
  go_enter Try.func59, Try.ntmps59
  go_wp2
  go_loopw [3, 0] (fun out y wr => ∃ (m : Nat) (d : List UInt8), m ≤ x ∧ d.length + (enU m).length ≤ 10 ∧ y = .int .u64 m ∧ wr.ownsRow base 5 1 out (l ++ d).length (byteCells (l ++ d)) ∧ Below base w wr ∧ d ++ enU m = enU x) (fun _ y _ => (intOf y).toNat)
  case atStart => exact ⟨x, [], Nat.le_refl _, by simpa [enU] using hlen, rfl, by simpa using hown, Below.refl _ _, rfl⟩
  case round =>
    obtain ⟨m, d, hm, hd, rfl, hown', hbel, henc⟩ := hrel
    have hbs := hbel.size
    have hll : (l ++ d).length ≤ 4398046511204 := by simp; omega
    generalize hL : l ++ d = L at *
    have HL := Lib.hid hL
    have HE := Lib.hid henc
    clear henc hown hL
    by_cases hbig : m < 128
    · have hb : ¬ (128 : Int) ≤ (m : Int) := by omega
      go_wp2_with (at_builtin; refine wp_append_byte _ rfl (.tmp 15) (.tmp 18) rfl base _ L m _ _ rfl (hown'.alloc _) rfl (cell_new1 _ _ _) rfl (by omega) (by omega) (by simp; omega) ?_; intro v' w1 hown2 hgrow)
      have hbel' : Below base w w1 := (hbel.alloc (by omega) _).trans hgrow
      have he : enU x = L ++ [m.toUInt8] := by rw [← HL.out, HLN.out, List.nil_append, ← HE.out, enU, uvarint_small hbig]
      go_ret
      exact ⟨v', rfl, by rw [he]; exact hown2, hbel'⟩
    · have hb : (128 : Int) ≤ (m : Int) := by omega
      have hu : enU m = (m % 128 + 128).toUInt8 :: enU (m / 128) := by unfold enU; exact uvarint_big (by omega)
      have hd2 : (d ++ [(m % 128 + 128).toUInt8]).length + (enU (m / 128)).length ≤ 10 := by rw [hu] at hd; simp at hd ⊢; omega
      have HU := Lib.hid hu
      have HD2 := Lib.hid hd2
      clear hu hd2
      go_wp2_with (at_builtin; refine wp_append_byte _ rfl (.tmp 6) (.tmp 11) rfl base _ L (m % 128 + 128) _ _ rfl (hown'.alloc _) rfl (cell_new1 _ _ _) (by omega) (by omega) (by omega) (by simp; omega) ?_; intro v' w1 hown2 hgrow)
      have hbel' : Below base w w1 := (hbel.alloc (by omega) _).trans hgrow
      rw [← HL.out, List.append_assoc] at hown2
      have henc := Lib.hid (show (d ++ [(m % 128 + 128).toUInt8]) ++ enU (m / 128) = enU x by rw [← HE.out, HU.out]; simp)
      go_roundw
      case rel => exact ⟨m / 128, d ++ [(m % 128 + 128).toUInt8], by omega, HD2.out, by go_num, hown2, hbel', henc.out⟩
      case measure => simp [intOf]; omega
end Go.Proofs.Yteiolhbjgfkdeaa.W
