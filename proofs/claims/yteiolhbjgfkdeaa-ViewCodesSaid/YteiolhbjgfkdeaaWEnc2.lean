/- The encoders that go through grown: AppendUint, AppendInt, putString, AppendString, AppendInts, AppendStrings. -/
import Derived.Test.YteiolhbjgfkdeaaWEnc
import Derived.Lib.AppendStr
namespace Go.Proofs.Yteiolhbjgfkdeaa.W
set_option linter.unusedVariables false
open Go.RowKit
open Go.Lib (byteCells byteCells_length byteCells_append byteCells_snoc unzigzag zigzag uvarint_small uvarint_big)

theorem enU_len {x : Nat} (h : x < 18446744073709551616) : (enU x).length ≤ 10 := Go.Lib.uvarint_length64 h
theorem enI_len {x : Int} (h : In64 x) : (enI x).length ≤ 10 := enU_len (zig_lt h)
set_option maxRecDepth 100000 in
set_option maxHeartbeats 400000 in
theorem AppendUint_any (A : Option Addr) (c : Nat) (bs : List UInt8) (x : Nat) (w : World) (hr : Reads w w.heap.size 1 A bs.length (byteCells bs)) (hl : bs.length ≤ 1099511627776) (hx : x < 18446744073709551616) :
    Calls Try.prog 58 #[.slice A bs.length c, .int .u64 x] w (OwnPost w.heap.size w (bs ++ enU x)) := by
  have HC := Lib.hid (grown_any A c 10 bs w hr (by omega) (by omega))
  go_enter Try.func58, Try.ntmps58
  go_wp2_with (first
    | (go_at_call 66; refine HC.out.mono ?_; rintro e w1 ⟨v1, rfl, ho1, hb1⟩)
    | (go_at_call 65; refine (putUint_any v1 bs x w.heap.size w1 ho1 hb1.size (by omega) hx).mono ?_; rintro e w2 ⟨v2, rfl, ho2, hb2⟩))
  go_ret
  exact ⟨_, rfl, ho2, hb1.trans hb2⟩
/- LISTS -/
theorem size_list (s : ByteArray) : s.size = s.data.toList.length := by rw [Array.length_toList]; rfl
theorem put_u64 {n : Nat} : ((n : Nat) : Int) = (n : Int) := rfl
set_option maxRecDepth 100000 in
set_option maxHeartbeats 1000000 in
theorem AppendInts_any (A L : Option Addr) (c d : Nat) (bs : List UInt8) (l : List Int) (w : World) (hr : Reads w w.heap.size 1 A bs.length (byteCells bs)) (hL : Reads w w.heap.size 1 L l.length (l.map intV))
    (hl : bs.length + (enIs l).length ≤ 1099511627776) (hll : l.length ≤ 1099511627776) (hel : ∀ x ∈ l, In64 x) :
    Calls Try.prog 57 #[.slice A bs.length c, .slice L l.length d] w (OwnPost w.heap.size w (bs ++ enIs l)) := by
  have hcall := grown_any A c (10 + l.length) bs w hr (by omega) (by omega)
  rw [show ((10 + l.length : Nat) : Int) = 10 + (l.length : Int) by omega] at hcall
  have HC := Lib.hid hcall
  clear hcall
  have hle := enU_len (x := l.length) (by omega)
  have hes : (enIs l).length = (enU l.length).length + (l.flatMap enI).length := by unfold enIs; rw [List.length_append]
  have HES := Lib.hid hes
  clear hes
  have hfl : (l.flatMap enI).length ≤ 1099511627776 := by have := HES.out; omega
  go_enter Try.func57, Try.ntmps57
  go_wp2_with (first
    | (go_at_call 66; refine HC.out.mono ?_; rintro e w1 ⟨v1, rfl, ho1, hb1⟩)
    | (go_at_call 65; refine (putUint_any v1 bs l.length w.heap.size w1 ho1 hb1.size (by omega) (by omega)).mono ?_; rintro e w2 ⟨v2, rfl, ho2, hb2⟩))
  go_loopw [5, 19] (fun out i wr => ∃ k : Nat, k ≤ l.length ∧ i = .int .i64 k ∧ wr.ownsRow w.heap.size 5 1 out (bs ++ enU l.length ++ (l.take k).flatMap enI).length (byteCells (bs ++ enU l.length ++ (l.take k).flatMap enI)) ∧ Below w.heap.size w wr) (fun _ i _ => l.length - (intOf i).toNat)
  case atStart => exact ⟨0, Nat.zero_le _, rfl, by simpa using ho2, hb1.trans hb2⟩
  case round =>
    obtain ⟨k, hk, rfl, hown, hbel⟩ := hrel
    by_cases hlt : k < l.length
    · obtain ⟨ad, u, rfl, _, hx, hcell⟩ := (hL.below hbel).at_ hlt
      obtain ⟨x, hxk⟩ : ∃ x, l[k]? = some x := ⟨_, List.getElem?_eq_getElem hlt⟩
      have hux : u = intV x := by simp [hxk] at hx; exact hx.symm
      rw [hux] at hcell
      have htk : l.take (k + 1) = l.take k ++ [x] := by rw [List.take_add_one, hxk]; rfl
      have hfk : (l.take (k + 1)).flatMap enI = (l.take k).flatMap enI ++ enI x := by rw [htk]; simp
      have hsub : ((l.take (k + 1)).flatMap enI).length ≤ (l.flatMap enI).length := by
        conv => rhs; rw [← List.take_append_drop (k + 1) l, List.flatMap_append, List.length_append]
        omega
      rw [hfk, List.length_append] at hsub
      generalize hP : bs ++ enU l.length ++ (l.take k).flatMap enI = P at *
      have hPl : P.length + (enI x).length ≤ 2199023255000 := by rw [← hP]; simp only [List.length_append]; have := HES.out; omega
      have hxs := hel x (List.mem_of_getElem? hxk)
      have HP := Lib.hid hP
      have HFK := Lib.hid hfk
      have HU := Lib.hid hux
      clear hP hfk htk hsub hx hux hxk
      go_wp2_with (go_at_call 67; refine (putInt_any _ P x w.heap.size wr hown hbel.size (by omega) hxs).mono ?_; rintro e w3 ⟨v3, rfl, ho3, hb3⟩)
      have ho4 := Lib.hid (show w3.ownsRow w.heap.size 5 1 v3 (bs ++ enU l.length ++ (l.take (k + 1)).flatMap enI).length (byteCells (bs ++ enU l.length ++ (l.take (k + 1)).flatMap enI)) by
        rw [HFK.out, ← List.append_assoc, HP.out]; exact ho3)
      go_roundw
      case rel => exact ⟨k + 1, by omega, by go_num, ho4.out, hbel.trans hb3⟩
      case measure => simp [intOf]; omega
    · have hfin := Lib.hid (show wr.ownsRow w.heap.size 5 1 u5 (bs ++ enIs l).length (byteCells (bs ++ enIs l)) by
        have e : bs ++ enIs l = bs ++ enU l.length ++ (l.take k).flatMap enI := by rw [List.take_of_length_le (by omega), enIs, List.append_assoc]
        rw [e]; exact hown)
      go_wp2
      go_ret
      exact ⟨_, rfl, hfin.out, hbel⟩
end Go.Proofs.Yteiolhbjgfkdeaa.W
