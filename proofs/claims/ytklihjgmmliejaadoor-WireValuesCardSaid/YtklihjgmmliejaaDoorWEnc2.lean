/- The encoders that go through grown: AppendUint, AppendInt, putString, AppendString, AppendInts, AppendStrings. -/
import Derived.Test.YtklihjgmmliejaaDoorWEnc
import Derived.Lib.AppendStr
namespace Go.Proofs.YtklihjgmmliejaaDoor.W
set_option linter.unusedVariables false
open Go.RowKit
open Go.Lib (byteCells byteCells_length byteCells_append byteCells_snoc unzigzag zigzag uvarint_small uvarint_big)

theorem enU_len {x : Nat} (h : x < 18446744073709551616) : (enU x).length ≤ 10 := Go.Lib.uvarint_length64 h
theorem enI_len {x : Int} (h : In64 x) : (enI x).length ≤ 10 := enU_len (zig_lt h)

set_option maxRecDepth 100000 in
set_option maxHeartbeats 400000 in
theorem AppendUint_any (A : Option Addr) (c : Nat) (bs : List UInt8) (x : Nat) (w : World) (hr : Reads w w.heap.size 1 A bs.length (byteCells bs)) (hl : bs.length ≤ 1099511627776) (hx : x < 18446744073709551616) :
    Calls Tryd.prog 19 #[.slice A bs.length c, .int .u64 x] w (OwnPost w.heap.size w (bs ++ enU x)) := by
  have HC := Lib.hid (grown_any A c 10 bs w hr (by omega) (by omega))
  go_enter Tryd.func19, Tryd.ntmps19
  go_wp2_with (first
    | (go_at_call 55; refine HC.out.mono ?_; rintro e w1 ⟨v1, rfl, ho1, hb1⟩)
    | (go_at_call 54; refine (putUint_any v1 bs x w.heap.size w1 ho1 hb1.size (by omega) hx).mono ?_; rintro e w2 ⟨v2, rfl, ho2, hb2⟩))
  go_ret
  exact ⟨_, rfl, ho2, hb1.trans hb2⟩

set_option maxRecDepth 100000 in
set_option maxHeartbeats 400000 in
theorem AppendInt_any (A : Option Addr) (c : Nat) (bs : List UInt8) (x : Int) (w : World) (hr : Reads w w.heap.size 1 A bs.length (byteCells bs)) (hl : bs.length ≤ 1099511627776) (hx : In64 x) :
    Calls Tryd.prog 22 #[.slice A bs.length c, .int .i64 x] w (OwnPost w.heap.size w (bs ++ enI x)) := by
  have HC := Lib.hid (grown_any A c 10 bs w hr (by omega) (by omega))
  go_enter Tryd.func22, Tryd.ntmps22
  go_wp2_with (first
    | (go_at_call 55; refine HC.out.mono ?_; rintro e w1 ⟨v1, rfl, ho1, hb1⟩)
    | (go_at_call 56; refine (putInt_any v1 bs x w.heap.size w1 ho1 hb1.size (by omega) hx).mono ?_; rintro e w2 ⟨v2, rfl, ho2, hb2⟩))
  go_ret
  exact ⟨_, rfl, ho2, hb1.trans hb2⟩
/- LISTS -/
theorem size_list (s : ByteArray) : s.size = s.data.toList.length := by rw [Array.length_toList]; rfl
set_option maxRecDepth 100000 in
set_option maxHeartbeats 400000 in
theorem putString_any (v : Value) (l : List UInt8) (s : ByteArray) (base : Nat) (w : World) (hown : w.ownsRow base 5 1 v l.length (byteCells l)) (hbase : base ≤ w.heap.size) (hl : l.length + s.size ≤ 2199023255552) :
    Calls Tryd.prog 62 #[v, .string s] w (OwnPost base w (l ++ enS s.data.toList)) := by
  obtain ⟨i0, hi, hz0, hz1, hz2⟩ := info_parts u8Info
  have hle := enU_len (x := s.size) (by omega)
  have hsz := size_list s
  have HS := Lib.hid hsz
  clear hsz
  have HC := Lib.hid (putUint_any v l s.size base w hown hbase (by omega) (by omega))
  have hs0 : s.size ≤ 9223372036854775807 := by omega
  clear hown
  go_enter Tryd.func62, Tryd.ntmps62
  go_wp2_with (first
    | (go_at_call 54; refine HC.out.mono ?_; rintro e w1 ⟨v1, rfl, ho1, hb1⟩)
    | (at_builtin; refine Lib.wpList_append_own_string _ rfl (.tmp 9) (.tmp 10) 22 9 rfl base 5 i0 Tryd.underlying22 Tryd.underlying9 hi hz0 hz1 hz2 v1 _ _ rfl ho1 s rfl ?c1 ?c2 ?c3 ?_; rotate_right; intro v2 w2 ho2 hg2 _))
  case c1 => rw [List.length_append]; unfold maxLen; omega
  case c2 => rw [List.length_append]; omega
  case c3 => have := hb1.size; omega
  have hb2 : Below base w w2 := hb1.grown hg2 (by have := hb1.size; omega) (fun q hq => (ho1.lt q hq).1)
  have hfin : w2.ownsRow base 5 1 v2 (l ++ enS s.data.toList).length (byteCells (l ++ enS s.data.toList)) := by
    have e : l ++ enS s.data.toList = (l ++ enU s.size) ++ s.data.toList := by rw [enS, ← HS.out, List.append_assoc]
    rw [e, byteCells_append, List.length_append (bs := s.data.toList), ← HS.out]
    exact ho2
  go_ret
  exact ⟨_, rfl, hfin, hb2⟩

set_option maxRecDepth 100000 in
set_option maxHeartbeats 400000 in
theorem AppendString_any (A : Option Addr) (c : Nat) (bs : List UInt8) (s : ByteArray) (w : World) (hr : Reads w w.heap.size 1 A bs.length (byteCells bs)) (hl : bs.length ≤ 1099511627776) (hs : s.size ≤ 1099511627776) :
    Calls Tryd.prog 32 #[.slice A bs.length c, .string s] w (OwnPost w.heap.size w (bs ++ enS s.data.toList)) := by
  have hcall := grown_any A c (10 + s.size) bs w hr (by omega) (by omega)
  rw [show ((10 + s.size : Nat) : Int) = 10 + (s.size : Int) by omega] at hcall
  have HC := Lib.hid hcall
  clear hcall
  go_enter Tryd.func32, Tryd.ntmps32
  go_wp2_with (first
    | (go_at_call 55; refine HC.out.mono ?_; rintro e w1 ⟨v1, rfl, ho1, hb1⟩)
    | (go_at_call 62; refine (putString_any v1 bs s w.heap.size w1 ho1 hb1.size (by omega)).mono ?_; rintro e w2 ⟨v2, rfl, ho2, hb2⟩))
  go_ret
  exact ⟨_, rfl, ho2, hb1.trans hb2⟩
theorem AppendStr_any (A : Option Addr) (c : Nat) (bs s : List UInt8) (w : World) (hr : Reads w w.heap.size 1 A bs.length (byteCells bs)) (hl : bs.length ≤ 1099511627776) (hs : s.length ≤ 1099511627776) :
    Calls Tryd.prog 32 #[.slice A bs.length c, strV s] w (OwnPost w.heap.size w (bs ++ enS s)) := AppendString_any A c bs ⟨s.toArray⟩ w hr hl hs
theorem putStr_any (v : Value) (l s : List UInt8) (base : Nat) (w : World) (hown : w.ownsRow base 5 1 v l.length (byteCells l)) (hbase : base ≤ w.heap.size) (hl : l.length + s.length ≤ 2199023255552) :
    Calls Tryd.prog 62 #[v, strV s] w (OwnPost base w (l ++ enS s)) := putString_any v l ⟨s.toArray⟩ base w hown hbase hl
theorem put_u64 {n : Nat} : ((n : Nat) : Int) = (n : Int) := rfl

set_option maxRecDepth 100000 in
set_option maxHeartbeats 1000000 in
theorem AppendInts_any (A L : Option Addr) (c d : Nat) (bs : List UInt8) (l : List Int) (w : World) (hr : Reads w w.heap.size 1 A bs.length (byteCells bs)) (hL : Reads w w.heap.size 1 L l.length (l.map intV))
    (hl : bs.length + (enIs l).length ≤ 1099511627776) (hll : l.length ≤ 1099511627776) (hel : ∀ x ∈ l, In64 x) :
    Calls Tryd.prog 34 #[.slice A bs.length c, .slice L l.length d] w (OwnPost w.heap.size w (bs ++ enIs l)) := by
  have hcall := grown_any A c (10 + l.length) bs w hr (by omega) (by omega)
  rw [show ((10 + l.length : Nat) : Int) = 10 + (l.length : Int) by omega] at hcall
  have HC := Lib.hid hcall
  clear hcall
  have hle := enU_len (x := l.length) (by omega)
  have hes : (enIs l).length = (enU l.length).length + (l.flatMap enI).length := by unfold enIs; rw [List.length_append]
  have HES := Lib.hid hes
  clear hes
  have hfl : (l.flatMap enI).length ≤ 1099511627776 := by have := HES.out; omega
  go_enter Tryd.func34, Tryd.ntmps34
  go_wp2_with (first
    | (go_at_call 55; refine HC.out.mono ?_; rintro e w1 ⟨v1, rfl, ho1, hb1⟩)
    | (go_at_call 54; refine (putUint_any v1 bs l.length w.heap.size w1 ho1 hb1.size (by omega) (by omega)).mono ?_; rintro e w2 ⟨v2, rfl, ho2, hb2⟩))
  go_loopw [5, 19] (fun out i wr => ∃ k : Nat, k ≤ l.length ∧ i = .int .i64 k ∧ wr.ownsRow w.heap.size 5 1 out (bs ++ enU l.length ++ (l.take k).flatMap enI).length (byteCells (bs ++ enU l.length ++ (l.take k).flatMap enI)) ∧ Below w.heap.size w wr) (fun _ i _ => l.length - (intOf i).toNat)
  case atStart => exact ⟨0, Nat.zero_le _, rfl, by simpa using ho2, hb1.trans hb2⟩
  case round =>
    obtain ⟨k, hk, rfl, hown, hbel⟩ := hrel
    by_cases hlt : k < l.length
    · obtain ⟨ad, u, rfl, _, hx, hcell⟩ := (hL.below hbel).at_ hlt
      obtain ⟨x, hxk⟩ : ∃ x, l[k]? = some x := ⟨_, List.getElem?_eq_getElem hlt⟩
      have hux : u = intV x := by simp [hxk] at hx; exact hx.symm
      rw [hux] at hcell
      have htk : l.take (k + 1) = l.take k ++ [x] := by rw [List.take_add_one, hxk]; rfl
      have hfk : (l.take (k + 1)).flatMap enI = (l.take k).flatMap enI ++ enI x := by rw [htk]; simp
      have hsub : ((l.take (k + 1)).flatMap enI).length ≤ (l.flatMap enI).length := by
        conv => rhs; rw [← List.take_append_drop (k + 1) l, List.flatMap_append, List.length_append]
        omega
      rw [hfk, List.length_append] at hsub
      generalize hP : bs ++ enU l.length ++ (l.take k).flatMap enI = P at *
      have hPl : P.length + (enI x).length ≤ 2199023255000 := by rw [← hP]; simp only [List.length_append]; have := HES.out; omega
      have hxs := hel x (List.mem_of_getElem? hxk)
      have HP := Lib.hid hP
      have HFK := Lib.hid hfk
      have HU := Lib.hid hux
      clear hP hfk htk hsub hx hux hxk
      go_wp2_with (go_at_call 56; refine (putInt_any _ P x w.heap.size wr hown hbel.size (by omega) hxs).mono ?_; rintro e w3 ⟨v3, rfl, ho3, hb3⟩)
      have ho4 := Lib.hid (show w3.ownsRow w.heap.size 5 1 v3 (bs ++ enU l.length ++ (l.take (k + 1)).flatMap enI).length (byteCells (bs ++ enU l.length ++ (l.take (k + 1)).flatMap enI)) by
        rw [HFK.out, ← List.append_assoc, HP.out]; exact ho3)
      go_roundw
      case rel => exact ⟨k + 1, by omega, by go_num, ho4.out, hbel.trans hb3⟩
      case measure => simp [intOf]; omega
    · have hfin := Lib.hid (show wr.ownsRow w.heap.size 5 1 u5 (bs ++ enIs l).length (byteCells (bs ++ enIs l)) by
        have e : bs ++ enIs l = bs ++ enU l.length ++ (l.take k).flatMap enI := by rw [List.take_of_length_le (by omega), enIs, List.append_assoc]
        rw [e]; exact hown)
      go_wp2
      go_ret
      exact ⟨_, rfl, hfin.out, hbel⟩

set_option maxRecDepth 100000 in
set_option maxHeartbeats 1000000 in
theorem AppendStrings_any (A L : Option Addr) (c d : Nat) (bs : List UInt8) (l : List (List UInt8)) (w : World) (hr : Reads w w.heap.size 1 A bs.length (byteCells bs)) (hL : Reads w w.heap.size 1 L l.length (l.map strV))
    (hl : bs.length + (enSs l).length ≤ 1099511627776) (hll : l.length ≤ 1099511627776) :
    Calls Tryd.prog 36 #[.slice A bs.length c, .slice L l.length d] w (OwnPost w.heap.size w (bs ++ enSs l)) := by
  have hcall := grown_any A c (10 + l.length) bs w hr (by omega) (by omega)
  rw [show ((10 + l.length : Nat) : Int) = 10 + (l.length : Int) by omega] at hcall
  have HC := Lib.hid hcall
  clear hcall
  have hle := enU_len (x := l.length) (by omega)
  have hes : (enSs l).length = (enU l.length).length + (l.flatMap enS).length := by unfold enSs; rw [List.length_append]
  have HES := Lib.hid hes
  clear hes
  have hfl : (l.flatMap enS).length ≤ 1099511627776 := by have := HES.out; omega
  go_enter Tryd.func36, Tryd.ntmps36
  go_wp2_with (first
    | (go_at_call 55; refine HC.out.mono ?_; rintro e w1 ⟨v1, rfl, ho1, hb1⟩)
    | (go_at_call 54; refine (putUint_any v1 bs l.length w.heap.size w1 ho1 hb1.size (by omega) (by omega)).mono ?_; rintro e w2 ⟨v2, rfl, ho2, hb2⟩))
  go_loopw [5, 19] (fun out i wr => ∃ k : Nat, k ≤ l.length ∧ i = .int .i64 k ∧ wr.ownsRow w.heap.size 5 1 out (bs ++ enU l.length ++ (l.take k).flatMap enS).length (byteCells (bs ++ enU l.length ++ (l.take k).flatMap enS)) ∧ Below w.heap.size w wr) (fun _ i _ => l.length - (intOf i).toNat)
  case atStart => exact ⟨0, Nat.zero_le _, rfl, by simpa using ho2, hb1.trans hb2⟩
  case round =>
    obtain ⟨k, hk, rfl, hown, hbel⟩ := hrel
    by_cases hlt : k < l.length
    · obtain ⟨ad, u, rfl, _, hx, hcell⟩ := (hL.below hbel).at_ hlt
      obtain ⟨x, hxk⟩ : ∃ x, l[k]? = some x := ⟨_, List.getElem?_eq_getElem hlt⟩
      have hux : u = strV x := by simp [hxk] at hx; exact hx.symm
      rw [hux] at hcell
      have htk : l.take (k + 1) = l.take k ++ [x] := by rw [List.take_add_one, hxk]; rfl
      have hfk : (l.take (k + 1)).flatMap enS = (l.take k).flatMap enS ++ enS x := by rw [htk]; simp
      have hsub : ((l.take (k + 1)).flatMap enS).length ≤ (l.flatMap enS).length := by
        conv => rhs; rw [← List.take_append_drop (k + 1) l, List.flatMap_append, List.length_append]
        omega
      rw [hfk, List.length_append] at hsub
      generalize hP : bs ++ enU l.length ++ (l.take k).flatMap enS = P at *
      have hPl : P.length + (enS x).length ≤ 2199023255000 := by rw [← hP]; simp only [List.length_append]; have := HES.out; omega
      have hxs := (show x.length ≤ (enS x).length by simp [enS])
      have HP := Lib.hid hP
      have HFK := Lib.hid hfk
      have HU := Lib.hid hux
      clear hP hfk htk hsub hx hux hxk
      go_wp2_with (go_at_call 62; refine (putStr_any _ P x w.heap.size wr hown hbel.size (by omega) ).mono ?_; rintro e w3 ⟨v3, rfl, ho3, hb3⟩)
      have ho4 := Lib.hid (show w3.ownsRow w.heap.size 5 1 v3 (bs ++ enU l.length ++ (l.take (k + 1)).flatMap enS).length (byteCells (bs ++ enU l.length ++ (l.take (k + 1)).flatMap enS)) by
        rw [HFK.out, ← List.append_assoc, HP.out]; exact ho3)
      go_roundw
      case rel => exact ⟨k + 1, by omega, by go_num, ho4.out, hbel.trans hb3⟩
      case measure => simp [intOf]; omega
    · have hfin := Lib.hid (show wr.ownsRow w.heap.size 5 1 u5 (bs ++ enSs l).length (byteCells (bs ++ enSs l)) by
        have e : bs ++ enSs l = bs ++ enU l.length ++ (l.take k).flatMap enS := by rw [List.take_of_length_le (by omega), enSs, List.append_assoc]
        rw [e]; exact hown)
      go_wp2
      go_ret
      exact ⟨_, rfl, hfin.out, hbel⟩
end Go.Proofs.YtklihjgmmliejaaDoor.W
