/- The reference's String, ReadString, SameInts and SameStrings. -/
import Derived.Test.YtklihjgmmliejaaDoorWRefS
import Derived.Test.YtklihjgmmliejaaDoorWRefI
namespace Go.Proofs.YtklihjgmmliejaaDoor.W
set_option linter.unusedVariables false
open Go.RowKit
open Go.Lib (byteCells byteCells_length byteCells_append byteCells_snoc unzigzag zigzag uvarint_small uvarint_big)

set_option maxRecDepth 100000 in
set_option maxHeartbeats 400000 in
theorem refString_any (s : ByteArray) (w : World) (hs : s.size ≤ 1099511627776) :
    Calls Tryd.prog 33 #[.string s] w (OwnPost w.heap.size w (enS s.data.toList)) := by
  obtain ⟨i0, hi, hz0, hz1, hz2⟩ := info_parts u8Info
  have hle := enU_len (x := s.size) (by omega)
  have HS := Lib.hid (size_list s)
  have HC := Lib.hid (refUint_any s.size w (by omega))
  have hs0 : s.size ≤ 9223372036854775807 := by omega
  go_enter Tryd.func33, Tryd.ntmps33
  go_wp2_with (first
    | (go_at_call 21; refine HC.out.mono ?_; rintro e w1 ⟨v1, rfl, ho1, hb1⟩)
    | (at_builtin; refine Lib.wpList_append_own_string _ rfl (.tmp 6) (.tmp 7) 22 9 rfl w.heap.size 5 i0 Tryd.underlying22 Tryd.underlying9 hi hz0 hz1 hz2 v1 _ _ rfl ho1 s rfl ?c1 ?c2 ?c3 ?_; rotate_right; intro v2 w2 ho2 hg2 _))
  case c1 => unfold maxLen; omega
  case c2 => omega
  case c3 => have := hb1.size; omega
  have hb2 : Below w.heap.size w w2 := hb1.grown hg2 (by have := hb1.size; omega) (fun q hq => (ho1.lt q hq).1)
  have hfin : w2.ownsRow w.heap.size 5 1 v2 (enS s.data.toList).length (byteCells (enS s.data.toList)) := by
    rw [enS, ← HS.out, byteCells_append, List.length_append, ← HS.out]
    exact ho2
  go_ret
  exact ⟨_, rfl, hfin, hb2⟩
theorem refStr_any (s : List UInt8) (w : World) (hs : s.length ≤ 1099511627776) :
    Calls Tryd.prog 33 #[strV s] w (OwnPost w.heap.size w (enS s)) := refString_any ⟨s.toArray⟩ w hs

set_option maxRecDepth 100000 in
set_option maxHeartbeats 400000 in
theorem refReadString_any (A : Option Addr) (c B : Nat) (bs : List UInt8) (max : Int) (w : World) (hr : Reads w B 1 A bs.length (byteCells bs)) (hn : bs.length ≤ 1099511627776) (hcap : bs.length ≤ c) (hmax : In64 max) :
    Calls Tryd.prog 25 #[.slice A bs.length c, .int .i64 max] w fun e w' =>
      e = .returned (.tuple #[.string ⟨(rdS bs max).1.toArray⟩, .int .i64 (rdS bs max).2.1, .int .i64 (rdS bs max).2.2]) ∧ w = w' := by
  have hc := refReadUint_any A c B bs w hr hn
  obtain ⟨⟨v, n, e⟩, hu⟩ : ∃ r, rdU bs = r := ⟨_, rfl⟩
  rw [hu] at hc
  have HC := Lib.hid hc
  obtain ⟨hm1, hm2⟩ := hmax
  clear hc
  by_cases hneg : max < 0
  · have HR := Lib.hid (show rdS bs max = ([], 0, 1) by unfold rdS rdLen; simp [hneg])
    clear hu
    go_enter Tryd.func25, Tryd.ntmps25
    go_wp2_with fail
    go_ret3
    rw [HR.out]
    exact ⟨rfl, rfl⟩
  by_cases he : e = 0
  · subst he
    obtain ⟨hv, hn1, hn2, hnl⟩ := rdU_used hu
    by_cases hgt : max < (v : Int)
    · have HR := Lib.hid (show rdS bs max = ([], 0, 5) by unfold rdS rdLen; rw [if_neg hneg, hu]; simp [hgt])
      clear hu
      go_enter Tryd.func25, Tryd.ntmps25
      go_wp2_with (go_at_call 15; refine HC.out.mono ?_; rintro e w' ⟨rfl, rfl⟩)
      go_ret3
      rw [HR.out]
      exact ⟨rfl, rfl⟩
    have hl : rdLen bs max = (v, n, 0) := by unfold rdLen; rw [if_neg hneg, hu]; simp [hgt]
    by_cases hshort : bs.length - n < v
    · have HR := Lib.hid (show rdS bs max = ([], 0, 2) by unfold rdS; rw [hl]; simp [hshort])
      have hs2 : (bs.length : Int) - (n : Int) < (v : Int) := by omega
      clear hu hl
      go_enter Tryd.func25, Tryd.ntmps25
      go_wp2_with (go_at_call 15; refine HC.out.mono ?_; rintro e w' ⟨rfl, rfl⟩)
      go_ret3
      rw [HR.out]
      exact ⟨rfl, rfl⟩
    · have HR := Lib.hid (show rdS bs max = ((bs.drop n).take v, n + v, 0) by unfold rdS; rw [hl]; simp [hshort])
      have hs2 : ¬ (bs.length : Int) - (n : Int) < (v : Int) := by omega
      have w1 : IntKind.i64.wrap (v : Int) = (v : Int) := IntWalk.i64_in _ (by omega)
      have w2 : IntKind.i64.wrap ((n : Int) + (v : Int)) = (n : Int) + (v : Int) := IntWalk.i64_in _ (by omega)
      obtain ⟨A6, hs6, hr6⟩ := slice_mid (i := n) (j := n + v) (ii := (n : Int)) (ij := (n : Int) + (v : Int)) hr hcap (by omega) (by omega) rfl (by omega)
      have hv6 : n + v - n = v := by omega
      rw [hv6] at hs6 hr6
      have hcv := run_str (P := Tryd.prog) (w := w) Tryd.underlying22 Tryd.underlying5 Tryd.underlying9 hr6 (c - n)
      clear hu hl hr6
      go_enter Tryd.func25, Tryd.ntmps25
      go_wp2_with (go_at_call 15; refine HC.out.mono ?_; rintro e w' ⟨rfl, rfl⟩)
      go_ret3
      rw [HR.out]
      exact ⟨rfl, rfl⟩
  · have HR := Lib.hid (show rdS bs max = ([], 0, e) by unfold rdS rdLen; rw [if_neg hneg, hu]; simp [he])
    have hb : ((e : Int) != 0) = true := by simp; omega
    clear he hu
    go_enter Tryd.func25, Tryd.ntmps25
    go_wp2_with (go_at_call 15; refine HC.out.mono ?_; rintro e w' ⟨rfl, rfl⟩)
    go_ret3
    rw [HR.out]
    exact ⟨rfl, rfl⟩
set_option maxRecDepth 100000 in
set_option maxHeartbeats 1000000 in
theorem refSameInts_any (A A' : Option Addr) (c c' B B' : Nat) (xs ys : List Int) (w : World) (ha : Reads w B 1 A xs.length (xs.map intV)) (hb : Reads w B' 1 A' ys.length (ys.map intV)) (hl : xs.length ≤ 1099511627776) (hl' : ys.length ≤ 1099511627776) :
    Calls Tryd.prog 30 #[.slice A xs.length c, .slice A' ys.length c'] w fun e w' => e = .returned (.bool (decide (xs = ys))) ∧ ∃ k, w' = w.drewN k := by
  by_cases hlen : xs.length = ys.length
  · have hz : ((xs.length : Int) != (ys.length : Int)) = false := bneF (by omega)
    have HL := Lib.hid hlen
    obtain ⟨n, hn⟩ : ∃ n, n = ys.length := ⟨_, rfl⟩
    rw [hlen] at ha hl hz ⊢
    rw [← hn] at ha hb hl hl' hz ⊢
    have HN := Lib.hid hn
    clear hlen hn
    go_enter Tryd.func30, Tryd.ntmps30
    go_wp2
    go_loopw [5] (fun i wr => ∃ k m : Nat, k ≤ n ∧ i = .int .i64 k ∧ wr = w.drewN m ∧ xs.take k = ys.take k) (fun i _ => n - (intOf i).toNat)
    case atStart => exact ⟨0, 0, Nat.zero_le _, rfl, rfl, by simp⟩
    case round =>
      obtain ⟨k, m, hk, rfl, rfl, htk⟩ := hrel
      by_cases hlt : k < n
      · obtain ⟨ad, u, rfl, _, hx, hc⟩ := ha.at_ hlt
        obtain ⟨bd, u', rfl, _, hx', hc'⟩ := hb.at_ hlt
        obtain ⟨x, hxk⟩ : ∃ x, xs[k]? = some x := ⟨_, List.getElem?_eq_getElem (by have := HL.out; have := HN.out; omega)⟩
        obtain ⟨y, hyk⟩ : ∃ y, ys[k]? = some y := ⟨_, List.getElem?_eq_getElem (by have := HN.out; omega)⟩
        have e1 : u = intV x := by simp [hxk] at hx; exact hx.symm
        have e2 : u' = intV y := by simp [hyk] at hx'; exact hx'.symm
        rw [e1] at hc
        rw [e2] at hc'
        have HXK := Lib.hid hxk
        have HYK := Lib.hid hyk
        have HTK := Lib.hid htk
        have hlt2 : (k : Int) < (n : Int) := by omega
        clear e1 e2 hx hx' hxk hyk htk
        dsimp only [intV] at hc hc'
        by_cases hxy : x = y
        · subst hxy
          have HT2 := Lib.hid (take_eq_of HTK.out HXK.out HYK.out rfl)
          go_wp2_with fail
          go_quiet (fail)
          go_wp2_with fail
          go_roundw
          case rel => exact ⟨k + 1, _, by omega, by go_num, rfl, HT2.out⟩
          case measure => simp [intOf]; omega
        · have hz2 : (x != y) = true := bneT hxy
          have HNE := Lib.hid (ne_of_get HXK.out HYK.out hxy)
          have hd := Lib.hid (show decide (xs = ys) = false by simpa using HNE.out)
          clear hxy
          go_wp2_with fail
          go_quiet (fail)
          go_wp2_with fail
          go_ret
          rw [hd.out]
          exact ⟨rfl, _, World.drewN_drewN _ _ _⟩
      · have hd := Lib.hid (show decide (xs = ys) = true by
          have h1 := HL.out
          have h2 := HN.out
          rw [List.take_of_length_le (by omega), List.take_of_length_le (by omega)] at htk
          simpa using htk)
        clear htk
        go_wp2
        go_ret
        rw [hd.out]
        exact ⟨rfl, _, rfl⟩
  · have hz : ((xs.length : Int) != (ys.length : Int)) = true := bneT (by omega)
    have hd := Lib.hid (show decide (xs = ys) = false by
      rw [decide_eq_false_iff_not]; intro h; exact hlen (by rw [h]))
    clear hlen
    go_enter Tryd.func30, Tryd.ntmps30
    go_wp2
    go_ret
    rw [hd.out]
    exact ⟨rfl, 0, rfl⟩

set_option maxRecDepth 100000 in
set_option maxHeartbeats 1000000 in
theorem refSameStrings_any (A A' : Option Addr) (c c' B B' : Nat) (xs ys : List (List UInt8)) (w : World) (ha : Reads w B 1 A xs.length (xs.map strV)) (hb : Reads w B' 1 A' ys.length (ys.map strV)) (hl : xs.length ≤ 1099511627776) (hl' : ys.length ≤ 1099511627776) :
    Calls Tryd.prog 31 #[.slice A xs.length c, .slice A' ys.length c'] w fun e w' => e = .returned (.bool (decide (xs = ys))) ∧ ∃ k, w' = w.drewN k := by
  by_cases hlen : xs.length = ys.length
  · have hz : ((xs.length : Int) != (ys.length : Int)) = false := bneF (by omega)
    have HL := Lib.hid hlen
    obtain ⟨n, hn⟩ : ∃ n, n = ys.length := ⟨_, rfl⟩
    rw [hlen] at ha hl hz ⊢
    rw [← hn] at ha hb hl hl' hz ⊢
    have HN := Lib.hid hn
    clear hlen hn
    go_enter Tryd.func31, Tryd.ntmps31
    go_wp2
    go_loopw [5] (fun i wr => ∃ k m : Nat, k ≤ n ∧ i = .int .i64 k ∧ wr = w.drewN m ∧ xs.take k = ys.take k) (fun i _ => n - (intOf i).toNat)
    case atStart => exact ⟨0, 0, Nat.zero_le _, rfl, rfl, by simp⟩
    case round =>
      obtain ⟨k, m, hk, rfl, rfl, htk⟩ := hrel
      by_cases hlt : k < n
      · obtain ⟨ad, u, rfl, _, hx, hc⟩ := ha.at_ hlt
        obtain ⟨bd, u', rfl, _, hx', hc'⟩ := hb.at_ hlt
        obtain ⟨x, hxk⟩ : ∃ x, xs[k]? = some x := ⟨_, List.getElem?_eq_getElem (by have := HL.out; have := HN.out; omega)⟩
        obtain ⟨y, hyk⟩ : ∃ y, ys[k]? = some y := ⟨_, List.getElem?_eq_getElem (by have := HN.out; omega)⟩
        have e1 : u = strV x := by simp [hxk] at hx; exact hx.symm
        have e2 : u' = strV y := by simp [hyk] at hx'; exact hx'.symm
        rw [e1] at hc
        rw [e2] at hc'
        have HXK := Lib.hid hxk
        have HYK := Lib.hid hyk
        have HTK := Lib.hid htk
        have hlt2 : (k : Int) < (n : Int) := by omega
        clear e1 e2 hx hx' hxk hyk htk
        dsimp only [strV] at hc hc'
        by_cases hxy : x = y
        · subst hxy
          have HT2 := Lib.hid (take_eq_of HTK.out HXK.out HYK.out rfl)
          go_wp2_with fail
          go_quiet (fail)
          go_wp2_with fail
          go_roundw
          case rel => exact ⟨k + 1, _, by omega, by go_num, rfl, HT2.out⟩
          case measure => simp [intOf]; omega
        · have hz2 : (x == y) = false := by simpa using hxy
          have hz3 : (x != y) = true := by simpa using hxy
          have HNE := Lib.hid (ne_of_get HXK.out HYK.out hxy)
          have hd := Lib.hid (show decide (xs = ys) = false by simpa using HNE.out)
          clear hxy
          go_wp2_with fail
          go_quiet (fail)
          go_wp2_with fail
          go_ret
          rw [hd.out]
          exact ⟨rfl, _, World.drewN_drewN _ _ _⟩
      · have hd := Lib.hid (show decide (xs = ys) = true by
          have h1 := HL.out
          have h2 := HN.out
          rw [List.take_of_length_le (by omega), List.take_of_length_le (by omega)] at htk
          simpa using htk)
        clear htk
        go_wp2
        go_ret
        rw [hd.out]
        exact ⟨rfl, _, rfl⟩
  · have hz : ((xs.length : Int) != (ys.length : Int)) = true := bneT (by omega)
    have hd := Lib.hid (show decide (xs = ys) = false by
      rw [decide_eq_false_iff_not]; intro h; exact hlen (by rw [h]))
    clear hlen
    go_enter Tryd.func31, Tryd.ntmps31
    go_wp2
    go_ret
    rw [hd.out]
    exact ⟨rfl, 0, rfl⟩

end Go.Proofs.YtklihjgmmliejaaDoor.W
