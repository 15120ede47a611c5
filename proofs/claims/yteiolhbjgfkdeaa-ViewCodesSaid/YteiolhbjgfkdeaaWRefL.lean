/- The reference's lists: their encoders and decoders. -/
import Derived.Test.YteiolhbjgfkdeaaWRefT
namespace Go.Proofs.Yteiolhbjgfkdeaa.W
set_option linter.unusedVariables false
open Go.RowKit
open Go.Lib (byteCells byteCells_length byteCells_append byteCells_snoc unzigzag zigzag uvarint_small uvarint_big)

set_option maxRecDepth 100000 in
set_option maxHeartbeats 1000000 in
theorem refIntsList_any (L : Option Addr) (d : Nat) (l : List (Int)) (w : World) (hL : Reads w w.heap.size 1 L l.length (l.map intV))
    (hl : (enIs l).length ≤ 1099511627776) (hll : l.length ≤ 1099511627776) (hel : ∀ x ∈ l, In64 x) :
    Calls Try.prog 60 #[.slice L l.length d] w (OwnPost w.heap.size w (enIs l)) := by
  have hle := enU_len (x := l.length) (by omega)
  have hes : (enIs l).length = (enU l.length).length + (l.flatMap enI).length := by unfold enIs; rw [List.length_append]
  have HES := Lib.hid hes
  clear hes
  have hfl : (l.flatMap enI).length ≤ 1099511627776 := by have := HES.out; omega
  have HC := Lib.hid (refUint_any l.length w (by omega))
  go_enter Try.func60, Try.ntmps60
  go_wp2_with (go_at_call 59; refine HC.out.mono ?_; rintro e w1 ⟨v1, rfl, ho1, hb1⟩)
  go_loopw [3, 4] (fun out i wr => ∃ k : Nat, k ≤ l.length ∧ i = .int .i64 k ∧ wr.ownsRow w.heap.size 5 1 out (enU l.length ++ (l.take k).flatMap enI).length (byteCells (enU l.length ++ (l.take k).flatMap enI)) ∧ Below w.heap.size w wr) (fun _ i _ => l.length - (intOf i).toNat)
  case atStart => exact ⟨0, Nat.zero_le _, rfl, by simpa using ho1, hb1⟩
  case round =>
    obtain ⟨k, hk, rfl, hown, hbel⟩ := hrel
    by_cases hlt : k < l.length
    · obtain ⟨ad, u, rfl, _, hx, hcell⟩ := (hL.below hbel).at_ hlt
      obtain ⟨x, hxk⟩ : ∃ x, l[k]? = some x := ⟨_, List.getElem?_eq_getElem hlt⟩
      have hux : u = intV x := by simp [hxk] at hx; exact hx.symm
      rw [hux] at hcell
      have htk : l.take (k + 1) = l.take k ++ [x] := by rw [List.take_add_one, hxk]; rfl
      have hfk : (l.take (k + 1)).flatMap enI = (l.take k).flatMap enI ++ enI x := by rw [htk]; simp
      have hsub : ((l.take (k + 1)).flatMap enI).length ≤ (l.flatMap enI).length := by
        conv => rhs; rw [← List.take_append_drop (k + 1) l, List.flatMap_append, List.length_append]
        omega
      rw [hfk, List.length_append] at hsub
      generalize hP : enU l.length ++ (l.take k).flatMap enI = P at *
      have hPl : P.length + (enI x).length ≤ 2199023255000 := by rw [← hP]; simp only [List.length_append]; have := HES.out; omega
      have hxs := hel x (List.mem_of_getElem? hxk)
      have CX := Lib.hid (fun W => (refInt_any x W hxs).mono fun _ _ h => h.to (enI x) (enI x).length rfl rfl)
      have hlt2 : (k : Int) < (l.length : Int) := by omega
      have HP := Lib.hid hP
      have HFK := Lib.hid hfk
      clear hP hfk htk hsub hx hux hxk
      go_wp2_with (first
        | (go_at_call 68; refine (CX.out wr).mono ?_; rintro e w2 ⟨A2, c2, rfl, hc2, ho2, hr2, hq2⟩; (have hb2 : Below w.heap.size w w2 := bstep hbel hq2); (have O2 := Lib.hid (own_below hown hq2)))
        | (at_builtin; refine wp_append_bytes _ rfl (.tmp 15) (.tmp 20) rfl w.heap.size _ P (enI x) _ _ _ _ rfl O2.out rfl hr2 (by omega) hb2.size ?_; intro v3 w3 ho3 hq3))
      have ho4 := Lib.hid (show w3.ownsRow w.heap.size 5 1 v3 (enU l.length ++ (l.take (k + 1)).flatMap enI).length (byteCells (enU l.length ++ (l.take (k + 1)).flatMap enI)) by
        rw [HFK.out, ← List.append_assoc, HP.out]; exact ho3)
      go_roundw
      case rel => exact ⟨k + 1, by omega, by go_num, ho4.out, hb2.trans hq3⟩
      case measure => simp [intOf]; omega
    · have hfin := Lib.hid (show wr.ownsRow w.heap.size 5 1 u3 (enIs l).length (byteCells (enIs l)) by
        have e : enIs l = enU l.length ++ (l.take k).flatMap enI := by rw [List.take_of_length_le (by omega), enIs]
        rw [e]; exact hown)
      go_wp2
      go_ret
      exact ⟨_, rfl, hfin.out, hbel⟩
set_option maxRecDepth 100000 in
set_option maxHeartbeats 1000000 in
theorem refReadIntList_any (A : Option Addr) (c : Nat) (bs : List UInt8) (max : Int) (w : World) (hr : Reads w w.heap.size 1 A bs.length (byteCells bs)) (hn : bs.length ≤ 1099511627776) (hcap : bs.length ≤ c) (hmax : In64 max) :
    Calls Try.prog 56 #[.slice A bs.length c, .int .i64 max] w
      (ListPost w 3 ((rdIs bs max).1.map intV) (rdIs bs max).2.1 (rdIs bs max).2.2) := by
  have hc := refReadUint_any A c w.heap.size bs w hr hn
  obtain ⟨⟨v, n, e⟩, hu⟩ : ∃ r, rdU bs = r := ⟨_, rfl⟩
  rw [hu] at hc
  have HC := Lib.hid hc
  obtain ⟨hm1, hm2⟩ := hmax
  clear hc
  obtain ⟨i0, hi, hz0, hz1, hz2⟩ := info_parts intInfo
  have hb0 := Below.refl w.heap.size w
  by_cases hneg : max < 0
  · have HR := Lib.hid (show rdIs bs max = ([], 0, 1) by unfold rdIs rdL rdLen; simp [hneg])
    clear hu
    go_enter Try.func56, Try.ntmps56
    go_wp2_with fail
    go_ret3
    rw [HR.out]
    exact ⟨_, rfl, World.ownsRow_nil _ _ _ _, hb0⟩
  by_cases he : e = 0
  · subst he
    obtain ⟨hv, hn1, hn2, hnl⟩ := rdU_used hu
    by_cases hgt : max < (v : Int)
    · have HR := Lib.hid (show rdIs bs max = ([], 0, 5) by unfold rdIs rdL rdLen; rw [if_neg hneg, hu]; simp [hgt])
      clear hu
      go_enter Try.func56, Try.ntmps56
      go_wp2_with (go_at_call 55; refine HC.out.mono ?_; rintro e w' ⟨rfl, rfl⟩)
      go_ret3
      rw [HR.out]
      exact ⟨_, rfl, World.ownsRow_nil _ _ _ _, hb0⟩
    have hl : rdLen bs max = (v, n, 0) := by unfold rdLen; rw [if_neg hneg, hu]; simp [hgt]
    have HR := Lib.hid (show rdIs bs max = rdLoop rdI bs v [] n by unfold rdIs rdL; rw [hl]; simp)
    clear hu hl
    go_enter Try.func56, Try.ntmps56
    go_wp2_with (go_at_call 55; refine HC.out.mono ?_; rintro e w' ⟨rfl, rfl⟩)
    go_loopw [8, 10, 11] (fun p out i wr => ∃ (k m : Nat) (l : List (Int)), k ≤ v ∧ m ≤ bs.length ∧ l.length ≤ m ∧ i = .int .u64 k ∧ p = .int .i64 m ∧ wr.ownsRow w.heap.size 3 1 out l.length (l.map intV) ∧ Below w.heap.size w wr ∧ rdLoop rdI bs (v - k) l m = rdIs bs max) (fun _ _ i _ => v - (intOf i).toNat)
    case atStart => exact ⟨0, n, [], Nat.zero_le _, hnl, by simp, rfl, rfl, World.ownsRow_nil _ _ _ _, hb0, HR.out.symm⟩
    case round =>
      obtain ⟨k, m, l, hk, hm, hlm, rfl, rfl, hown, hbel, hres⟩ := hrel
      obtain ⟨wr', rfl⟩ : ∃ x, x = wr := ⟨_, rfl⟩
      by_cases hlt : k < v
      · obtain ⟨k', hk'⟩ : ∃ k', v - k = k' + 1 := ⟨v - k - 1, by omega⟩
        obtain ⟨A', hs', hrr⟩ := slice_from (k := m) (ki := (m : Int)) (hr.below hbel) hcap hm rfl
        obtain ⟨⟨x, j, e⟩, hx⟩ : ∃ r, rdI (bs.drop m) = r := ⟨_, rfl⟩
        rw [hk', rdLoop, hx] at hres
        have hdl : (bs.drop m).length = bs.length - m := List.length_drop
        rw [← hdl] at hrr
        have hcall := refReadInt_any A' (c - m) w.heap.size (bs.drop m) wr' hrr (by simp; omega)
        rw [hdl] at hcall
        skip
        rw [hx] at hcall
        have HCALL := Lib.hid hcall
        have hlt2 : (k : Int) < (v : Int) := by omega
        clear hcall
        by_cases he : e = 0
        · subst he
          obtain ⟨hx1, hx2, _, hx3⟩ := rdI_used hx
          rw [hdl] at hx3
          simp only [ne_eq, not_true_eq_false, if_false] at hres
          have HR2 := Lib.hid hres
          have hbs := hbel.size
          have HK := Lib.hid hk'
          clear hres hx hk' hdl hrr
          go_wp2_with (first
            | (go_at_call 64; refine HCALL.out.mono ?_; rintro e w' ⟨rfl, rfl⟩)
            | (at_builtin; refine wpList_append_own _ rfl (.tmp 46) (.tmp 48) 22 rfl w.heap.size 3 i0 _ 1 8 Try.underlying22 hi hz0 hz1 hz2 rfl (by decide) _ _ _ rfl (hown.alloc _) ⟨wr'.heap.size, 0, none⟩ 1 1 [intV x] rfl rfl ?c1 ?c2 ?c3 ?c4 ?c5 ?_))
          case c1 => intro q u hq; match q, hq with | 0, hq => simp at hq; subst hq; simp [Addr.add, intV]
          case c2 => intro u hu; simp at hu; subst hu; rfl
          case c3 => unfold maxLen; omega
          case c4 => omega
          case c5 => simp; omega
          intro v' w1 hown' hgrow _
          have hbel' : Below w.heap.size w w1 := (hbel.alloc hbs _).grown hgrow (by simp; omega) (fun q hq => (hown.lt q hq).1)
          have hown2 : w1.ownsRow w.heap.size 3 1 v' (l ++ [x]).length ((l ++ [x]).map intV) := by simpa using hown'
          clear hown' hgrow hown
          go_wp2
          go_roundw
          case rel => exact ⟨k + 1, m + j, l ++ [x], by omega, by omega, by simp; omega, by go_num, by go_num, hown2, hbel', by rw [show v - (k + 1) = k' by have := HK.out; omega]; exact HR2.out⟩
          case measure => simp [intOf]; omega
        · have HR2 := Lib.hid (show rdIs bs max = ([], 0, e) by rw [← hres]; simp [he])
          have hb : ((e : Int) != 0) = true := by simp; omega
          clear he hres hx
          go_wp2_with (go_at_call 64; refine HCALL.out.mono ?_; rintro e w' ⟨rfl, rfl⟩)
          go_ret3
          rw [HR2.out]
          exact ⟨_, rfl, World.ownsRow_nil _ _ _ _, hbel⟩
      · have HR2 := Lib.hid (show rdIs bs max = (l, m, 0) by rw [← hres, show v - k = 0 by omega]; rfl)
        have hlt2 : ¬ (k : Int) < (v : Int) := by omega
        clear hres
        go_wp2
        go_ret3
        rw [HR2.out]
        exact ⟨_, rfl, by simpa using hown, hbel⟩
  · have HR := Lib.hid (show rdIs bs max = ([], 0, e) by unfold rdIs rdL rdLen; rw [if_neg hneg, hu]; simp [he])
    have hb : ((e : Int) != 0) = true := by simp; omega
    clear he hu
    go_enter Try.func56, Try.ntmps56
    go_wp2_with (go_at_call 55; refine HC.out.mono ?_; rintro e w' ⟨rfl, rfl⟩)
    go_ret3
    rw [HR.out]
    exact ⟨_, rfl, World.ownsRow_nil _ _ _ _, hb0⟩
end Go.Proofs.Yteiolhbjgfkdeaa.W
