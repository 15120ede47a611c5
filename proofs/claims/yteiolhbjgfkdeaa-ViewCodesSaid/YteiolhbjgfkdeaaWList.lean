/- The decoders of lists: wire.list at int and string, IntList, StringList. -/
import Derived.Test.YteiolhbjgfkdeaaWDec
namespace Go.Proofs.Yteiolhbjgfkdeaa.W
open Go.RowKit
open Go.Lib (byteCells byteCells_length unzigzag)

def strV (l : List UInt8) : Value := .string ⟨l.toArray⟩
def intV (n : Int) : Value := .int .i64 n
theorem intInfo : (Try.prog.info? 3).map (fun i => (i.zero, i.size, i.bytes)) = some (some (.int .i64 0), 1, 8) := by kernel_rfl
theorem strInfo : (Try.prog.info? 9).map (fun i => (i.zero, i.size, i.bytes)) = some (some (.string ByteArray.empty), 1, 16) := by kernel_rfl
theorem u8Info : (Try.prog.info? 5).map (fun i => (i.zero, i.size, i.bytes)) = some (some (.int .u8 0), 1, 1) := by kernel_rfl
theorem rdI_used {b : List UInt8} {v : Int} {n : Nat} (h : rdI b = (v, n, 0)) : In64 v ∧ 1 ≤ n ∧ n ≤ 10 ∧ n ≤ b.length := by
  unfold rdI at h
  by_cases he : (rdU b).2.2 = 0
  · rw [if_pos he] at h
    simp only [Prod.mk.injEq, and_true] at h
    obtain ⟨h1, h2, h3, h4⟩ := rdU_used (b := b) (v := (rdU b).1) (n := (rdU b).2.1) (by rw [← he])
    exact ⟨h.1 ▸ unzig_in h1, h.2 ▸ h2, h.2 ▸ h3, h.2 ▸ h4⟩
  · rw [if_neg he] at h
    simp at h
    exact absurd h.2.2 he
theorem rdS_ok {b s : List UInt8} {max : Int} {n : Nat} (h : rdS b max = (s, n, 0)) :
    ∃ k m, rdU b = (k, m, 0) ∧ 0 ≤ max ∧ (k : Int) ≤ max ∧ s = (b.drop m).take k ∧ n = m + k ∧ m + k ≤ b.length ∧ 1 ≤ m ∧ m ≤ 10 := by
  unfold rdS at h
  split at h
  · rename_i h1; simp at h; exact absurd h.2.2 h1
  · rename_i h1
    split at h
    · simp at h
    · rename_i h2
      simp only [Prod.mk.injEq, and_true] at h
      obtain ⟨g1, g2, g3⟩ := rdLen_ok (b := b) (max := max) (k := (rdLen b max).1) (n := (rdLen b max).2.1) (by
        have : (rdLen b max).2.2 = 0 := by omega
        rw [← this])
      obtain ⟨q1, q2, q3, q4⟩ := rdU_used g1
      exact ⟨_, _, g1, g2, g3, h.1.symm, h.2.symm, by omega, q2, q3⟩
theorem rdS_used {b s : List UInt8} {max : Int} {n : Nat} (h : rdS b max = (s, n, 0)) : (s.length : Int) ≤ max ∧ 1 ≤ n ∧ n ≤ b.length := by
  obtain ⟨k, m, _, h1, h2, h3, h4, h5, h6, _⟩ := rdS_ok h
  refine ⟨?_, by omega, by omega⟩
  have : s.length ≤ k := by rw [h3]; exact List.length_take_le _ _
  omega
theorem rdLen_err {b : List UInt8} {max : Int} {k n e : Nat} (h : rdLen b max = (k, n, e)) (he : e ≠ 0) : k = 0 ∧ n = 0 := by
  unfold rdLen at h
  split at h
  · simp at h; omega
  · split at h
    · simp at h; omega
    · split at h
      · simp at h; omega
      · rename_i _ h2 _
        rw [h] at h2
        simp at h2
        exact absurd h2 he
theorem listR {v v' : Value} {k2 k3 : IntKind} {b c b' c' : Int} (h1 : v = v') (h2 : b = b') (h3 : c = c') :
    Ending.returned (.tuple #[v, .int k2 b, .int k3 c]) = Ending.returned (.tuple #[v', .int k2 b', .int k3 c']) := by rw [h1, h2, h3]
/-- What a decoder of lists leaves. -/
def ListPost (w : World) (e : TypeId) (xs : List Value) (n err : Nat) (en : Ending) (w' : World) : Prop :=
  ∃ v, en = .returned (.tuple #[v, .int .i64 n, .int .i64 err]) ∧ w'.ownsRow w.heap.size e 1 v xs.length xs ∧ Below w.heap.size w w'
set_option maxRecDepth 100000 in
set_option maxHeartbeats 1000000 in
theorem listI_any (A : Option Addr) (c : Nat) (bs : List UInt8) (max : Int) (w : World) (hr : Reads w w.heap.size 1 A bs.length (byteCells bs)) (hn : bs.length ≤ 1099511627776) (hcap : bs.length ≤ c) (hmax : In64 max) :
    Calls Try.prog 62 #[.slice A bs.length c, .int .i64 max, .func (.func 63) #[] #[]] w
      (ListPost w 3 ((rdIs bs max).1.map intV) (rdIs bs max).2.1 (rdIs bs max).2.2) := by
  have hc := length_any A c w.heap.size bs max w hr hn hmax
  obtain ⟨⟨v, n, e⟩, hu⟩ : ∃ r, rdLen bs max = r := ⟨_, rfl⟩
  rw [hu] at hc
  have HC := Lib.hid hc
  clear hc
  obtain ⟨i0, hi, hz0, hz1, hz2⟩ := info_parts intInfo
  have hb0 := Below.refl w.heap.size w
  by_cases he : e = 0
  · subst he
    obtain ⟨hu2, hmax0, hvm⟩ := rdLen_ok hu
    obtain ⟨hv, hn1, hn2, hnl⟩ := rdU_used hu2
    clear hu2
    have HR := Lib.hid (show rdIs bs max = rdLoop rdI bs v [] n by unfold rdIs rdL; rw [hu]; simp)
    clear hu
    obtain ⟨ad, _, rfl, _⟩ := hr.byte (k := 0) (by omega)
    obtain ⟨hm1, hm2⟩ := hmax
    go_enter Try.func62, Try.ntmps62
    go_wp2_with (go_at_call 69; refine HC.out.mono ?_; rintro e w' ⟨rfl, rfl⟩)
    go_loopw [6, 7, 24] (fun out p i wr => ∃ (k m : Nat) (l : List Int), k ≤ v ∧ m ≤ bs.length ∧ l.length ≤ m ∧ i = .int .i64 k ∧ p = .int .i64 m ∧ wr.ownsRow w.heap.size 3 1 out l.length (l.map intV) ∧ Below w.heap.size w wr ∧ rdLoop rdI bs (v - k) l m = rdIs bs max) (fun _ _ i _ => v - (intOf i).toNat)
    case atStart => exact ⟨0, n, [], Nat.zero_le _, hnl, by simp, rfl, rfl, World.ownsRow_nil _ _ _ _, hb0, HR.out.symm⟩
    case round =>
      obtain ⟨k, m, l, hk, hm, hlm, rfl, rfl, hown, hbel, hres⟩ := hrel
      obtain ⟨wr', rfl⟩ : ∃ x, x = wr := ⟨_, rfl⟩
      by_cases hlt : k < v
      · obtain ⟨k', hk'⟩ : ∃ k', v - k = k' + 1 := ⟨v - k - 1, by omega⟩
        have hrr := (hr.below hbel).cutAt (k := m) rfl hm
        obtain ⟨⟨x, j, e⟩, hx⟩ : ∃ r, rdI (bs.drop m) = r := ⟨_, rfl⟩
        rw [hk', rdLoop, hx] at hres
        have hdl : (bs.drop m).length = bs.length - m := List.length_drop
        have hcall := fun A' c' (hrr : Reads wr' w.heap.size 1 A' (bs.drop m).length (byteCells (bs.drop m))) (hc' : (bs.drop m).length ≤ c') => int_any A' c' w.heap.size (bs.drop m) wr' hrr (by simp; omega)
        rw [hdl, hx] at hcall
        have HCALL := Lib.hid hcall
        clear hcall
        by_cases he : e = 0
        · subst he
          obtain ⟨hx1, hx2, hx3⟩ := rdI_used hx
          rw [hdl] at hx3
          have hcm : ¬ c = m := by omega
          have HC2 := Lib.hid (HCALL.out (some (ad.add m)) (c - m) hrr (by omega))
          simp only [ne_eq, not_true_eq_false, if_false] at hres
          have HR2 := Lib.hid hres
          have hbs := hbel.size
          have HK := Lib.hid hk'
          clear hres hx hk' hdl hrr
          go_wp2_with (first
            | (go_at_call 63; refine HC2.out.mono ?_; rintro e w' ⟨rfl, rfl⟩)
            | (at_builtin; refine wpList_append_own _ rfl (.tmp 38) (.tmp 40) 22 rfl w.heap.size 3 i0 _ 1 8 Try.underlying22 hi hz0 hz1 hz2 rfl (by decide) _ _ _ rfl (hown.alloc _) ⟨wr'.heap.size, 0, none⟩ 1 1 [intV x] rfl rfl ?c1 ?c2 ?c3 ?c4 ?c5 ?_))
          case c1 => intro q u hq; match q, hq with | 0, hq => simp at hq; subst hq; simp [Addr.add, intV]
          case c2 => intro u hu; simp at hu; subst hu; rfl
          case c3 => unfold maxLen; omega
          case c4 => omega
          case c5 => simp; omega
          intro v' w1 hown' hgrow _
          have hbel' : Below w.heap.size w w1 := (hbel.alloc hbs _).grown hgrow (by simp; omega) (fun q hq => (hown.lt q hq).1)
          have hown2 : w1.ownsRow w.heap.size 3 1 v' (l ++ [x]).length ((l ++ [x]).map intV) := by simpa using hown'
          clear hown' hgrow hown
          go_wp2
          go_roundw
          case rel => exact ⟨k + 1, m + j, l ++ [x], by omega, by omega, by simp; omega, by go_num, by go_num, hown2, hbel', by rw [show v - (k + 1) = k' by have := HK.out; omega]; exact HR2.out⟩
          case measure => simp [intOf]; omega
        · have HR2 := Lib.hid (show rdIs bs max = ([], 0, e) by rw [← hres]; simp [he])
          have hb : ((e : Int) != 0) = true := by simp; omega
          clear he hres hx
          by_cases hcm : c = m
          · have hend : Reads wr' w.heap.size 1 (some ad) (bs.length - m) (byteCells (bs.drop m)) := by
              rw [List.drop_eq_nil_of_le (by omega), show bs.length - m = 0 by omega]; exact Reads.nothing
            have hc2 := HCALL.out (some ad) 0 hend (by omega)
            rw [show bs.length - m = 0 by omega] at hc2
            have HC2 := Lib.hid hc2
            clear hc2 hend
            subst hcm
            have hce : bs.length = c := by omega
            subst hce
            go_wp2_with (go_at_call 63; refine HC2.out.mono ?_; rintro e w' ⟨rfl, rfl⟩)
            go_ret3
            rw [HR2.out]
            exact ⟨_, rfl, World.ownsRow_nil _ _ _ _, hbel⟩
          · have HC2 := Lib.hid (HCALL.out (some (ad.add m)) (c - m) hrr (by omega))
            go_wp2_with (go_at_call 63; refine HC2.out.mono ?_; rintro e w' ⟨rfl, rfl⟩)
            go_ret3
            rw [HR2.out]
            exact ⟨_, rfl, World.ownsRow_nil _ _ _ _, hbel⟩
      · have HR2 := Lib.hid (show rdIs bs max = (l, m, 0) by rw [← hres, show v - k = 0 by omega]; rfl)
        clear hres
        go_wp2
        go_ret3
        rw [HR2.out]
        exact ⟨_, rfl, by simpa using hown, hbel⟩
  · obtain ⟨rfl, rfl⟩ := rdLen_err hu he
    have HR := Lib.hid (show rdIs bs max = ([], 0, e) by unfold rdIs rdL; rw [hu]; simp [he])
    have hb : ((e : Int) != 0) = true := by simp; omega
    clear he hu
    go_enter Try.func62, Try.ntmps62
    go_wp2_with (go_at_call 69; refine HC.out.mono ?_; rintro e w' ⟨rfl, rfl⟩)
    go_ret3
    rw [HR.out]
    exact ⟨_, rfl, World.ownsRow_nil _ _ _ _, hb0⟩
set_option maxRecDepth 100000 in
theorem IntList_any (A : Option Addr) (c : Nat) (bs : List UInt8) (max : Int) (w : World) (hr : Reads w w.heap.size 1 A bs.length (byteCells bs)) (hn : bs.length ≤ 1099511627776) (hcap : bs.length ≤ c) (hmax : In64 max) :
    Calls Try.prog 54 #[.slice A bs.length c, .int .i64 max] w
      (ListPost w 3 ((rdIs bs max).1.map intV) (rdIs bs max).2.1 (rdIs bs max).2.2) := by
  have HC := Lib.hid (listI_any A c bs max w hr hn hcap hmax)
  go_enter Try.func54, Try.ntmps54
  go_wp2_with (go_at_call 62; refine HC.out.mono ?_; rintro e w' ⟨v, rfl, hown, hbel⟩)
  go_ret3
  exact ⟨_, rfl, hown, hbel⟩
end Go.Proofs.Yteiolhbjgfkdeaa.W
