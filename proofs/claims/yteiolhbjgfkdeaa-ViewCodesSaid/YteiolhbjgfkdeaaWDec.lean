/- wire.Int, wire.length, wire.String, wire.shortString and wire.truth return what their readers compute of the bytes, and touch nothing. -/
import Derived.Test.YteiolhbjgfkdeaaWUint
namespace Go.Proofs.Yteiolhbjgfkdeaa.W
open Go.RowKit
open Go.Lib (byteCells byteCells_length unzigzag)

theorem rdU_used {b : List UInt8} {v n : Nat} (h : rdU b = (v, n, 0)) : v < 18446744073709551616 ∧ 1 ≤ n ∧ n ≤ 10 ∧ n ≤ b.length := by
  obtain ⟨h1, h2, r, h3⟩ := rdU_canon h
  have := enU_pos v
  have := Go.Lib.uvarint_length64 h1
  refine ⟨h1, by omega, by rw [h2]; exact this, by rw [h2, h3]; simp⟩
set_option maxRecDepth 100000 in
set_option maxHeartbeats 400000 in
theorem int_any (A : Option Addr) (c B : Nat) (bs : List UInt8) (w : World) (hr : Reads w B 1 A bs.length (byteCells bs)) (hn : bs.length ≤ 1099511627776) :
    Calls Try.prog 63 #[.slice A bs.length c] w fun e w' =>
      e = .returned (.tuple #[.int .i64 (rdI bs).1, .int .i64 (rdI bs).2.1, .int .i64 (rdI bs).2.2]) ∧ w = w' := by
  have hc := uint_any A c B bs w hr hn
  obtain ⟨⟨v, n, e⟩, hu⟩ : ∃ r, rdU bs = r := ⟨_, rfl⟩
  rw [hu] at hc
  have HC := Lib.hid hc
  clear hc
  by_cases he : e = 0
  · subst he
    obtain ⟨hv, hn1, hn2, _⟩ := rdU_used hu
    have HR := Lib.hid (show rdI bs = (unzigzag v, n, 0) by unfold rdI; rw [hu]; simp)
    clear hu
    by_cases hp : v % 2 = 1
    · have hz : unzigzag v = -((v / 2 : Nat) : Int) - 1 := by unfold unzigzag; rw [if_neg (by omega)]
      rw [hz] at HR
      have hb : ((v : Int) % 2 == 1) = true := by simp; omega
      clear hp hz
      go_enter Try.func63, Try.ntmps63
      go_wp2_with (go_at_call 53; refine HC.out.mono ?_; rintro e w' ⟨rfl, rfl⟩)
      go_ret3
      rw [HR.out]
      exact ⟨tup3 (by dsimp only; omega) rfl rfl, rfl⟩
    · have hz : unzigzag v = ((v / 2 : Nat) : Int) := by unfold unzigzag; rw [if_pos (by omega)]
      rw [hz] at HR
      have hb : ((v : Int) % 2 == 1) = false := by simp; omega
      clear hp hz
      go_enter Try.func63, Try.ntmps63
      go_wp2_with (go_at_call 53; refine HC.out.mono ?_; rintro e w' ⟨rfl, rfl⟩)
      go_ret3
      rw [HR.out]
      exact ⟨tup3 (by dsimp only; omega) rfl rfl, rfl⟩
  · have HR := Lib.hid (show rdI bs = (0, 0, e) by unfold rdI; rw [hu]; simp [he])
    have hb : ((e : Int) != 0) = true := by simp; omega
    clear he hu
    go_enter Try.func63, Try.ntmps63
    go_wp2_with (go_at_call 53; refine HC.out.mono ?_; rintro e w' ⟨rfl, rfl⟩)
    go_ret3
    rw [HR.out]
    exact ⟨rfl, rfl⟩
theorem rdLen_ok {b : List UInt8} {max : Int} {k n : Nat} (h : rdLen b max = (k, n, 0)) : rdU b = (k, n, 0) ∧ 0 ≤ max ∧ (k : Int) ≤ max := by
  unfold rdLen at h
  split at h
  · simp at h
  · split at h
    · rename_i _ h2
      simp at h
      exact absurd h.2.2 h2
    · split at h
      · simp at h
      · rename_i h1 _ h3
        exact ⟨h, by omega, by rw [h] at h3; simpa using h3⟩
set_option maxRecDepth 100000 in
set_option maxHeartbeats 400000 in
theorem length_any (A : Option Addr) (c B : Nat) (bs : List UInt8) (max : Int) (w : World) (hr : Reads w B 1 A bs.length (byteCells bs)) (hn : bs.length ≤ 1099511627776) (hmax : In64 max) :
    Calls Try.prog 69 #[.slice A bs.length c, .int .i64 max] w fun e w' =>
      e = .returned (.tuple #[.int .i64 (rdLen bs max).1, .int .i64 (rdLen bs max).2.1, .int .i64 (rdLen bs max).2.2]) ∧ w = w' := by
  have hc := uint_any A c B bs w hr hn
  obtain ⟨⟨v, n, e⟩, hu⟩ : ∃ r, rdU bs = r := ⟨_, rfl⟩
  rw [hu] at hc
  have HC := Lib.hid hc
  obtain ⟨hm1, hm2⟩ := hmax
  clear hc
  by_cases hneg : max < 0
  · have HR := Lib.hid (show rdLen bs max = (0, 0, 1) by unfold rdLen; rw [if_pos hneg])
    clear hu
    go_enter Try.func69, Try.ntmps69
    go_wp2_with fail
    go_ret3
    rw [HR.out]
    exact ⟨rfl, rfl⟩
  · by_cases he : e = 0
    · subst he
      obtain ⟨hv, hn1, hn2, _⟩ := rdU_used hu
      by_cases hgt : max < (v : Int)
      · have HR := Lib.hid (show rdLen bs max = (0, 0, 5) by unfold rdLen; rw [if_neg hneg, hu]; simp [hgt])
        clear hu
        go_enter Try.func69, Try.ntmps69
        go_wp2_with (go_at_call 53; refine HC.out.mono ?_; rintro e w' ⟨rfl, rfl⟩)
        go_ret3
        rw [HR.out]
        exact ⟨rfl, rfl⟩
      · have HR := Lib.hid (show rdLen bs max = (v, n, 0) by unfold rdLen; rw [if_neg hneg, hu]; simp [hgt])
        clear hu
        go_enter Try.func69, Try.ntmps69
        go_wp2_with (go_at_call 53; refine HC.out.mono ?_; rintro e w' ⟨rfl, rfl⟩)
        go_ret3
        rw [HR.out]
        exact ⟨rfl, rfl⟩
    · have HR := Lib.hid (show rdLen bs max = (0, 0, e) by unfold rdLen; rw [if_neg hneg, hu]; simp [he])
      have hb : ((e : Int) != 0) = true := by simp; omega
      clear he hu
      go_enter Try.func69, Try.ntmps69
      go_wp2_with (go_at_call 53; refine HC.out.mono ?_; rintro e w' ⟨rfl, rfl⟩)
      go_ret3
      rw [HR.out]
      exact ⟨rfl, rfl⟩
theorem tupS3 {s s' : ByteArray} {k2 k3 : IntKind} {b c b' c' : Int} (h1 : s = s') (h2 : b = b') (h3 : c = c') :
    Ending.returned (.tuple #[.string s, .int k2 b, .int k3 c]) = Ending.returned (.tuple #[.string s', .int k2 b', .int k3 c']) := by rw [h1, h2, h3]
end Go.Proofs.Yteiolhbjgfkdeaa.W
