/- wire.Int, wire.length, wire.String, wire.shortString and wire.truth return what their readers compute of the bytes, and touch nothing. -/
import Derived.Test.YtklihjgmmliejaaDoorWUint
namespace Go.Proofs.YtklihjgmmliejaaDoor.W
open Go.RowKit
open Go.Lib (byteCells byteCells_length unzigzag)

theorem rdU_used {b : List UInt8} {v n : Nat} (h : rdU b = (v, n, 0)) : v < 18446744073709551616 ∧ 1 ≤ n ∧ n ≤ 10 ∧ n ≤ b.length := by
  obtain ⟨h1, h2, r, h3⟩ := rdU_canon h
  have := enU_pos v
  have := Go.Lib.uvarint_length64 h1
  refine ⟨h1, by omega, by rw [h2]; exact this, by rw [h2, h3]; simp⟩

set_option maxRecDepth 100000 in
set_option maxHeartbeats 400000 in
theorem int_any (A : Option Addr) (c B : Nat) (bs : List UInt8) (w : World) (hr : Reads w B 1 A bs.length (byteCells bs)) (hn : bs.length ≤ 1099511627776) :
    Calls Tryd.prog 16 #[.slice A bs.length c] w fun e w' =>
      e = .returned (.tuple #[.int .i64 (rdI bs).1, .int .i64 (rdI bs).2.1, .int .i64 (rdI bs).2.2]) ∧ w = w' := by
  have hc := uint_any A c B bs w hr hn
  obtain ⟨⟨v, n, e⟩, hu⟩ : ∃ r, rdU bs = r := ⟨_, rfl⟩
  rw [hu] at hc
  have HC := Lib.hid hc
  clear hc
  by_cases he : e = 0
  · subst he
    obtain ⟨hv, hn1, hn2, _⟩ := rdU_used hu
    have HR := Lib.hid (show rdI bs = (unzigzag v, n, 0) by unfold rdI; rw [hu]; simp)
    clear hu
    by_cases hp : v % 2 = 1
    · have hz : unzigzag v = -((v / 2 : Nat) : Int) - 1 := by unfold unzigzag; rw [if_neg (by omega)]
      rw [hz] at HR
      have hb : ((v : Int) % 2 == 1) = true := by simp; omega
      clear hp hz
      go_enter Tryd.func16, Tryd.ntmps16
      go_wp2_with (go_at_call 14; refine HC.out.mono ?_; rintro e w' ⟨rfl, rfl⟩)
      go_ret3
      rw [HR.out]
      exact ⟨tup3 (by dsimp only; omega) rfl rfl, rfl⟩
    · have hz : unzigzag v = ((v / 2 : Nat) : Int) := by unfold unzigzag; rw [if_pos (by omega)]
      rw [hz] at HR
      have hb : ((v : Int) % 2 == 1) = false := by simp; omega
      clear hp hz
      go_enter Tryd.func16, Tryd.ntmps16
      go_wp2_with (go_at_call 14; refine HC.out.mono ?_; rintro e w' ⟨rfl, rfl⟩)
      go_ret3
      rw [HR.out]
      exact ⟨tup3 (by dsimp only; omega) rfl rfl, rfl⟩
  · have HR := Lib.hid (show rdI bs = (0, 0, e) by unfold rdI; rw [hu]; simp [he])
    have hb : ((e : Int) != 0) = true := by simp; omega
    clear he hu
    go_enter Tryd.func16, Tryd.ntmps16
    go_wp2_with (go_at_call 14; refine HC.out.mono ?_; rintro e w' ⟨rfl, rfl⟩)
    go_ret3
    rw [HR.out]
    exact ⟨rfl, rfl⟩

theorem rdLen_ok {b : List UInt8} {max : Int} {k n : Nat} (h : rdLen b max = (k, n, 0)) : rdU b = (k, n, 0) ∧ 0 ≤ max ∧ (k : Int) ≤ max := by
  unfold rdLen at h
  split at h
  · simp at h
  · split at h
    · rename_i _ h2
      simp at h
      exact absurd h.2.2 h2
    · split at h
      · simp at h
      · rename_i h1 _ h3
        exact ⟨h, by omega, by rw [h] at h3; simpa using h3⟩

set_option maxRecDepth 100000 in
set_option maxHeartbeats 400000 in
theorem length_any (A : Option Addr) (c B : Nat) (bs : List UInt8) (max : Int) (w : World) (hr : Reads w B 1 A bs.length (byteCells bs)) (hn : bs.length ≤ 1099511627776) (hmax : In64 max) :
    Calls Tryd.prog 58 #[.slice A bs.length c, .int .i64 max] w fun e w' =>
      e = .returned (.tuple #[.int .i64 (rdLen bs max).1, .int .i64 (rdLen bs max).2.1, .int .i64 (rdLen bs max).2.2]) ∧ w = w' := by
  have hc := uint_any A c B bs w hr hn
  obtain ⟨⟨v, n, e⟩, hu⟩ : ∃ r, rdU bs = r := ⟨_, rfl⟩
  rw [hu] at hc
  have HC := Lib.hid hc
  obtain ⟨hm1, hm2⟩ := hmax
  clear hc
  by_cases hneg : max < 0
  · have HR := Lib.hid (show rdLen bs max = (0, 0, 1) by unfold rdLen; rw [if_pos hneg])
    clear hu
    go_enter Tryd.func58, Tryd.ntmps58
    go_wp2_with fail
    go_ret3
    rw [HR.out]
    exact ⟨rfl, rfl⟩
  · by_cases he : e = 0
    · subst he
      obtain ⟨hv, hn1, hn2, _⟩ := rdU_used hu
      by_cases hgt : max < (v : Int)
      · have HR := Lib.hid (show rdLen bs max = (0, 0, 5) by unfold rdLen; rw [if_neg hneg, hu]; simp [hgt])
        clear hu
        go_enter Tryd.func58, Tryd.ntmps58
        go_wp2_with (go_at_call 14; refine HC.out.mono ?_; rintro e w' ⟨rfl, rfl⟩)
        go_ret3
        rw [HR.out]
        exact ⟨rfl, rfl⟩
      · have HR := Lib.hid (show rdLen bs max = (v, n, 0) by unfold rdLen; rw [if_neg hneg, hu]; simp [hgt])
        clear hu
        go_enter Tryd.func58, Tryd.ntmps58
        go_wp2_with (go_at_call 14; refine HC.out.mono ?_; rintro e w' ⟨rfl, rfl⟩)
        go_ret3
        rw [HR.out]
        exact ⟨rfl, rfl⟩
    · have HR := Lib.hid (show rdLen bs max = (0, 0, e) by unfold rdLen; rw [if_neg hneg, hu]; simp [he])
      have hb : ((e : Int) != 0) = true := by simp; omega
      clear he hu
      go_enter Tryd.func58, Tryd.ntmps58
      go_wp2_with (go_at_call 14; refine HC.out.mono ?_; rintro e w' ⟨rfl, rfl⟩)
      go_ret3
      rw [HR.out]
      exact ⟨rfl, rfl⟩

theorem tupS3 {s s' : ByteArray} {k2 k3 : IntKind} {b c b' c' : Int} (h1 : s = s') (h2 : b = b') (h3 : c = c') :
    Ending.returned (.tuple #[.string s, .int k2 b, .int k3 c]) = Ending.returned (.tuple #[.string s', .int k2 b', .int k3 c']) := by rw [h1, h2, h3]

set_option maxRecDepth 100000 in
set_option maxHeartbeats 400000 in
theorem string_any (A : Option Addr) (c B : Nat) (bs : List UInt8) (max : Int) (w : World) (hr : Reads w B 1 A bs.length (byteCells bs)) (hn : bs.length ≤ 1099511627776) (hcap : bs.length ≤ c) (hmax : In64 max) :
    Calls Tryd.prog 24 #[.slice A bs.length c, .int .i64 max] w fun e w' =>
      e = .returned (.tuple #[.string ⟨(rdS bs max).1.toArray⟩, .int .i64 (rdS bs max).2.1, .int .i64 (rdS bs max).2.2]) ∧ w = w' := by
  have hc := length_any A c B bs max w hr hn hmax
  obtain ⟨⟨v, n, e⟩, hu⟩ : ∃ r, rdLen bs max = r := ⟨_, rfl⟩
  rw [hu] at hc
  have HC := Lib.hid hc
  obtain ⟨hm1, hm2⟩ := hmax
  clear hc
  by_cases he : e = 0
  · subst he
    obtain ⟨hu2, hmax0, hvm⟩ := rdLen_ok hu
    obtain ⟨hv, hn1, hn2, hnl⟩ := rdU_used hu2
    clear hu2
    by_cases hshort : bs.length - n < v
    · have HR := Lib.hid (show rdS bs max = ([], 0, 2) by unfold rdS; rw [hu]; simp [hshort])
      clear hu
      go_enter Tryd.func24, Tryd.ntmps24
      go_wp2_with (go_at_call 58; refine HC.out.mono ?_; rintro e w' ⟨rfl, rfl⟩)
      go_ret3
      rw [HR.out]
      exact ⟨rfl, rfl⟩
    · have HR := Lib.hid (show rdS bs max = ((bs.drop n).take v, n + v, 0) by unfold rdS; rw [hu]; simp [hshort])
      obtain ⟨ad, _, rfl, _⟩ := hr.byte (k := 0) (by omega)
      have hcv := run_str (P := Tryd.prog) (w := w) Tryd.underlying22 Tryd.underlying5 Tryd.underlying9 ((hr.cutAt (k := n) rfl (by omega)).takeTo (k := v) (by omega)) (c - n)
      clear hu
      by_cases hcn : c = n
      · clear hcv
        obtain rfl : v = 0 := by omega
        subst hcn
        have hcv := run_str (P := Tryd.prog) (w := w) Tryd.underlying22 Tryd.underlying5 Tryd.underlying9 (Reads.nothing (B := B) (A := some ad)) 0
        go_enter Tryd.func24, Tryd.ntmps24
        go_wp2_with (go_at_call 58; refine HC.out.mono ?_; rintro e w' ⟨rfl, rfl⟩)
        go_ret3
        rw [HR.out]
        exact ⟨rfl, rfl⟩
      · go_enter Tryd.func24, Tryd.ntmps24
        go_wp2_with (go_at_call 58; refine HC.out.mono ?_; rintro e w' ⟨rfl, rfl⟩)
        go_ret3
        rw [HR.out]
        exact ⟨rfl, rfl⟩
  · have HR := Lib.hid (show rdS bs max = ([], 0, e) by unfold rdS; rw [hu]; simp [he])
    have hb : ((e : Int) != 0) = true := by simp; omega
    clear he hu
    go_enter Tryd.func24, Tryd.ntmps24
    go_wp2_with (go_at_call 58; refine HC.out.mono ?_; rintro e w' ⟨rfl, rfl⟩)
    go_ret3
    rw [HR.out]
    exact ⟨rfl, rfl⟩

set_option maxRecDepth 100000 in
theorem shortString_any (A : Option Addr) (c B : Nat) (bs : List UInt8) (w : World) (hr : Reads w B 1 A bs.length (byteCells bs)) (hn : bs.length ≤ 1099511627776) (hcap : bs.length ≤ c) :
    Calls Tryd.prog 61 #[.slice A bs.length c] w fun e w' =>
      e = .returned (.tuple #[.string ⟨(rdS64 bs).1.toArray⟩, .int .i64 (rdS64 bs).2.1, .int .i64 (rdS64 bs).2.2]) ∧ w = w' := by
  have HC := Lib.hid (string_any A c B bs 64 w hr hn hcap ⟨by omega, by omega⟩)
  go_enter Tryd.func61, Tryd.ntmps61
  go_wp2_with (go_at_call 24; refine HC.out.mono ?_; rintro e w' ⟨rfl, rfl⟩)
  go_ret3
  exact ⟨rfl, rfl⟩

set_option maxRecDepth 100000 in
theorem truth_any (A : Option Addr) (c B : Nat) (bs : List UInt8) (w : World) (hr : Reads w B 1 A bs.length (byteCells bs)) (hn : bs.length ≤ 1099511627776) :
    Calls Tryd.prog 63 #[.slice A bs.length c] w fun e w' =>
      e = .returned (.tuple #[.int .i64 (rdB bs).1, .int .i64 (rdB bs).2.1, .int .i64 (rdB bs).2.2]) ∧ w = w' := by
  match bs, hr, hn with
  | [], hr, hn =>
    go_enter Tryd.func63, Tryd.ntmps63
    go_wp2_with fail
    go_ret3
    exact ⟨rfl, rfl⟩
  | z :: t, hr, hn =>
    obtain ⟨ad, z', rfl, _, hc, _, hz, hz1⟩ := hr.byte (k := 0) (by simp)
    obtain rfl : z = z' := by simpa using hz
    have hc0 : w.cell? ad = some (.int .u8 (z.toNat : Int)) := by simpa [Addr.add] using hc
    have hl : 0 < (z :: t).length := by simp
    generalize (z :: t).length = m at *
    have hm : ((m : Int) == 0) = false := by simp; omega
    by_cases h1 : 1 < z.toNat
    · have HR := Lib.hid (show rdB (z :: t) = (0, 0, 3) by simp [rdB, h1])
      go_enter Tryd.func63, Tryd.ntmps63
      go_wp2_with fail
      go_ret3
      rw [HR.out]
      exact ⟨rfl, rfl⟩
    · have HR := Lib.hid (show rdB (z :: t) = ((z.toNat : Int), 1, 0) by simp [rdB, h1])
      go_enter Tryd.func63, Tryd.ntmps63
      go_wp2_with fail
      go_ret3
      rw [HR.out]
      exact ⟨rfl, rfl⟩
end Go.Proofs.YtklihjgmmliejaaDoor.W
