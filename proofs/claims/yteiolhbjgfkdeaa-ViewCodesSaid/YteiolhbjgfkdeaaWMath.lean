import Derived.Test.YteiolhbjgfkdeaaWSpec
namespace Go.Proofs.Yteiolhbjgfkdeaa.W
open Go.Lib (uvarint zigzag unzigzag uvarint_small uvarint_big uvarint_pos)

theorem beqF {a b : Int} (h : a ≠ b) : (a == b) = false := beq_eq_false_iff_ne.2 h
theorem beqT {a b : Int} (h : a = b) : (a == b) = true := beq_iff_eq.2 h
theorem bneT {a b : Int} (h : a ≠ b) : (a != b) = true := by simp [h]
theorem bneF {a b : Int} (h : a = b) : (a != b) = false := by simp [h]
theorem u8n {a : Nat} (h : a < 256) : (a.toUInt8).toNat = a := by
  show a % 2 ^ 8 = a
  omega
theorem u8eq {c : UInt8} {a : Nat} (h : c.toNat = a) : a.toUInt8 = c := by
  subst h
  exact UInt8.ofNat_toNat
theorem pow7 (i : Nat) : (2 : Nat) ^ (7 * (i + 1)) = 2 ^ (7 * i) * 128 := by
  rw [Nat.mul_succ, Nat.pow_add]
theorem pow7_pos (i : Nat) : 0 < (2 : Nat) ^ (7 * i) := Nat.two_pow_pos _
theorem pow_le9 {i : Nat} (h : (2 : Nat) ^ (7 * i) < 18446744073709551616) : i ≤ 9 := by
  rcases Nat.lt_or_ge 9 i with h9 | h9
  · have : (2 : Nat) ^ (7 * 10) ≤ 2 ^ (7 * i) := Nat.pow_le_pow_right (by decide) (by omega)
    have e : (2 : Nat) ^ (7 * 10) = 1180591620717411303424 := by decide
    omega
  · exact h9
/-- Decoding an encoded number gives it back, whatever follows. -/
theorem uFrom_back (v : Nat) : ∀ (i acc : Nat) (r : List UInt8), (0 < i → 0 < v) → i ≤ 9 → v * 2 ^ (7 * i) < 18446744073709551616 →
    uFrom i acc (uvarint v ++ r) = (acc + v * 2 ^ (7 * i), i + (uvarint v).length, 0) := by
  induction v using Nat.strongRecOn with
  | ind v ih =>
    intro i acc r h0 hi hlt
    have hp := pow7_pos i
    by_cases hv : v < 128
    · rw [uvarint_small hv]
      simp only [List.singleton_append, uFrom, u8n (show v < 256 by omega)]
      rw [if_neg, if_pos hv, Nat.mod_eq_of_lt hv]
      · simp
      · rintro (⟨h9, h1⟩ | ⟨hpos, hz⟩)
        · subst h9
          have e : (2 : Nat) ^ (7 * 9) = 9223372036854775808 := by decide
          rw [e] at hlt
          omega
        · have := h0 hpos; omega
    · rw [uvarint_big (by omega)]
      have hm := Nat.mod_lt v (show 0 < 128 by decide)
      have hd := Nat.div_add_mod v 128
      have hvp : 1 * 2 ^ (7 * i) ≤ v * 2 ^ (7 * i) := Nat.mul_le_mul_right _ (by omega)
      have hnext : v / 128 * 2 ^ (7 * (i + 1)) < 18446744073709551616 := by
        rw [pow7]
        have : v / 128 * (2 ^ (7 * i) * 128) ≤ v * 2 ^ (7 * i) := by
          rw [Nat.mul_comm (2 ^ (7 * i)) 128, ← Nat.mul_assoc]
          exact Nat.mul_le_mul_right _ (by omega)
        omega
      have hi1 : i + 1 ≤ 9 := by
        apply pow_le9
        have : 1 * 2 ^ (7 * (i + 1)) ≤ v / 128 * 2 ^ (7 * (i + 1)) := Nat.mul_le_mul_right _ (by omega)
        omega
      simp only [List.cons_append, uFrom, u8n (show v % 128 + 128 < 256 by omega)]
      rw [if_neg, if_neg (by omega), ih (v / 128) (by omega) (i + 1) _ r (fun _ => by omega) hi1 hnext]
      · have e1 : (v % 128 + 128) % 128 = v % 128 := by omega
        have e2 : v % 128 * 2 ^ (7 * i) + v / 128 * 2 ^ (7 * (i + 1)) = v * 2 ^ (7 * i) := by
          rw [pow7, Nat.mul_comm (2 ^ (7 * i)) 128, ← Nat.mul_assoc, ← Nat.add_mul]
          congr 1; omega
        rw [e1, Nat.add_assoc, e2, List.length_cons]
        simp only [Prod.mk.injEq, true_and, and_true]
        omega
      · rintro (⟨h9, _⟩ | ⟨_, hz⟩) <;> omega
theorem rdU_back {v : Nat} (h : v < 18446744073709551616) (r : List UInt8) : rdU (enU v ++ r) = (v, (enU v).length, 0) := by
  unfold rdU enU
  rw [uFrom_back v 0 0 r (by omega) (by omega) (by simpa using h)]
  simp
/-- What is decoded without an error begins with the encoding of the result. -/
theorem uFrom_canon : ∀ (b : List UInt8) (i acc v n : Nat), i ≤ 9 → uFrom i acc b = (v, n, 0) →
    ∃ m r, v = acc + m * 2 ^ (7 * i) ∧ n = i + (uvarint m).length ∧ b = uvarint m ++ r ∧ (0 < i → 0 < m) ∧ m * 2 ^ (7 * i) < 18446744073709551616
  | [], i, acc, v, n, _, h => by simp [uFrom] at h
  | c :: t, i, acc, v, n, hi, h => by
    have hc := c.toNat_lt
    rw [uFrom] at h
    by_cases hbad : (i = 9 ∧ 1 < c.toNat) ∨ (0 < i ∧ c.toNat = 0)
    · rw [if_pos hbad] at h
      simp at h
    · rw [if_neg hbad] at h
      by_cases hs : c.toNat < 128
      · rw [if_pos hs] at h
        simp only [Prod.mk.injEq, and_true] at h
        refine ⟨c.toNat, t, ?_, ?_, ?_, ?_, ?_⟩
        · rw [← h.1, Nat.mod_eq_of_lt hs]
        · rw [uvarint_small hs, ← h.2]; rfl
        · rw [uvarint_small hs, u8eq rfl]; rfl
        · intro hp
          rcases Nat.eq_zero_or_pos c.toNat with hz | hz
          · exact absurd (.inr ⟨hp, hz⟩) hbad
          · exact hz
        · by_cases h9 : i = 9
          · subst h9
            have e : (2 : Nat) ^ (7 * 9) = 9223372036854775808 := by decide
            rw [e]
            have : ¬ 1 < c.toNat := fun hh => hbad (.inl ⟨rfl, hh⟩)
            omega
          · have : (2 : Nat) ^ (7 * i) ≤ 2 ^ (7 * 8) := Nat.pow_le_pow_right (by decide) (by omega)
            have e : (2 : Nat) ^ (7 * 8) = 72057594037927936 := by decide
            have h2 : c.toNat * 2 ^ (7 * i) ≤ 127 * 2 ^ (7 * 8) := Nat.mul_le_mul (by omega) this
            omega
      · rw [if_neg hs] at h
        have hi1 : i + 1 ≤ 9 := by
          by_cases h9 : i = 9
          · exact absurd (.inl ⟨h9, by omega⟩) hbad
          · omega
        obtain ⟨m, r, h1, h2, h3, h4, h5⟩ := uFrom_canon t (i + 1) _ v n hi1 h
        have hm := h4 (by omega)
        have hmm := Nat.mod_lt c.toNat (show 0 < 128 by decide)
        have hbig : 128 ≤ c.toNat % 128 + 128 * m := by omega
        have e1 : (c.toNat % 128 + 128 * m) % 128 = c.toNat % 128 := by omega
        have e2 : (c.toNat % 128 + 128 * m) / 128 = m := by omega
        have hu : uvarint (c.toNat % 128 + 128 * m) = c :: uvarint m := by
          rw [uvarint_big hbig, e1, e2, u8eq (c := c) (by omega)]
        have e3 : (c.toNat % 128 + 128 * m) * 2 ^ (7 * i) = c.toNat % 128 * 2 ^ (7 * i) + m * 2 ^ (7 * (i + 1)) := by
          rw [pow7, Nat.add_mul]
          congr 1
          rw [Nat.mul_comm (2 ^ (7 * i)) 128, ← Nat.mul_assoc, Nat.mul_comm m 128]
        refine ⟨c.toNat % 128 + 128 * m, r, ?_, ?_, ?_, fun _ => by omega, ?_⟩
        · rw [h1, e3]; omega
        · rw [h2, hu, List.length_cons]; omega
        · rw [hu, h3]; rfl
        · rw [e3]
          have h6 : m * 2 ^ (7 * (i + 1)) + 2 ^ (7 * (i + 1)) ≤ 18446744073709551616 := by
            have hdvd : 18446744073709551616 = 2 ^ (64 - 7 * (i + 1)) * 2 ^ (7 * (i + 1)) := by
              rw [← Nat.pow_add, show 64 - 7 * (i + 1) + 7 * (i + 1) = 64 by omega]
            rw [hdvd] at h5 ⊢
            have := Nat.lt_of_mul_lt_mul_right h5
            rw [← Nat.succ_mul]
            exact Nat.mul_le_mul_right _ this
          have h7 : c.toNat % 128 * 2 ^ (7 * i) < 2 ^ (7 * (i + 1)) := by
            rw [pow7, Nat.mul_comm]
            exact Nat.mul_lt_mul_of_pos_left hmm (pow7_pos i)
          omega
theorem rdU_canon {b : List UInt8} {v n : Nat} (h : rdU b = (v, n, 0)) : v < 18446744073709551616 ∧ n = (enU v).length ∧ ∃ r, b = enU v ++ r := by
  obtain ⟨m, r, h1, h2, h3, _, h5⟩ := uFrom_canon b 0 0 v n (by omega) h
  have hv : v = m := by simpa using h1
  subst hv
  exact ⟨by simpa using h5, by simpa [enU] using h2, r, h3⟩
/-- A proper prefix of an encoded number is truncated. -/
theorem uFrom_cut (v : Nat) : ∀ (i acc k : Nat), (0 < i → 0 < v) → i ≤ 9 → v * 2 ^ (7 * i) < 18446744073709551616 → k < (uvarint v).length →
    uFrom i acc ((uvarint v).take k) = (0, 0, 2) := by
  induction v using Nat.strongRecOn with
  | ind v ih =>
    intro i acc k h0 hi hlt hk
    have hp := pow7_pos i
    by_cases hv : v < 128
    · rw [uvarint_small hv] at hk ⊢
      obtain rfl : k = 0 := by simpa using hk
      simp [uFrom]
    · rw [uvarint_big (by omega)] at hk ⊢
      rcases k with _ | k
      · simp [uFrom]
      have hm := Nat.mod_lt v (show 0 < 128 by decide)
      have hvp : 1 * 2 ^ (7 * i) ≤ v * 2 ^ (7 * i) := Nat.mul_le_mul_right _ (by omega)
      have hnext : v / 128 * 2 ^ (7 * (i + 1)) < 18446744073709551616 := by
        rw [pow7]
        have : v / 128 * (2 ^ (7 * i) * 128) ≤ v * 2 ^ (7 * i) := by
          rw [Nat.mul_comm (2 ^ (7 * i)) 128, ← Nat.mul_assoc]
          exact Nat.mul_le_mul_right _ (by omega)
        omega
      have hi1 : i + 1 ≤ 9 := by
        apply pow_le9
        have : 1 * 2 ^ (7 * (i + 1)) ≤ v / 128 * 2 ^ (7 * (i + 1)) := Nat.mul_le_mul_right _ (by omega)
        omega
      simp only [List.take_succ_cons, uFrom, u8n (show v % 128 + 128 < 256 by omega)]
      rw [if_neg, if_neg (by omega)]
      · exact ih (v / 128) (by omega) (i + 1) _ k (fun _ => by omega) hi1 hnext (by simpa using hk)
      · rintro (⟨h9, _⟩ | ⟨_, hz⟩) <;> omega
theorem rdU_cut {v k : Nat} (h : v < 18446744073709551616) (hk : k < (enU v).length) : rdU ((enU v).take k) = (0, 0, 2) :=
  uFrom_cut v 0 0 k (by omega) (by omega) (by simpa using h) hk
theorem uFrom_err : ∀ (b : List UInt8) (i acc : Nat), (uFrom i acc b).2.2 ≠ 0 → uFrom i acc b = (0, 0, (uFrom i acc b).2.2) ∧ ((uFrom i acc b).2.2 = 2 ∨ (uFrom i acc b).2.2 = 3)
  | [], i, acc, _ => by simp [uFrom]
  | c :: t, i, acc, h => by
    rw [uFrom] at h ⊢
    split
    · simp
    · rename_i hb
      rw [if_neg hb] at h
      split
      · rename_i hs
        rw [if_pos hs] at h
        simp at h
      · rename_i hs
        rw [if_neg hs] at h
        exact uFrom_err t _ _ h
theorem rdU_err {b : List UInt8} (h : (rdU b).2.2 ≠ 0) : rdU b = (0, 0, (rdU b).2.2) := (uFrom_err b 0 0 h).1
theorem rdU_codes (b : List UInt8) : (rdU b).2.2 = 0 ∨ (rdU b).2.2 = 2 ∨ (rdU b).2.2 = 3 := by
  by_cases h : (rdU b).2.2 = 0
  · exact .inl h
  · exact .inr (uFrom_err b 0 0 h).2
theorem enU_pos (v : Nat) : 0 < (enU v).length := uvarint_pos v
theorem unzig_zig (v : Int) : unzigzag (zigzag v) = v := by
  unfold zigzag unzigzag
  split <;> split <;> omega
theorem zig_unzig (u : Nat) : zigzag (unzigzag u) = u := by
  unfold zigzag unzigzag
  split <;> split <;> omega
/-- What an int of the program can hold. -/
def In64 (v : Int) : Prop := -9223372036854775808 ≤ v ∧ v ≤ 9223372036854775807
theorem zig_lt {v : Int} (h : In64 v) : zigzag v < 18446744073709551616 := Go.Lib.zigzag_lt h.1 h.2
theorem unzig_in {u : Nat} (h : u < 18446744073709551616) : In64 (unzigzag u) := by
  unfold In64 unzigzag
  split <;> omega
theorem rdI_back {v : Int} (h : In64 v) (r : List UInt8) : rdI (enI v ++ r) = (v, (enI v).length, 0) := by
  have := rdU_back (zig_lt h) r
  unfold rdI
  rw [show enI v ++ r = enU (zigzag v) ++ r from rfl, this]
  simp [unzig_zig, enI, enU]
theorem rdI_canon {b : List UInt8} {v : Int} {n : Nat} (h : rdI b = (v, n, 0)) : In64 v ∧ n = (enI v).length ∧ ∃ r, b = enI v ++ r := by
  unfold rdI at h
  by_cases he : (rdU b).2.2 = 0
  · rw [if_pos he] at h
    simp only [Prod.mk.injEq, and_true] at h
    obtain ⟨h1, h2, r, h3⟩ := rdU_canon (b := b) (v := (rdU b).1) (n := (rdU b).2.1) (by rw [← he])
    have e : enI v = enU (rdU b).1 := by rw [← h.1]; unfold enI enU; rw [zig_unzig]
    exact ⟨h.1 ▸ unzig_in h1, by rw [e, ← h2, h.2], r, by rw [e]; exact h3⟩
  · rw [if_neg he] at h
    simp at h
    exact absurd h.2.2 he
theorem rdI_cut {v : Int} {k : Nat} (h : In64 v) (hk : k < (enI v).length) : rdI ((enI v).take k) = (0, 0, 2) := by
  have := rdU_cut (zig_lt h) (k := k) hk
  unfold rdI
  rw [show (enI v).take k = (enU (zigzag v)).take k from rfl, this]
  simp
theorem rdI_err {b : List UInt8} (h : (rdI b).2.2 ≠ 0) : rdI b = (0, 0, (rdI b).2.2) := by
  unfold rdI at h ⊢
  split
  · rename_i he; rw [if_pos he] at h; simp at h
  · rfl
end Go.Proofs.Yteiolhbjgfkdeaa.W
