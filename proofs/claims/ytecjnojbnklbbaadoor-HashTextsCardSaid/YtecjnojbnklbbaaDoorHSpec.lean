/- Hashing as data: the mixing of words, its inverse, and what the walks take. -/
import Derived.Laws.BitsAllLaws
namespace Go.Proofs.YtecjnojbnklbbaaDoor.H
set_option linter.unusedVariables false
def fold (s : Nat) (x : BitVec 64) : BitVec 64 := x ^^^ (x >>> s)
def unf (s : Nat) (y : BitVec 64) : BitVec 64 := fold (2 * s) (fold s y)
theorem unf_fold {s : Nat} (hs : 16 ≤ s) (x : BitVec 64) : unf s (fold s x) = x := by
  apply BitVec.eq_of_getLsbD_eq
  intro i hi
  unfold unf fold
  simp only [BitVec.getLsbD_xor, BitVec.getLsbD_ushiftRight]
  rw [show s + (s + i) = 2 * s + i by omega, show s + (2 * s + i) = 3 * s + i by omega, show s + (3 * s + i) = 4 * s + i by omega, BitVec.getLsbD_of_ge x (4 * s + i) (by omega)]
  generalize x.getLsbD i = a
  generalize x.getLsbD (s + i) = b
  generalize x.getLsbD (2 * s + i) = c
  generalize x.getLsbD (3 * s + i) = d
  revert a b c d
  decide
theorem fold_unf {s : Nat} (hs : 16 ≤ s) (x : BitVec 64) : fold s (unf s x) = x := by
  apply BitVec.eq_of_getLsbD_eq
  intro i hi
  unfold unf fold
  simp only [BitVec.getLsbD_xor, BitVec.getLsbD_ushiftRight]
  rw [show s + (2 * s + i) = 3 * s + i by omega, show 2 * s + (s + i) = 3 * s + i by omega, show s + (3 * s + i) = 4 * s + i by omega, show s + (s + i) = 2 * s + i by omega, BitVec.getLsbD_of_ge x (4 * s + i) (by omega)]
  generalize x.getLsbD i = a
  generalize x.getLsbD (s + i) = b
  generalize x.getLsbD (2 * s + i) = c
  generalize x.getLsbD (3 * s + i) = d
  revert a b c d
  decide
def F0 : BitVec 64 := 0xbf58476d1ce4e5b9#64
def F1 : BitVec 64 := 0x94d049bb133111eb#64
def I0 : BitVec 64 := 0x96de1b173f119089#64
def I1 : BitVec 64 := 0x319642b2d24d8ec3#64
def STR : BitVec 64 := 0x9e3779b97f4a7c15#64
def STRI : BitVec 64 := 0xf1de83e19937733d#64
def mix (x : BitVec 64) : BitVec 64 := fold 31 (fold 27 (fold 30 x * F0) * F1)
def unmix (y : BitVec 64) : BitVec 64 := unf 30 (unf 27 (unf 31 y * I1) * I0)
theorem f0 (x : BitVec 64) : x * F0 * I0 = x := by
  rw [BitVec.mul_assoc, show F0 * I0 = 1#64 by decide, BitVec.mul_one]
theorem f0' (x : BitVec 64) : x * I0 * F0 = x := by
  rw [BitVec.mul_assoc, show I0 * F0 = 1#64 by decide, BitVec.mul_one]
theorem f1 (x : BitVec 64) : x * F1 * I1 = x := by
  rw [BitVec.mul_assoc, show F1 * I1 = 1#64 by decide, BitVec.mul_one]
theorem f1' (x : BitVec 64) : x * I1 * F1 = x := by
  rw [BitVec.mul_assoc, show I1 * F1 = 1#64 by decide, BitVec.mul_one]
theorem unmix_mix (x : BitVec 64) : unmix (mix x) = x := by
  unfold unmix mix
  rw [unf_fold (by decide), f1, unf_fold (by decide), f0, unf_fold (by decide)]
theorem mix_unmix (x : BitVec 64) : mix (unmix x) = x := by
  unfold unmix mix
  rw [fold_unf (by decide), f0', fold_unf (by decide), f1', fold_unf (by decide)]
theorem mix_inj {x y : BitVec 64} : mix x = mix y ↔ x = y := ⟨fun h => by rw [← unmix_mix x, h, unmix_mix], fun h => by rw [h]⟩
theorem unmix_inj {x y : BitVec 64} : unmix x = unmix y ↔ x = y := ⟨fun h => by rw [← mix_unmix x, h, mix_unmix], fun h => by rw [h]⟩
def comb (h x : BitVec 64) : BitVec 64 := mix (h + STR * (x + 1#64))
theorem str_inj {x y : BitVec 64} (h : STR * x = STR * y) : x = y := by
  have e : ∀ z, STRI * (STR * z) = z := fun z => by rw [← BitVec.mul_assoc, show STRI * STR = 1#64 by decide, BitVec.one_mul]
  rw [← e x, h, e]
theorem comb_inj2 {h x y : BitVec 64} : comb h x = comb h y ↔ x = y := by
  refine ⟨fun e => ?_, fun e => by rw [e]⟩
  have := mix_inj.1 e
  rw [BitVec.add_right_inj] at this
  have := str_inj this
  rwa [BitVec.add_left_inj] at this
theorem comb_inj1 {h x y : BitVec 64} : comb x h = comb y h ↔ x = y := by
  refine ⟨fun e => ?_, fun e => by rw [e]⟩
  have := mix_inj.1 e
  rwa [BitVec.add_left_inj] at this
def step (h : BitVec 64) (c : UInt8) : BitVec 64 := (h ^^^ BitVec.ofNat 64 c.toNat) * 1099511628211#64
def text (s : List UInt8) : BitVec 64 := mix (s.foldl step 14695981039346656037#64)
def wordOf (i : Int) : BitVec 64 := BitVec.ofInt 64 i
theorem word_inj {a b : Int} (ha : -9223372036854775808 ≤ a ∧ a ≤ 9223372036854775807) (hb : -9223372036854775808 ≤ b ∧ b ≤ 9223372036854775807) : wordOf a = wordOf b ↔ a = b := by
  refine ⟨fun h => ?_, fun h => by rw [h]⟩
  have := congrArg BitVec.toNat h
  unfold wordOf at this
  rw [BitVec.toNat_ofInt, BitVec.toNat_ofInt] at this
  have e : ((2 ^ 64 : Nat) : Int) = 18446744073709551616 := by decide
  rw [e] at this
  omega

/-! ### what the walks take -/
theorem xor_walk (a b : BitVec 64) : bits .xor .u64 (a.toNat : Int) (b.toNat : Int) = (((a ^^^ b).toNat : Nat) : Int) := by
  rw [u64_xor_nat _ _ a.isLt b.isLt, BitVec.toNat_xor]
theorem shr_walk (a : BitVec 64) (s : Nat) (d : Int) (hd : d = ((2 ^ s : Nat) : Int)) : (a.toNat : Int) / d = (((a >>> s).toNat : Nat) : Int) := by
  rw [hd, BitVec.toNat_ushiftRight, Nat.shiftRight_eq_div_pow]
  omega
theorem fold_walk (a : BitVec 64) (s : Nat) (d : Int) (hd : d = ((2 ^ s : Nat) : Int)) : bits .xor .u64 (a.toNat : Int) ((a.toNat : Int) / d) = (((fold s a).toNat : Nat) : Int) := by
  rw [shr_walk a s d hd, xor_walk]; rfl
theorem mul_walk (a f : BitVec 64) (c : Int) (hc : c = (f.toNat : Int)) : IntKind.u64.wrap ((a.toNat : Int) * c) = (((a * f).toNat : Nat) : Int) := by
  rw [IntKind.wrap_u64, hc, BitVec.toNat_mul, Int.natCast_emod, Int.natCast_mul]
  rfl
theorem lmul_walk (f a : BitVec 64) (c : Int) (hc : c = (f.toNat : Int)) : IntKind.u64.wrap (c * (a.toNat : Int)) = (((f * a).toNat : Nat) : Int) := by
  rw [IntKind.wrap_u64, hc, BitVec.toNat_mul, Int.natCast_emod, Int.natCast_mul]
  rfl
theorem add_walk (a b : BitVec 64) : IntKind.u64.wrap ((a.toNat : Int) + (b.toNat : Int)) = (((a + b).toNat : Nat) : Int) := by
  rw [IntKind.wrap_u64, BitVec.toNat_add, Int.natCast_emod, Int.natCast_add]
  rfl
theorem inc_walk (a : BitVec 64) : IntKind.u64.wrap ((a.toNat : Int) + 1) = (((a + 1#64).toNat : Nat) : Int) := add_walk a 1#64
theorem int_word (i : Int) : IntKind.u64.wrap i = ((wordOf i).toNat : Int) := by
  rw [IntKind.wrap_u64]
  unfold wordOf
  rw [BitVec.toNat_ofInt]
  have e : ((2 ^ 64 : Nat) : Int) = 18446744073709551616 := by decide
  rw [e]
  omega
theorem eq_walk (a b : BitVec 64) : ((a.toNat : Int) == (b.toNat : Int)) = decide (a = b) := by
  by_cases h : a = b
  · subst h; simp
  · rw [decide_eq_false h]
    exact beq_eq_false_iff_ne.2 fun e => h (BitVec.eq_of_toNat_eq (by omega))
end Go.Proofs.YtecjnojbnklbbaaDoor.H
