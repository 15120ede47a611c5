/- The plain laws, more: a checksum and the bits that were changed. -/
import Derived.Test.YteiolhbjgfkdeaaWMath4
import Derived.Test.YteiolhbjgfkdeaaWCrc
namespace Go.Proofs.Yteiolhbjgfkdeaa.W
set_option linter.unusedVariables false

/-- n bits on. -/
def T : Nat → BitVec 32 → BitVec 32
  | 0, x => x
  | n + 1, x => T n (bit1 x)
theorem T_add (m n : Nat) : ∀ x, T (m + n) x = T n (T m x) := by
  induction m with
  | zero => intro x; simp [T]
  | succ m ih => intro x; rw [show m + 1 + n = (m + n) + 1 by omega]; exact ih (bit1 x)
theorem T_xor (n : Nat) : ∀ x y, T n (x ^^^ y) = T n x ^^^ T n y := by
  induction n with
  | zero => intro x y; rfl
  | succ n ih => intro x y; show T n (bit1 (x ^^^ y)) = _; rw [bit1_xor, ih]; rfl
theorem T_one : ∀ k : Fin 32, T k.val (BitVec.ofNat 32 (2 ^ k.val)) = 1#32 := by decide +kernel
theorem bit1_inj {x : BitVec 32} (h : bit1 x = 0#32) : x = 0#32 := by
  have hg : ∀ i, (bit1 x).getLsbD i = false := fun i => by rw [h]; simp
  unfold bit1 at hg
  by_cases h0 : x.getLsbD 0 = true
  · have := hg 31
    rw [if_pos h0, BitVec.getLsbD_xor, BitVec.getLsbD_ushiftRight] at this
    have e : x.getLsbD (1 + 31) = false := BitVec.getLsbD_of_ge _ _ (by omega)
    rw [e] at this
    exact absurd this (by decide)
  · rw [if_neg h0] at hg
    apply BitVec.eq_of_getLsbD_eq
    intro i hi
    cases i with
    | zero => simpa using h0
    | succ i =>
      have := hg i
      rw [BitVec.getLsbD_ushiftRight, Nat.add_comm] at this
      rw [this]; simp
theorem T_inj (n : Nat) : ∀ x, T n x = 0#32 → x = 0#32 := by
  induction n with
  | zero => intro x h; exact h
  | succ n ih => intro x h; exact bit1_inj (ih _ h)
theorem bits8_T (x : BitVec 32) : bits8 x = T 8 x := rfl
theorem crcFrom_cons (s : BitVec 32) (c : UInt8) (b : List UInt8) : crcFrom s (c :: b) = crcFrom (byte1 s c) b := rfl
theorem crcFrom_xor (b : List UInt8) : ∀ s d, crcFrom (s ^^^ d) b = crcFrom s b ^^^ T (8 * b.length) d := by
  induction b with
  | nil => intro s d; rfl
  | cons c b ih =>
    intro s d
    have e : byte1 (s ^^^ d) c = byte1 s c ^^^ T 8 d := by
      unfold byte1
      rw [bits8_T, bits8_T, BitVec.xor_assoc, BitVec.xor_comm d, ← BitVec.xor_assoc, T_xor]
    rw [crcFrom_cons, crcFrom_cons, e, ih, List.length_cons, show 8 * (b.length + 1) = 8 + 8 * b.length by omega, T_add]
/-- One bit of one byte changed. -/
def flipAt (l : List UInt8) (q r : Nat) : List UInt8 := l.set q (l.getD q 0 ^^^ (2 ^ r).toUInt8)
theorem flipAt_len (l : List UInt8) (q r : Nat) : (flipAt l q r).length = l.length := by simp [flipAt]
theorem byte1_flip (s : BitVec 32) (c : UInt8) {r : Nat} (hr : r < 8) : byte1 s (c ^^^ (2 ^ r).toUInt8) = byte1 s c ^^^ T (8 - r) 1#32 := by
  have hp : 2 ^ r < 256 := by
    have : 2 ^ r < 2 ^ 8 := Nat.pow_lt_pow_right (by omega) hr
    omega
  have e1 : BitVec.ofNat 32 (c ^^^ (2 ^ r).toUInt8).toNat = BitVec.ofNat 32 c.toNat ^^^ BitVec.ofNat 32 (2 ^ r) := by
    rw [UInt8.toNat_xor, u8n hp]
    apply BitVec.eq_of_getLsbD_eq
    intro i hi
    simp [hi]
  unfold byte1
  rw [bits8_T, bits8_T, e1, ← BitVec.xor_assoc, T_xor]
  have h8 : T 8 (BitVec.ofNat 32 (2 ^ r)) = T (8 - r) 1#32 := by
    rw [show (8 : Nat) = r + (8 - r) by omega, T_add, T_one ⟨r, by omega⟩, show r + (8 - r) - r = 8 - r by omega]
  rw [h8]
theorem flipAt_zero (c : UInt8) (b : List UInt8) (r : Nat) : flipAt (c :: b) 0 r = (c ^^^ (2 ^ r).toUInt8) :: b := rfl
theorem flipAt_succ (c : UInt8) (b : List UInt8) (q r : Nat) : flipAt (c :: b) (q + 1) r = c :: flipAt b q r := rfl
theorem crc_flip : ∀ (l : List UInt8) (s : BitVec 32) (q r : Nat), q < l.length → r < 8 → crcFrom s (flipAt l q r) = crcFrom s l ^^^ T (8 * l.length - (8 * q + r)) 1#32
  | [], s, q, r, hq, hr => by simp at hq
  | c :: b, s, 0, r, hq, hr => by
    rw [flipAt_zero, crcFrom_cons, crcFrom_cons, byte1_flip s c hr, crcFrom_xor, List.length_cons, show 8 * (b.length + 1) - (8 * 0 + r) = (8 - r) + 8 * b.length by omega, T_add]
  | c :: b, s, q + 1, r, hq, hr => by
    rw [List.length_cons] at hq
    rw [flipAt_succ, crcFrom_cons, crcFrom_cons, crc_flip b (byte1 s c) q r (by omega) hr, List.length_cons, show 8 * (b.length + 1) - (8 * (q + 1) + r) = 8 * b.length - (8 * q + r) by omega]
/-- The j lowest bits of V. -/
def lowB (V : Nat) : Nat → BitVec 32
  | 0 => 0#32
  | j + 1 => if V.testBit j then lowB V j ^^^ BitVec.ofNat 32 (2 ^ j) else lowB V j
theorem lowB_get (V : Nat) : ∀ j i, (lowB V j).getLsbD i = (decide (i < j) && decide (i < 32) && V.testBit i)
  | 0, i => by simp [lowB]
  | j + 1, i => by
    rw [lowB]
    by_cases hv : V.testBit j = true
    · rw [if_pos hv, BitVec.getLsbD_xor, lowB_get V j i, BitVec.getLsbD_ofNat, Nat.testBit_two_pow]
      by_cases h : i = j
      · subst h; simp [hv]
      · have e1 : decide (j = i) = false := by simp; omega
        have e2 : decide (i < j + 1) = decide (i < j) := by apply decide_eq_decide.2; omega
        rw [e1, e2]; simp
    · rw [if_neg hv, lowB_get V j i]
      by_cases h : i = j
      · subst h; simp at hv; simp [hv]
      · have e2 : decide (i < j + 1) = decide (i < j) := by apply decide_eq_decide.2; omega
        rw [e2]
theorem lowB_all {V : Nat} (hV : V < 4294967296) (h0 : V ≠ 0) : lowB V 32 ≠ 0#32 := by
  have e : lowB V 32 = BitVec.ofNat 32 V := by
    apply BitVec.eq_of_getLsbD_eq
    intro i hi
    rw [lowB_get, BitVec.getLsbD_ofNat]
    simp [hi]
  intro h
  rw [e] at h
  have := congrArg BitVec.toNat h
  rw [BitVec.toNat_ofNat] at this
  have : V % 2 ^ 32 = 0 := this
  omega
/-- What the changes up to bit j do to the sum of the body. -/
def Burst (S : BitVec 32) (body : List UInt8) (k V j : Nat) (l : List UInt8) : Prop :=
  l.length = body.length ∧ crcFrom S l = crcFrom S body ^^^ T (8 * body.length - k) (lowB V j)
theorem Burst.start (S : BitVec 32) (body : List UInt8) (k V : Nat) : Burst S body k V 0 body := by
  refine ⟨rfl, ?_⟩
  have : T (8 * body.length - k) (lowB V 0) = 0#32 := by
    have h := T_xor (8 * body.length - k) 0#32 0#32
    simp only [BitVec.xor_self] at h
    exact h
  rw [this]; simp
theorem Burst.keep {S : BitVec 32} {body l : List UInt8} {k V j : Nat} (h : Burst S body k V j l) (hv : V.testBit j = false) : Burst S body k V (j + 1) l := by
  refine ⟨h.1, ?_⟩
  rw [h.2, lowB, hv]; rfl
theorem Burst.flip {S : BitVec 32} {body l : List UInt8} {k V j : Nat} (h : Burst S body k V j l) (hv : V.testBit j = true) (hj : j < 32) (hk : k + 32 ≤ 8 * body.length) :
    Burst S body k V (j + 1) (flipAt l ((k + j) / 8) ((k + j) % 8)) := by
  refine ⟨(flipAt_len _ _ _).trans h.1, ?_⟩
  rw [crc_flip l S _ _ (by rw [h.1]; omega) (by omega), h.2, h.1, lowB, hv, if_pos rfl, T_xor, BitVec.xor_assoc]
  congr 2
  rw [show 8 * body.length - (8 * ((k + j) / 8) + (k + j) % 8) = 8 * body.length - k - j by omega]
  conv => rhs; rw [show 8 * body.length - k = j + (8 * body.length - k - j) by omega, T_add, T_one ⟨j, hj⟩]
theorem low4_inj {a b : BitVec 32} (h : low4 a = low4 b) : a = b := by
  simp only [low4, List.cons.injEq, and_true] at h
  obtain ⟨h0, h1, h2, h3⟩ := h
  have ha := a.isLt
  have hb := b.isLt
  have h0 := congrArg UInt8.toNat h0
  have h1 := congrArg UInt8.toNat h1
  have h2 := congrArg UInt8.toNat h2
  have h3 := congrArg UInt8.toNat h3
  rw [u8n (by omega), u8n (by omega)] at h0 h1 h2 h3
  apply BitVec.eq_of_toNat_eq
  omega
theorem crc_app (a b : List UInt8) : crc (a ++ b) = ~~~ crcFrom (crcFrom (BitVec.allOnes 32) a) b := by
  unfold crc crcFrom
  rw [List.foldl_append]
/-- A frame whose body was changed within 32 bits is not opened. -/
theorem rdOpen_burst {kd : Int} {body l : List UInt8} {k V : Nat} (h1 : 1 ≤ kd) (h2 : kd ≤ 255) (hb : body.length ≤ 16777216) (hV : V < 4294967296) (h0 : V ≠ 0)
    (h : Burst (crcFrom (BitVec.allOnes 32) (65 :: 71 :: kd.toNat.toUInt8 :: enU body.length)) body k V 32 l) :
    rdOpen ((65 :: 71 :: kd.toNat.toUInt8 :: enU body.length) ++ (l ++ low4 (crc (sealB kd body)))) = (0, [], 0, 4) := by
  have e : ∀ x : List UInt8, x.length = body.length → (65 :: 71 :: kd.toNat.toUInt8 :: enU body.length) ++ x = sealB kd x := by
    intro x hx; unfold sealB; rw [hx]; rfl
  rw [← List.append_assoc, e l h.1, rdOpen_seal h1 h2 (by rw [h.1]; exact hb) (by rw [low4_len]; omega), if_pos]
  rw [show (4 : Nat) = (low4 (crc (sealB kd body))).length from rfl, List.take_length]
  intro hc
  have hc := low4_inj hc
  rw [← e l h.1, ← e body rfl, crc_app, crc_app] at hc
  have hc := congrArg (fun x => ~~~ x) hc
  simp only [BitVec.not_not] at hc
  have h3 := h.2
  rw [← hc] at h3
  have h4 : T (8 * body.length - k) (lowB V 32) = 0#32 := by
    have := congrArg (fun x => crcFrom (crcFrom (BitVec.allOnes 32) (65 :: 71 :: kd.toNat.toUInt8 :: enU body.length)) body ^^^ x) h3
    simp only [← BitVec.xor_assoc, BitVec.xor_self, BitVec.zero_xor] at this
    exact this.symm
  exact lowB_all hV h0 (T_inj _ _ h4)
end Go.Proofs.Yteiolhbjgfkdeaa.W
