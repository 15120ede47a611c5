import Derived.Laws.BitsAllLaws
import Derived.Test.YtipipjbpjpdcbaaDoorProg
import Derived.WalkKit
import Derived.BigGuardPart
import Derived.Lib.Hide
import Derived.Below
import Derived.Deep.QuietTactic
import Derived.BigQuiet
/- Hashing as data: the mixing of words, its inverse, and what the walks take. -/
namespace Go.Proofs.YtipipjbpjpdcbaaDoor.H
set_option linter.unusedVariables false
def fold (s : Nat) (x : BitVec 64) : BitVec 64 := x ^^^ (x >>> s)
def unf (s : Nat) (y : BitVec 64) : BitVec 64 := fold (2 * s) (fold s y)
theorem unf_fold {s : Nat} (hs : 16 ≤ s) (x : BitVec 64) : unf s (fold s x) = x := by
  apply BitVec.eq_of_getLsbD_eq
  intro i hi
  unfold unf fold
  simp only [BitVec.getLsbD_xor, BitVec.getLsbD_ushiftRight]
  rw [show s + (s + i) = 2 * s + i by omega, show s + (2 * s + i) = 3 * s + i by omega, show s + (3 * s + i) = 4 * s + i by omega, BitVec.getLsbD_of_ge x (4 * s + i) (by omega)]
  generalize x.getLsbD i = a
  generalize x.getLsbD (s + i) = b
  generalize x.getLsbD (2 * s + i) = c
  generalize x.getLsbD (3 * s + i) = d
  revert a b c d
  decide
theorem fold_unf {s : Nat} (hs : 16 ≤ s) (x : BitVec 64) : fold s (unf s x) = x := by
  apply BitVec.eq_of_getLsbD_eq
  intro i hi
  unfold unf fold
  simp only [BitVec.getLsbD_xor, BitVec.getLsbD_ushiftRight]
  rw [show s + (2 * s + i) = 3 * s + i by omega, show 2 * s + (s + i) = 3 * s + i by omega, show s + (3 * s + i) = 4 * s + i by omega, show s + (s + i) = 2 * s + i by omega, BitVec.getLsbD_of_ge x (4 * s + i) (by omega)]
  generalize x.getLsbD i = a
  generalize x.getLsbD (s + i) = b
  generalize x.getLsbD (2 * s + i) = c
  generalize x.getLsbD (3 * s + i) = d
  revert a b c d
  decide
def F0 : BitVec 64 := 0xbf58476d1ce4e5b9#64
def F1 : BitVec 64 := 0x94d049bb133111eb#64
def I0 : BitVec 64 := 0x96de1b173f119089#64
def I1 : BitVec 64 := 0x319642b2d24d8ec3#64
def STR : BitVec 64 := 0x9e3779b97f4a7c15#64
def STRI : BitVec 64 := 0xf1de83e19937733d#64
def mix (x : BitVec 64) : BitVec 64 := fold 31 (fold 27 (fold 30 x * F0) * F1)
def unmix (y : BitVec 64) : BitVec 64 := unf 30 (unf 27 (unf 31 y * I1) * I0)
theorem f0 (x : BitVec 64) : x * F0 * I0 = x := by
  rw [BitVec.mul_assoc, show F0 * I0 = 1#64 by decide, BitVec.mul_one]
theorem f0' (x : BitVec 64) : x * I0 * F0 = x := by
  rw [BitVec.mul_assoc, show I0 * F0 = 1#64 by decide, BitVec.mul_one]
theorem f1 (x : BitVec 64) : x * F1 * I1 = x := by
  rw [BitVec.mul_assoc, show F1 * I1 = 1#64 by decide, BitVec.mul_one]
theorem f1' (x : BitVec 64) : x * I1 * F1 = x := by
  rw [BitVec.mul_assoc, show I1 * F1 = 1#64 by decide, BitVec.mul_one]
theorem unmix_mix (x : BitVec 64) : unmix (mix x) = x := by
  unfold unmix mix
  rw [unf_fold (by decide), f1, unf_fold (by decide), f0, unf_fold (by decide)]
theorem mix_unmix (x : BitVec 64) : mix (unmix x) = x := by
  unfold unmix mix
  rw [fold_unf (by decide), f0', fold_unf (by decide), f1', fold_unf (by decide)]
theorem mix_inj {x y : BitVec 64} : mix x = mix y ↔ x = y := ⟨fun h => by rw [← unmix_mix x, h, unmix_mix], fun h => by rw [h]⟩
theorem unmix_inj {x y : BitVec 64} : unmix x = unmix y ↔ x = y := ⟨fun h => by rw [← mix_unmix x, h, mix_unmix], fun h => by rw [h]⟩
def comb (h x : BitVec 64) : BitVec 64 := mix (h + STR * (x + 1#64))
theorem str_inj {x y : BitVec 64} (h : STR * x = STR * y) : x = y := by
  have e : ∀ z, STRI * (STR * z) = z := fun z => by rw [← BitVec.mul_assoc, show STRI * STR = 1#64 by decide, BitVec.one_mul]
  rw [← e x, h, e]
theorem comb_inj2 {h x y : BitVec 64} : comb h x = comb h y ↔ x = y := by
  refine ⟨fun e => ?_, fun e => by rw [e]⟩
  have := mix_inj.1 e
  rw [BitVec.add_right_inj] at this
  have := str_inj this
  rwa [BitVec.add_left_inj] at this
theorem comb_inj1 {h x y : BitVec 64} : comb x h = comb y h ↔ x = y := by
  refine ⟨fun e => ?_, fun e => by rw [e]⟩
  have := mix_inj.1 e
  rwa [BitVec.add_left_inj] at this
def step (h : BitVec 64) (c : UInt8) : BitVec 64 := (h ^^^ BitVec.ofNat 64 c.toNat) * 1099511628211#64
def text (s : List UInt8) : BitVec 64 := mix (s.foldl step 14695981039346656037#64)
def wordOf (i : Int) : BitVec 64 := BitVec.ofInt 64 i
theorem word_inj {a b : Int} (ha : -9223372036854775808 ≤ a ∧ a ≤ 9223372036854775807) (hb : -9223372036854775808 ≤ b ∧ b ≤ 9223372036854775807) : wordOf a = wordOf b ↔ a = b := by
  refine ⟨fun h => ?_, fun h => by rw [h]⟩
  have := congrArg BitVec.toNat h
  unfold wordOf at this
  rw [BitVec.toNat_ofInt, BitVec.toNat_ofInt] at this
  have e : ((2 ^ 64 : Nat) : Int) = 18446744073709551616 := by decide
  rw [e] at this
  omega
/-! ### what the walks take -/
theorem xor_walk (a b : BitVec 64) : bits .xor .u64 (a.toNat : Int) (b.toNat : Int) = (((a ^^^ b).toNat : Nat) : Int) := by
  rw [u64_xor_nat _ _ a.isLt b.isLt, BitVec.toNat_xor]
theorem shr_walk (a : BitVec 64) (s : Nat) (d : Int) (hd : d = ((2 ^ s : Nat) : Int)) : (a.toNat : Int) / d = (((a >>> s).toNat : Nat) : Int) := by
  rw [hd, BitVec.toNat_ushiftRight, Nat.shiftRight_eq_div_pow]
  omega
theorem fold_walk (a : BitVec 64) (s : Nat) (d : Int) (hd : d = ((2 ^ s : Nat) : Int)) : bits .xor .u64 (a.toNat : Int) ((a.toNat : Int) / d) = (((fold s a).toNat : Nat) : Int) := by
  rw [shr_walk a s d hd, xor_walk]; rfl
theorem mul_walk (a f : BitVec 64) (c : Int) (hc : c = (f.toNat : Int)) : IntKind.u64.wrap ((a.toNat : Int) * c) = (((a * f).toNat : Nat) : Int) := by
  rw [IntKind.wrap_u64, hc, BitVec.toNat_mul, Int.natCast_emod, Int.natCast_mul]
  rfl
theorem lmul_walk (f a : BitVec 64) (c : Int) (hc : c = (f.toNat : Int)) : IntKind.u64.wrap (c * (a.toNat : Int)) = (((f * a).toNat : Nat) : Int) := by
  rw [IntKind.wrap_u64, hc, BitVec.toNat_mul, Int.natCast_emod, Int.natCast_mul]
  rfl
theorem add_walk (a b : BitVec 64) : IntKind.u64.wrap ((a.toNat : Int) + (b.toNat : Int)) = (((a + b).toNat : Nat) : Int) := by
  rw [IntKind.wrap_u64, BitVec.toNat_add, Int.natCast_emod, Int.natCast_add]
  rfl
theorem inc_walk (a : BitVec 64) : IntKind.u64.wrap ((a.toNat : Int) + 1) = (((a + 1#64).toNat : Nat) : Int) := add_walk a 1#64
theorem int_word (i : Int) : IntKind.u64.wrap i = ((wordOf i).toNat : Int) := by
  rw [IntKind.wrap_u64]
  unfold wordOf
  rw [BitVec.toNat_ofInt]
  have e : ((2 ^ 64 : Nat) : Int) = 18446744073709551616 := by decide
  rw [e]
  omega
theorem eq_walk (a b : BitVec 64) : ((a.toNat : Int) == (b.toNat : Int)) = decide (a = b) := by
  by_cases h : a = b
  · subst h; simp
  · rw [decide_eq_false h]
    exact beq_eq_false_iff_ne.2 fun e => h (BitVec.eq_of_toNat_eq (by omega))
end Go.Proofs.YtipipjbpjpdcbaaDoor.H

/- The contracts of hashing.Mix, Combine, Position and of the reference's, for a seat that reaches two of the tables (the shifts and the factors). -/
namespace Go.Proofs.YtipipjbpjpdcbaaDoor.H
set_option linter.unusedVariables false
open Go.RowKit

/-- The two tables lie in their blocks. -/
structure Tab (w : World) : Prop where
  s0 : w.cell? ⟨0, 0, none⟩ = some (.int .u64 30)
  s1 : w.cell? ⟨0, 1, none⟩ = some (.int .u64 27)
  s2 : w.cell? ⟨0, 2, none⟩ = some (.int .u64 31)
  f0 : w.cell? ⟨1, 0, none⟩ = some (.int .u64 13787848793156543929)
  f1 : w.cell? ⟨1, 1, none⟩ = some (.int .u64 10723151780598845931)
theorem cell_lt {w : World} {p : Addr} {v : Value} (h : w.cell? p = some v) : p.block < w.heap.size := by
  by_cases hc : p.block < w.heap.size
  · exact hc
  · have : w.heap[p.block]? = none := by simp; omega
    simp [World.cell?, this] at h
theorem Tab.on {w W : World} (h : Tab w) (hb : Below w.heap.size w W) : Tab W :=
  ⟨(hb.cell (cell_lt h.s0)).trans h.s0, (hb.cell (cell_lt h.s1)).trans h.s1, (hb.cell (cell_lt h.s2)).trans h.s2, (hb.cell (cell_lt h.f0)).trans h.f0, (hb.cell (cell_lt h.f1)).trans h.f1⟩
theorem Tab.drewN {w : World} (h : Tab w) (k : Nat) : Tab (w.drewN k) := ⟨h.s0, h.s1, h.s2, h.f0, h.f1⟩
theorem below_drewN {B : Nat} {a w : World} (h : Below B a w) (n : Nat) : Below B a (w.drewN n) := ⟨h.os, h.tape, h.output, h.size, h.block⟩
/-- What a pure function of words leaves: the word, and nothing written. -/
def Gives (w : World) (r : BitVec 64) (e : Ending) (w' : World) : Prop := e = .returned (.int .u64 (r.toNat : Int)) ∧ ∃ k, w' = w.drewN k
theorem Gives.of {w : World} {a r : BitVec 64} {k : Nat} (h : a = r) : Gives w r (.returned (.int .u64 (a.toNat : Int))) (w.drewN k) := ⟨by rw [h], k, rfl⟩
theorem Gives.of0 {w : World} {a r : BitVec 64} (h : a = r) : Gives w r (.returned (.int .u64 (a.toNat : Int))) w := ⟨by rw [h], 0, rfl⟩
set_option maxRecDepth 100000 in
set_option maxHeartbeats 400000 in
theorem refMix_any (x : BitVec 64) (w : World) : Calls Tryd.prog 85 #[.int .u64 (x.toNat : Int)] w (Gives w (mix x)) := by
  have h1 := fold_walk x 30 1073741824 (by decide)
  have h2 := mul_walk (fold 30 x) F0 13787848793156543929 (by decide)
  have h3 := fold_walk (fold 30 x * F0) 27 134217728 (by decide)
  have h4 := mul_walk (fold 27 (fold 30 x * F0)) F1 10723151780598845931 (by decide)
  have h5 := fold_walk (fold 27 (fold 30 x * F0) * F1) 31 2147483648 (by decide)
  have hr : mix x = fold 31 (fold 27 (fold 30 x * F0) * F1) := rfl
  rw [hr]
  generalize fold 31 (fold 27 (fold 30 x * F0) * F1) = p5 at *
  generalize fold 27 (fold 30 x * F0) * F1 = p4 at *
  generalize fold 27 (fold 30 x * F0) = p3 at *
  generalize fold 30 x * F0 = p2 at *
  generalize fold 30 x = p1 at *
  have b0 := x.isLt
  have b1 := p1.isLt
  have b2 := p2.isLt
  have b3 := p3.isLt
  have b4 := p4.isLt
  clear hr
  go_enter Tryd.func85, Tryd.ntmps85
  go_wp2
  go_ret
  exact Gives.of0 rfl
set_option maxRecDepth 100000 in
set_option maxHeartbeats 400000 in
theorem mix_any (x : BitVec 64) (w : World) (ht : Tab w) : Calls Tryd.prog 95 #[.int .u64 (x.toNat : Int)] w (Gives w (mix x)) := by
  have h1 := fold_walk x 30 1073741824 (by decide)
  have h2 := mul_walk (fold 30 x) F0 13787848793156543929 (by decide)
  have h3 := fold_walk (fold 30 x * F0) 27 134217728 (by decide)
  have h4 := mul_walk (fold 27 (fold 30 x * F0)) F1 10723151780598845931 (by decide)
  have h5 := fold_walk (fold 27 (fold 30 x * F0) * F1) 31 2147483648 (by decide)
  have hr : mix x = fold 31 (fold 27 (fold 30 x * F0) * F1) := rfl
  rw [hr]
  generalize fold 31 (fold 27 (fold 30 x * F0) * F1) = p5 at *
  generalize fold 27 (fold 30 x * F0) * F1 = p4 at *
  generalize fold 27 (fold 30 x * F0) = p3 at *
  generalize fold 30 x * F0 = p2 at *
  generalize fold 30 x = p1 at *
  have b0 := x.isLt
  have b1 := p1.isLt
  have b2 := p2.isLt
  have b3 := p3.isLt
  have b4 := p4.isLt
  clear hr
  obtain ⟨s0, s1, s2, f0, f1⟩ := ht
  go_enter Tryd.func95, Tryd.ntmps95
  go_wp2
  go_loopw [0, 4] (fun v i wr => (i = .int .i64 0 ∧ v = .int .u64 (x.toNat : Int) ∧ ∃ k, wr = w.drewN k) ∨ (i = .int .i64 1 ∧ v = .int .u64 (p2.toNat : Int) ∧ ∃ k, wr = w.drewN k) ∨ (i = .int .i64 2 ∧ v = .int .u64 (p4.toNat : Int) ∧ ∃ k, wr = w.drewN k)) (fun _ i _ => 2 - (intOf i).toNat)
  case atStart => exact .inl ⟨rfl, rfl, 0, rfl⟩
  case round =>
    rcases hrel with ⟨rfl, rfl, k, rfl⟩ | ⟨rfl, rfl, k, rfl⟩ | ⟨rfl, rfl, k, rfl⟩
    · go_wp2_with fail
      go_quiet (fail)
      go_wp2_with fail
      go_roundw
      case rel => exact .inr (.inl ⟨rfl, rfl, _, rfl⟩)
      case measure => simp [intOf]
    · go_wp2_with fail
      go_quiet (fail)
      go_wp2_with fail
      go_roundw
      case rel => exact .inr (.inr ⟨rfl, rfl, _, rfl⟩)
      case measure => simp [intOf]
    · go_wp2
      go_ret
      exact Gives.of rfl
theorem Gives.trans {w : World} {r : BitVec 64} {k : Nat} {e : Ending} {w' : World} (h : Gives (w.drewN k) r e w') : Gives w r e w' := by
  obtain ⟨h1, m, rfl⟩ := h
  exact ⟨h1, _, World.drewN_drewN _ _ _⟩
set_option maxRecDepth 100000 in
theorem combine_any (h x : BitVec 64) (w : World) (ht : Tab w) : Calls Tryd.prog 91 #[.int .u64 (h.toNat : Int), .int .u64 (x.toNat : Int)] w (Gives w (comb h x)) := by
  have h1 := inc_walk x
  have h2 := lmul_walk STR (x + 1#64) 11400714819323198485 (by decide)
  have h3 := add_walk h (STR * (x + 1#64))
  have C := Lib.hid (fun W hW => mix_any (h + STR * (x + 1#64)) W hW)
  have hr : comb h x = mix (h + STR * (x + 1#64)) := rfl
  rw [hr]
  generalize mix (h + STR * (x + 1#64)) = p4 at *
  generalize h + STR * (x + 1#64) = p3 at *
  generalize STR * (x + 1#64) = p2 at *
  generalize x + 1#64 = p1 at *
  have b0 := x.isLt
  have bh := h.isLt
  have b1 := p1.isLt
  have b2 := p2.isLt
  have b3 := p3.isLt
  clear hr
  go_enter Tryd.func91, Tryd.ntmps91
  go_wp2_with (go_at_call 95; refine (C.out _ ht).mono ?_; rintro e w' ⟨rfl, k, rfl⟩)
  go_ret
  exact Gives.of rfl
set_option maxRecDepth 100000 in
theorem refCombine_any (h x : BitVec 64) (w : World) : Calls Tryd.prog 77 #[.int .u64 (h.toNat : Int), .int .u64 (x.toNat : Int)] w (Gives w (comb h x)) := by
  have h1 := inc_walk x
  have h2 := lmul_walk STR (x + 1#64) 11400714819323198485 (by decide)
  have h3 := add_walk h (STR * (x + 1#64))
  have C := Lib.hid (fun W => refMix_any (h + STR * (x + 1#64)) W)
  have hr : comb h x = mix (h + STR * (x + 1#64)) := rfl
  rw [hr]
  generalize mix (h + STR * (x + 1#64)) = p4 at *
  generalize h + STR * (x + 1#64) = p3 at *
  generalize STR * (x + 1#64) = p2 at *
  generalize x + 1#64 = p1 at *
  have b0 := x.isLt
  have bh := h.isLt
  have b1 := p1.isLt
  have b2 := p2.isLt
  have b3 := p3.isLt
  clear hr
  go_enter Tryd.func77, Tryd.ntmps77
  go_wp2_with (go_at_call 85; refine (C.out _).mono ?_; rintro e w' ⟨rfl, k, rfl⟩)
  go_ret
  exact Gives.of rfl
def posW (ring id : Int) : BitVec 64 := comb (wordOf ring) (wordOf id)
theorem posW_inj {r a b : Int} (ha : -9223372036854775808 ≤ a ∧ a ≤ 9223372036854775807) (hb : -9223372036854775808 ≤ b ∧ b ≤ 9223372036854775807) : posW r a = posW r b ↔ a = b := by
  unfold posW
  rw [comb_inj2, word_inj ha hb]
set_option maxRecDepth 100000 in
theorem position_any (ring id : Int) (w : World) (ht : Tab w) : Calls Tryd.prog 83 #[.int .i64 ring, .int .i64 id] w (Gives w (posW ring id)) := by
  have h1 := int_word ring
  have h2 := int_word id
  have C := Lib.hid (combine_any (wordOf ring) (wordOf id) w ht)
  have hr : posW ring id = comb (wordOf ring) (wordOf id) := rfl
  rw [hr]
  generalize comb (wordOf ring) (wordOf id) = r at *
  generalize wordOf ring = a at *
  generalize wordOf id = b at *
  clear hr
  go_enter Tryd.func83, Tryd.ntmps83
  go_wp2_with (go_at_call 91; refine C.out.mono ?_; rintro e w' ⟨rfl, q, rfl⟩)
  go_ret
  exact Gives.of rfl
set_option maxRecDepth 100000 in
theorem refPosition_any (ring id : Int) (w : World) : Calls Tryd.prog 62 #[.int .i64 ring, .int .i64 id] w (Gives w (posW ring id)) := by
  have h1 := int_word ring
  have h2 := int_word id
  have C := Lib.hid (refCombine_any (wordOf ring) (wordOf id) w)
  have hr : posW ring id = comb (wordOf ring) (wordOf id) := rfl
  rw [hr]
  generalize comb (wordOf ring) (wordOf id) = r at *
  generalize wordOf ring = a at *
  generalize wordOf id = b at *
  clear hr
  go_enter Tryd.func62, Tryd.ntmps62
  go_wp2_with (go_at_call 77; refine C.out.mono ?_; rintro e w' ⟨rfl, q, rfl⟩)
  go_ret
  exact Gives.of rfl
end Go.Proofs.YtipipjbpjpdcbaaDoor.H
