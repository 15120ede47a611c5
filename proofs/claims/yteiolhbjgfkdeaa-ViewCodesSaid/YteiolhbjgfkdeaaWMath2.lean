/- The plain laws of the encodings: what is decoded of an encoding; what a decoded text begins with; prefixes. -/
import Derived.Test.YteiolhbjgfkdeaaWMath
namespace Go.Proofs.Yteiolhbjgfkdeaa.W
set_option linter.unusedVariables false
open Go.Lib (uvarint zigzag unzigzag uvarint_small uvarint_big uvarint_pos)

theorem rdLen_back {v : Nat} {max : Int} (h : v < 18446744073709551616) (hm : (v : Int) ≤ max) (r : List UInt8) : rdLen (enU v ++ r) max = (v, (enU v).length, 0) := by
  unfold rdLen
  rw [rdU_back h r, if_neg (by omega), if_neg (by simp), if_neg (by simp; omega)]
theorem rdS_back {s : List UInt8} {max : Int} (hl : s.length < 18446744073709551616) (hm : (s.length : Int) ≤ max) (r : List UInt8) : rdS (enS s ++ r) max = (s, (enS s).length, 0) := by
  unfold rdS enS
  rw [List.append_assoc, rdLen_back hl hm, if_neg (by simp), if_neg (by simp)]
  simp
theorem drop_app {α : Type} {a b l : List α} {n : Nat} (h : l.drop n = a ++ b) : l.drop (n + a.length) = b := by
  rw [← List.drop_drop, h, List.drop_left]
theorem rdLoop_back {α : Type} {el : List UInt8 → α × Nat × Nat} {en : α → List UInt8} (ok : α → Prop) (hel : ∀ x r, ok x → el (en x ++ r) = (x, (en x).length, 0)) {b : List UInt8} :
    ∀ (l : List α) (out : List α) (n : Nat) (r : List UInt8), (∀ x ∈ l, ok x) → b.drop n = l.flatMap en ++ r → rdLoop el b l.length out n = (out ++ l, n + (l.flatMap en).length, 0)
  | [], out, n, r, _, _ => by simp [rdLoop]
  | x :: l, out, n, r, hok, hb => by
    rw [List.flatMap_cons, List.append_assoc] at hb
    have he := hel x (l.flatMap en ++ r) (hok x (by simp))
    rw [List.length_cons, rdLoop, hb, he, if_neg (by simp)]
    rw [rdLoop_back ok hel l _ _ r (fun y hy => hok y (by simp [hy])) (drop_app hb)]
    simp [Nat.add_assoc]
theorem rdIs_back {l : List Int} {max : Int} (hm : (l.length : Int) ≤ max) (hlt : l.length < 18446744073709551616) (hl : ∀ x ∈ l, In64 x) (r : List UInt8) : rdIs (enIs l ++ r) max = (l, (enIs l).length, 0) := by
  unfold rdIs rdL enIs
  rw [List.append_assoc, rdLen_back hlt hm, if_neg (by simp)]
  have := rdLoop_back (el := rdI) (en := enI) In64 (fun x r hx => rdI_back hx r) (b := enU l.length ++ (l.flatMap enI ++ r)) l [] (enU l.length).length r hl (by simp)
  rw [this]
  simp
theorem rdSs_back {l : List (List UInt8)} {max : Int} (hm : (l.length : Int) ≤ max) (hlt : l.length < 18446744073709551616) (hl : ∀ x ∈ l, x.length ≤ 64) (r : List UInt8) : rdSs (enSs l ++ r) max = (l, (enSs l).length, 0) := by
  unfold rdSs rdL enSs
  rw [List.append_assoc, rdLen_back hlt hm, if_neg (by simp)]
  have := rdLoop_back (el := rdS64) (en := enS) (fun x => x.length ≤ 64) (fun x r hx => rdS_back (max := 64) (by omega) (by omega) r) (b := enU l.length ++ (l.flatMap enS ++ r)) l [] (enU l.length).length r hl (by simp)
  rw [this]
  simp
theorem gv_ext {a b : GV} (h1 : a.kind = b.kind) (h2 : a.n = b.n) (h3 : a.s = b.s) (h4 : a.i = b.i) (h5 : a.l = b.l) : a = b := by
  cases a; cases b; simp_all
theorem tooL_no {l : List (List UInt8)} (h : tooL l = false) : ∀ s ∈ l, s.length ≤ 64 := by
  intro s hs
  have := (List.any_eq_false.1 h) s hs
  simpa using this
theorem tooL_of {l : List (List UInt8)} (h : ∀ s ∈ l, s.length ≤ 64) : tooL l = false := by
  unfold tooL
  rw [List.any_eq_false]
  intro s hs
  have := h s hs
  simp; omega
/-- What a valid value is, kind by kind. -/
theorem GV.ok_iff (v : GV) : v.ok = true ↔
    (v.kind = 0 ∧ v.n = 0 ∧ v.s = [] ∧ v.i = [] ∧ v.l = []) ∨ (v.kind = 1 ∧ v.s = [] ∧ v.i = [] ∧ v.l = []) ∨
    (v.kind = 2 ∧ (v.n = 0 ∨ v.n = 1) ∧ v.s = [] ∧ v.i = [] ∧ v.l = []) ∨ (v.kind = 3 ∧ v.s.length ≤ 64 ∧ v.n = 0 ∧ v.i = [] ∧ v.l = []) ∨
    (v.kind = 4 ∧ v.i.length ≤ 16 ∧ v.n = 0 ∧ v.s = [] ∧ v.l = []) ∨ (v.kind = 5 ∧ v.l.length ≤ 16 ∧ tooL v.l = false ∧ v.n = 0 ∧ v.s = [] ∧ v.i = []) := by
  have hi : (v.i.length : Int) = 0 ↔ v.i = [] := by rw [← List.length_eq_zero_iff]; omega
  have hl : (v.l.length : Int) = 0 ↔ v.l = [] := by rw [← List.length_eq_zero_iff]; omega
  unfold GV.ok
  simp only [Bool.or_eq_true, Bool.and_eq_true, beq_iff_eq, decide_eq_true_eq, Bool.not_eq_true', List.isEmpty_iff, hi, hl]
  have e1 : ((v.s.length : Int) ≤ 64) = (v.s.length ≤ 64) := by apply propext; omega
  have e2 : ((v.i.length : Int) ≤ 16) = (v.i.length ≤ 16) := by apply propext; omega
  have e3 : ((v.l.length : Int) ≤ 16) = (v.l.length ≤ 16) := by apply propext; omega
  rw [e1, e2, e3]
  constructor <;> intro h <;> simp only [and_assoc, or_assoc] at h ⊢ <;> exact h
end Go.Proofs.Yteiolhbjgfkdeaa.W
