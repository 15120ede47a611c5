/- The walks of the laws of hashing: each returns true, whatever comes in. -/
import Derived.Test.YtecjnojbnklbbaaDoorHLow
import Derived.Deep.RegionHeld3
import Derived.Deep.DeepCutAuto
import Derived.Deep.Cut
namespace Go.Proofs.YtecjnojbnklbbaaDoor.H
set_option linter.unusedVariables false
open Go.RowKit
theorem beqF {a b : Int} (h : a ≠ b) : (a == b) = false := beq_eq_false_iff_ne.2 h
theorem beqT {a b : Int} (h : a = b) : (a == b) = true := beq_iff_eq.2 h
theorem neW {a b : BitVec 64} (h : a ≠ b) : ((a.toNat : Int) == (b.toNat : Int)) = false := beqF fun e => h (BitVec.eq_of_toNat_eq (by omega))
theorem eqW {a b : BitVec 64} (h : a = b) : ((a.toNat : Int) == (b.toNat : Int)) = true := by rw [h]; exact beqT rfl
section
variable {w W : World}
theorem mix_at (x r : BitVec 64) (hr : mix x = r) (ht : Tab w) (hb : Below w.heap.size w W) : Calls Tryd.prog 9 #[.int .u64 (x.toNat : Int)] W (Lays W r) := by
  subst hr; exact (mix_any x W (ht.on hb)).mono fun _ _ h => h.lays
theorem refMix_at (x r : BitVec 64) (hr : mix x = r) : Calls Tryd.prog 10 #[.int .u64 (x.toNat : Int)] W (Lays W r) := by
  subst hr; exact (refMix_any x W).mono fun _ _ h => h.lays
theorem unmix_at (x r : BitVec 64) (hr : unmix x = r) (ht : Tab w) (hb : Below w.heap.size w W) : Calls Tryd.prog 11 #[.int .u64 (x.toNat : Int)] W (Lays W r) := by
  subst hr; exact (unmix_any x W (ht.on hb)).mono fun _ _ h => h.lays
theorem comb_at (x y r : BitVec 64) (hr : comb x y = r) (ht : Tab w) (hb : Below w.heap.size w W) : Calls Tryd.prog 12 #[.int .u64 (x.toNat : Int), .int .u64 (y.toNat : Int)] W (Lays W r) := by
  subst hr; exact (combine_any x y W (ht.on hb)).mono fun _ _ h => h.lays
theorem refComb_at (x y r : BitVec 64) (hr : comb x y = r) : Calls Tryd.prog 13 #[.int .u64 (x.toNat : Int), .int .u64 (y.toNat : Int)] W (Lays W r) := by
  subst hr; exact (refCombine_any x y W).mono fun _ _ h => h.lays
theorem text_at (s : List UInt8) (r : BitVec 64) (hr : text s = r) (hs : s.length ≤ 1000) (ht : Tab w) (hb : Below w.heap.size w W) : Calls Tryd.prog 14 #[.string ⟨s.toArray⟩] W (Lays W r) := by
  subst hr; exact (text_any s W (by omega) (ht.on hb)).mono fun _ _ h => h.lays
theorem refText_at (s : List UInt8) (r : BitVec 64) (hr : text s = r) (hs : s.length ≤ 1000) : Calls Tryd.prog 15 #[.string ⟨s.toArray⟩] W (Lays W r) := by
  subst hr; exact (refText_any s W (by omega)).mono fun _ _ h => h.lays
theorem pos_at (a b : Int) (r : BitVec 64) (hr : posW a b = r) (ht : Tab w) (hb : Below w.heap.size w W) : Calls Tryd.prog 16 #[.int .i64 a, .int .i64 b] W (Lays W r) := by
  subst hr; exact (position_any a b W (ht.on hb)).mono fun _ _ h => h.lays
theorem refPos_at (a b : Int) (r : BitVec 64) (hr : posW a b = r) : Calls Tryd.prog 17 #[.int .i64 a, .int .i64 b] W (Lays W r) := by
  subst hr; exact (refPosition_any a b W).mono fun _ _ h => h.lays
theorem tok_at (a b : Int) (r : BitVec 64) (hr : tokW a b = r) (ht : Tab w) (hb : Below w.heap.size w W) : Calls Tryd.prog 18 #[.int .i64 a, .int .i64 b] W (Lays W r) := by
  subst hr; exact (token_any a b W (ht.on hb)).mono fun _ _ h => h.lays
theorem refTok_at (a b : Int) (r : BitVec 64) (hr : tokW a b = r) : Calls Tryd.prog 19 #[.int .i64 a, .int .i64 b] W (Lays W r) := by
  subst hr; exact (refToken_any a b W).mono fun _ _ h => h.lays
theorem act_at (t k : List UInt8) (r : BitVec 64) (hr : actW t k = r) (h1 : t.length ≤ 500) (h2 : k.length ≤ 500) (ht : Tab w) (hb : Below w.heap.size w W) : Calls Tryd.prog 20 #[.agg #[.string ⟨t.toArray⟩, .string ⟨k.toArray⟩]] W (Lays W r) := by
  subst hr; exact actor_any t k W (by omega) (by omega) (ht.on hb)
theorem refAct_at (t k : List UInt8) (r : BitVec 64) (hr : actW t k = r) (h1 : t.length ≤ 500) (h2 : k.length ≤ 500) : Calls Tryd.prog 21 #[.agg #[.string ⟨t.toArray⟩, .string ⟨k.toArray⟩]] W (Lays W r) := by
  subst hr; exact refActor_any t k W (by omega) (by omega)
end
theorem pos_inj {r a b : Int} (ha : In64 a) (hb : In64 b) : posW r a = posW r b ↔ a = b := comb_inj2.trans (word_inj ha hb)
theorem tok_inj2 {r a b : Int} (ha : In64 a) (hb : In64 b) : tokW r a = tokW r b ↔ a = b := comb_inj2.trans (word_inj ha hb)
theorem tok_inj1 {r a b : Int} (ha : In64 a) (hb : In64 b) : tokW a r = tokW b r ↔ a = b := comb_inj1.trans (comb_inj2.trans (word_inj ha hb))

set_option maxRecDepth 100000 in
set_option maxHeartbeats 2000000 in
theorem mixes_yes (x : BitVec 64) (w : World) (ht : Tab w) :
    Calls Tryd.prog 3 #[.int .u64 (x.toNat : Int)] w fun e w' => e = .returned (.bool true) ∧ Below w.heap.size w w' := by
  have CA := Lib.hid (awake_any w ht)
  have C1 := Lib.hid (fun W (hb : Below w.heap.size w W) => mix_at x (mix x) rfl ht hb)
  have C2 := Lib.hid (fun W (hb : Below w.heap.size w W) => refMix_at (W := W) x (mix x) rfl)
  have C3 := Lib.hid (fun W (hb : Below w.heap.size w W) => unmix_at (mix x) x (unmix_mix x) ht hb)
  have C4 := Lib.hid (fun W (hb : Below w.heap.size w W) => unmix_at x (unmix x) rfl ht hb)
  have C5 := Lib.hid (fun W (hb : Below w.heap.size w W) => mix_at (unmix x) x (mix_unmix x) ht hb)
  generalize mix x = m at *
  generalize unmix x = u at *
  have b0 := x.isLt
  have b1 := m.isLt
  have b2 := u.isLt
  clear ht
  go_enter Tryd.func3, Tryd.ntmps3
  go_wp2_with (first
      | (go_at_call 8; (with_reducible refine CA.out.mono ?_); rintro e w1 ⟨rfl, hb1⟩)
      | (go_at_call 9; (with_reducible refine (C1.out _ hb1).mono ?_); rintro e w2 ⟨rfl, hq2⟩; (have hb2 := bstep hb1 hq2))
      | (go_at_call 10; (with_reducible refine (C2.out _ hb2).mono ?_); rintro e w3 ⟨rfl, hq3⟩; (have hb3 := bstep hb2 hq3))
      | (go_at_call 9; (with_reducible refine (C1.out _ hb3).mono ?_); rintro e w4 ⟨rfl, hq4⟩; (have hb4 := bstep hb3 hq4))
      | (go_at_call 11; (with_reducible refine (C3.out _ hb4).mono ?_); rintro e w5 ⟨rfl, hq5⟩; (have hb5 := bstep hb4 hq5))
      | (go_at_call 11; (with_reducible refine (C4.out _ hb5).mono ?_); rintro e w6 ⟨rfl, hq6⟩; (have hb6 := bstep hb5 hq6))
      | (go_at_call 9; (with_reducible refine (C5.out _ hb6).mono ?_); rintro e w7 ⟨rfl, hq7⟩; (have hb7 := bstep hb6 hq7)))
  go_ret
  exact ⟨rfl, hb7⟩

set_option maxRecDepth 100000 in
set_option maxHeartbeats 2000000 in
theorem bij_yes (x y : BitVec 64) (w : World) (ht : Tab w) :
    Calls Tryd.prog 6 #[.int .u64 (x.toNat : Int), .int .u64 (y.toNat : Int)] w fun e w' => e = .returned (.bool true) ∧ Below w.heap.size w w' := by
  have CA := Lib.hid (awake_any w ht)
  have C1 := Lib.hid (fun W (hb : Below w.heap.size w W) => mix_at x (mix x) rfl ht hb)
  have C2 := Lib.hid (fun W (hb : Below w.heap.size w W) => mix_at y (mix y) rfl ht hb)
  have C3 := Lib.hid (fun W (hb : Below w.heap.size w W) => unmix_at x (unmix x) rfl ht hb)
  have C4 := Lib.hid (fun W (hb : Below w.heap.size w W) => unmix_at y (unmix y) rfl ht hb)
  have h1 := mix_inj (x := x) (y := y)
  have h2 := unmix_inj (x := x) (y := y)
  generalize mix x = m at *
  generalize mix y = m' at *
  generalize unmix x = u at *
  generalize unmix y = u' at *
  clear ht
  by_cases hxy : x = y
  · have g0 := eqW hxy
    have g1 := eqW (h1.2 hxy)
    have g2 := eqW (h2.2 hxy)
    clear hxy h1 h2
    go_enter Tryd.func6, Tryd.ntmps6
    go_wp2_with (first
        | (go_at_call 8; (with_reducible refine CA.out.mono ?_); rintro e w1 ⟨rfl, hb1⟩)
        | (go_at_call 9; (with_reducible refine (C1.out _ hb1).mono ?_); rintro e w2 ⟨rfl, hq2⟩; (have hb2 := bstep hb1 hq2))
        | (go_at_call 9; (with_reducible refine (C2.out _ hb2).mono ?_); rintro e w3 ⟨rfl, hq3⟩; (have hb3 := bstep hb2 hq3))
        | (go_at_call 11; (with_reducible refine (C3.out _ hb3).mono ?_); rintro e w4 ⟨rfl, hq4⟩; (have hb4 := bstep hb3 hq4))
        | (go_at_call 11; (with_reducible refine (C4.out _ hb4).mono ?_); rintro e w5 ⟨rfl, hq5⟩; (have hb5 := bstep hb4 hq5)))
    go_ret
    exact ⟨rfl, hb5⟩
  · have g0 := neW hxy
    have g1 := neW fun e => hxy (h1.1 e)
    have g2 := neW fun e => hxy (h2.1 e)
    clear hxy h1 h2
    go_enter Tryd.func6, Tryd.ntmps6
    go_wp2_with (first
        | (go_at_call 8; (with_reducible refine CA.out.mono ?_); rintro e w1 ⟨rfl, hb1⟩)
        | (go_at_call 9; (with_reducible refine (C1.out _ hb1).mono ?_); rintro e w2 ⟨rfl, hq2⟩; (have hb2 := bstep hb1 hq2))
        | (go_at_call 9; (with_reducible refine (C2.out _ hb2).mono ?_); rintro e w3 ⟨rfl, hq3⟩; (have hb3 := bstep hb2 hq3))
        | (go_at_call 11; (with_reducible refine (C3.out _ hb3).mono ?_); rintro e w4 ⟨rfl, hq4⟩; (have hb4 := bstep hb3 hq4))
        | (go_at_call 11; (with_reducible refine (C4.out _ hb4).mono ?_); rintro e w5 ⟨rfl, hq5⟩; (have hb5 := bstep hb4 hq5)))
    go_ret
    exact ⟨rfl, hb5⟩

set_option maxRecDepth 100000 in
set_option maxHeartbeats 2000000 in
theorem inj_yes (h x y : BitVec 64) (ring a b : Int) (w : World) (ha : In64 a) (hbb : In64 b) (ht : Tab w) :
    Calls Tryd.prog 7 #[.int .u64 (h.toNat : Int), .int .u64 (x.toNat : Int), .int .u64 (y.toNat : Int), .int .i64 ring, .int .i64 a, .int .i64 b] w fun e w' => e = .returned (.bool true) ∧ Below w.heap.size w w' := by
  have CA := Lib.hid (awake_any w ht)
  have C1 := Lib.hid (fun W (hb : Below w.heap.size w W) => comb_at h x (comb h x) rfl ht hb)
  have C2 := Lib.hid (fun W (hb : Below w.heap.size w W) => comb_at h y (comb h y) rfl ht hb)
  have C3 := Lib.hid (fun W (hb : Below w.heap.size w W) => comb_at x h (comb x h) rfl ht hb)
  have C4 := Lib.hid (fun W (hb : Below w.heap.size w W) => comb_at y h (comb y h) rfl ht hb)
  have P1 := Lib.hid (fun W (hb : Below w.heap.size w W) => pos_at ring a (posW ring a) rfl ht hb)
  have P2 := Lib.hid (fun W (hb : Below w.heap.size w W) => pos_at ring b (posW ring b) rfl ht hb)
  have T1 := Lib.hid (fun W (hb : Below w.heap.size w W) => tok_at ring a (tokW ring a) rfl ht hb)
  have T2 := Lib.hid (fun W (hb : Below w.heap.size w W) => tok_at ring b (tokW ring b) rfl ht hb)
  have T3 := Lib.hid (fun W (hb : Below w.heap.size w W) => tok_at a ring (tokW a ring) rfl ht hb)
  have T4 := Lib.hid (fun W (hb : Below w.heap.size w W) => tok_at b ring (tokW b ring) rfl ht hb)
  have h1 := comb_inj2 (h := h) (x := x) (y := y)
  have h2 := comb_inj1 (h := h) (x := x) (y := y)
  have h3 := pos_inj (r := ring) ha hbb
  have h4 := tok_inj2 (r := ring) ha hbb
  have h5 := tok_inj1 (r := ring) ha hbb
  generalize comb h x = c1 at *
  generalize comb h y = c2 at *
  generalize comb x h = c3 at *
  generalize comb y h = c4 at *
  generalize posW ring a = p1 at *
  generalize posW ring b = p2 at *
  generalize tokW ring a = t1 at *
  generalize tokW ring b = t2 at *
  generalize tokW a ring = t3 at *
  generalize tokW b ring = t4 at *
  clear ht
  have gx : ((x.toNat : Int) == (y.toNat : Int)) = ((c1.toNat : Int) == (c2.toNat : Int)) ∧ ((c3.toNat : Int) == (c4.toNat : Int)) = ((c1.toNat : Int) == (c2.toNat : Int)) := by
    by_cases hxy : x = y
    · rw [eqW hxy, eqW (h1.2 hxy), eqW (h2.2 hxy)]; exact ⟨rfl, rfl⟩
    · rw [neW hxy, neW fun e => hxy (h1.1 e), neW fun e => hxy (h2.1 e)]; exact ⟨rfl, rfl⟩
  have ga : (a == b) = ((p1.toNat : Int) == (p2.toNat : Int)) ∧ ((t1.toNat : Int) == (t2.toNat : Int)) = ((p1.toNat : Int) == (p2.toNat : Int)) ∧ ((t3.toNat : Int) == (t4.toNat : Int)) = ((p1.toNat : Int) == (p2.toNat : Int)) := by
    by_cases hab : a = b
    · rw [beqT hab, eqW (h3.2 hab), eqW (h4.2 hab), eqW (h5.2 hab)]; exact ⟨rfl, rfl, rfl⟩
    · rw [beqF hab, neW fun e => hab (h3.1 e), neW fun e => hab (h4.1 e), neW fun e => hab (h5.1 e)]; exact ⟨rfl, rfl, rfl⟩
  obtain ⟨g1, g2⟩ := gx
  obtain ⟨g3, g4, g5⟩ := ga
  generalize g6 : ((c1.toNat : Int) == (c2.toNat : Int)) = z1 at *
  generalize g7 : ((p1.toNat : Int) == (p2.toNat : Int)) = z2 at *
  clear h1 h2 h3 h4 h5 ha hbb
  go_enter Tryd.func7, Tryd.ntmps7
  go_wp2_with (first
      | (go_at_call 8; (with_reducible refine CA.out.mono ?_); rintro e w1 ⟨rfl, hb1⟩)
      | (go_at_call 12; (with_reducible refine (C1.out _ hb1).mono ?_); rintro e w2 ⟨rfl, hq2⟩; (have hb2 := bstep hb1 hq2))
      | (go_at_call 12; (with_reducible refine (C2.out _ hb2).mono ?_); rintro e w3 ⟨rfl, hq3⟩; (have hb3 := bstep hb2 hq3))
      | (go_at_call 12; (with_reducible refine (C3.out _ hb3).mono ?_); rintro e w4 ⟨rfl, hq4⟩; (have hb4 := bstep hb3 hq4))
      | (go_at_call 12; (with_reducible refine (C4.out _ hb4).mono ?_); rintro e w5 ⟨rfl, hq5⟩; (have hb5 := bstep hb4 hq5))
      | (go_at_call 16; (with_reducible refine (P1.out _ hb5).mono ?_); rintro e w6 ⟨rfl, hq6⟩; (have hb6 := bstep hb5 hq6))
      | (go_at_call 16; (with_reducible refine (P2.out _ hb6).mono ?_); rintro e w7 ⟨rfl, hq7⟩; (have hb7 := bstep hb6 hq7))
      | (go_at_call 18; (with_reducible refine (T1.out _ hb7).mono ?_); rintro e w8 ⟨rfl, hq8⟩; (have hb8 := bstep hb7 hq8))
      | (go_at_call 18; (with_reducible refine (T2.out _ hb8).mono ?_); rintro e w9 ⟨rfl, hq9⟩; (have hb9 := bstep hb8 hq9))
      | (go_at_call 18; (with_reducible refine (T3.out _ hb9).mono ?_); rintro e w10 ⟨rfl, hq10⟩; (have hb10 := bstep hb9 hq10))
      | (go_at_call 18; (with_reducible refine (T4.out _ hb10).mono ?_); rintro e w11 ⟨rfl, hq11⟩; (have hb11 := bstep hb10 hq11)))
  go_ret
  exact ⟨rfl, hb11⟩

set_option maxRecDepth 100000 in
set_option maxHeartbeats 2000000 in
theorem texts_yes (h x : BitVec 64) (s : List UInt8) (w : World) (hs : s.length ≤ 1000) (ht : Tab w) :
    Calls Tryd.prog 4 #[.int .u64 (h.toNat : Int), .int .u64 (x.toNat : Int), .string ⟨s.toArray⟩] w fun e w' => e = .returned (.bool true) ∧ Below w.heap.size w w' := by
  have CA := Lib.hid (awake_any w ht)
  have C1 := Lib.hid (fun W (hb : Below w.heap.size w W) => comb_at h x (comb h x) rfl ht hb)
  have C2 := Lib.hid (fun W (hb : Below w.heap.size w W) => refComb_at (W := W) h x (comb h x) rfl)
  have C3 := Lib.hid (fun W (hb : Below w.heap.size w W) => text_at s (text s) rfl hs ht hb)
  have C4 := Lib.hid (fun W (hb : Below w.heap.size w W) => refText_at (W := W) s (text s) rfl hs)
  have hl := len_str s
  have hs2 : ¬ (1000 : Int) < (s.length : Int) := by omega
  generalize comb h x = c at *
  generalize text s = t at *
  clear ht
  go_enter Tryd.func4, Tryd.ntmps4
  go_wp2_with (first
      | (go_at_call 8; (with_reducible refine CA.out.mono ?_); rintro e w1 ⟨rfl, hb1⟩)
      | (go_at_call 12; (with_reducible refine (C1.out _ hb1).mono ?_); rintro e w2 ⟨rfl, hq2⟩; (have hb2 := bstep hb1 hq2))
      | (go_at_call 13; (with_reducible refine (C2.out _ hb2).mono ?_); rintro e w3 ⟨rfl, hq3⟩; (have hb3 := bstep hb2 hq3))
      | (go_at_call 14; (with_reducible refine (C3.out _ hb3).mono ?_); rintro e w4 ⟨rfl, hq4⟩; (have hb4 := bstep hb3 hq4))
      | (go_at_call 15; (with_reducible refine (C4.out _ hb4).mono ?_); rintro e w5 ⟨rfl, hq5⟩; (have hb5 := bstep hb4 hq5)))
  go_ret
  exact ⟨rfl, hb5⟩

set_option maxRecDepth 100000 in
set_option maxHeartbeats 1000000 in
theorem texts_no (h x : BitVec 64) (s : List UInt8) (w : World) (hs : 1000 < s.length) (hm : s.length ≤ 9223372036854775807) (ht : Tab w) :
    Calls Tryd.prog 4 #[.int .u64 (h.toNat : Int), .int .u64 (x.toNat : Int), .string ⟨s.toArray⟩] w fun e w' => e = .returned (.bool true) ∧ Below w.heap.size w w' := by
  have CA := Lib.hid (awake_any w ht)
  have hl := len_str s
  have hs2 : (1000 : Int) < (s.length : Int) := by omega
  clear ht
  go_enter Tryd.func4, Tryd.ntmps4
  go_wp2_with (go_at_call 8; (with_reducible refine CA.out.mono ?_); rintro e w1 ⟨rfl, hb1⟩)
  go_ret
  exact ⟨rfl, hb1⟩

theorem box2 {W : World} {g : Nat} {t : TypeId} {a b : Value} (h : W.heap[g]? = some (.cells #[a, b] t (0, 0))) : W.cell? ⟨g, 0, none⟩ = some a ∧ W.cell? ⟨g, 1, none⟩ = some b :=
  ⟨cell_of_row W g 0 #[a, b] t (0, 0) h, cell_of_row W g 1 #[a, b] t (0, 0) h⟩
theorem row_below {W W' : World} {B g : Nat} {o : Obj} (h : W.heap[g]? = some o) (hb : Below B W W') (hg : g < B) : W'.heap[g]? = some o := (hb.block g hg).trans h
set_option maxRecDepth 100000 in
set_option maxHeartbeats 1000000 in
theorem places_no (ring id member i : Int) (t k : List UInt8) (w : World) (hbad : 500 < t.length ∨ 500 < k.length) (hm : t.length ≤ 9223372036854775807) (hm2 : k.length ≤ 9223372036854775807) (ht : Tab w) :
    Calls Tryd.prog 5 #[.int .i64 ring, .int .i64 id, .int .i64 member, .int .i64 i, .agg #[.string ⟨t.toArray⟩, .string ⟨k.toArray⟩]] w fun e w' => e = .returned (.bool true) ∧ Below w.heap.size w w' := by
  have hb0 := (Below.refl w.heap.size w).alloc (Nat.le_refl _) (.cells #[.string ⟨t.toArray⟩, .string ⟨k.toArray⟩] 30)
  have hrow : (w.alloc (.cells #[.string ⟨t.toArray⟩, .string ⟨k.toArray⟩] 30)).heap[w.heap.size]? = some (.cells #[.string ⟨t.toArray⟩, .string ⟨k.toArray⟩] 30 (0, 0)) := heap_alloc_new w _
  have CA := Lib.hid (awake_any (w.alloc (.cells #[.string ⟨t.toArray⟩, .string ⟨k.toArray⟩] 30)) (ht.alloc ht.size _))
  have hsz : (w.alloc (.cells #[.string ⟨t.toArray⟩, .string ⟨k.toArray⟩] 30)).heap.size = w.heap.size + 1 := by simp
  have HR := Lib.hid (fun W' (hq : Below (w.alloc (.cells #[.string ⟨t.toArray⟩, .string ⟨k.toArray⟩] 30)).heap.size (w.alloc (.cells #[.string ⟨t.toArray⟩, .string ⟨k.toArray⟩] 30)) W') => box2 (row_below hrow hq (by rw [hsz]; omega)))
  have HB := Lib.hid (fun W' (hq : Below (w.alloc (.cells #[.string ⟨t.toArray⟩, .string ⟨k.toArray⟩] 30)).heap.size (w.alloc (.cells #[.string ⟨t.toArray⟩, .string ⟨k.toArray⟩] 30)) W') => hb0.trans (hq.mono (by rw [hsz]; omega)))
  have hl := len_str t
  have hl2 := len_str k
  clear ht hrow hsz
  by_cases h1 : 500 < t.length
  · have h1' : (500 : Int) < (t.length : Int) := by omega
    clear h1 hbad
    go_enter Tryd.func5, Tryd.ntmps5
    go_wp2_with (go_at_call 8; (with_reducible refine CA.out.mono ?_); rintro e w1 ⟨rfl, hb1⟩; obtain ⟨q0, q1⟩ := HR.out _ hb1)
    go_ret
    exact ⟨rfl, HB.out _ hb1⟩
  · have h1' : ¬ (500 : Int) < (t.length : Int) := by omega
    have h2' : (500 : Int) < (k.length : Int) := by omega
    clear h1 hbad
    go_enter Tryd.func5, Tryd.ntmps5
    go_wp2_with (go_at_call 8; (with_reducible refine CA.out.mono ?_); rintro e w1 ⟨rfl, hb1⟩; obtain ⟨q0, q1⟩ := HR.out _ hb1)
    go_ret
    exact ⟨rfl, HB.out _ hb1⟩
set_option maxRecDepth 100000 in
set_option maxHeartbeats 2000000 in
theorem places_yes (ring id member i : Int) (t k : List UInt8) (w : World) (hg1 : t.length ≤ 500) (hg2 : k.length ≤ 500) (ht : Tab w) :
    Calls Tryd.prog 5 #[.int .i64 ring, .int .i64 id, .int .i64 member, .int .i64 i, .agg #[.string ⟨t.toArray⟩, .string ⟨k.toArray⟩]] w fun e w' => e = .returned (.bool true) ∧ Below w.heap.size w w' := by
  have hb0 := (Below.refl w.heap.size w).alloc (Nat.le_refl _) (.cells #[.string ⟨t.toArray⟩, .string ⟨k.toArray⟩] 30)
  have hrow : (w.alloc (.cells #[.string ⟨t.toArray⟩, .string ⟨k.toArray⟩] 30)).heap[w.heap.size]? = some (.cells #[.string ⟨t.toArray⟩, .string ⟨k.toArray⟩] 30 (0, 0)) := heap_alloc_new w _
  have CA := Lib.hid (awake_any (w.alloc (.cells #[.string ⟨t.toArray⟩, .string ⟨k.toArray⟩] 30)) (ht.alloc ht.size _))
  have hsz : (w.alloc (.cells #[.string ⟨t.toArray⟩, .string ⟨k.toArray⟩] 30)).heap.size = w.heap.size + 1 := by simp
  have HR0 := Lib.hid (fun W' (hq : Below (w.alloc (.cells #[.string ⟨t.toArray⟩, .string ⟨k.toArray⟩] 30)).heap.size (w.alloc (.cells #[.string ⟨t.toArray⟩, .string ⟨k.toArray⟩] 30)) W') => row_below hrow hq (by rw [hsz]; omega))
  have HB := Lib.hid (fun W' (hq : Below (w.alloc (.cells #[.string ⟨t.toArray⟩, .string ⟨k.toArray⟩] 30)).heap.size (w.alloc (.cells #[.string ⟨t.toArray⟩, .string ⟨k.toArray⟩] 30)) W') => hb0.trans (hq.mono (by rw [hsz]; omega)))
  have hl := len_str t
  have hl2 := len_str k
  have HT := Lib.hid ht
  have P1 := Lib.hid (fun W (hb : Below w.heap.size w W) => pos_at ring id (posW ring id) rfl HT.out hb)
  have P2 := Lib.hid (fun W (hb : Below w.heap.size w W) => refPos_at (W := W) ring id (posW ring id) rfl)
  have K1 := Lib.hid (fun W (hb : Below w.heap.size w W) => tok_at member i (tokW member i) rfl HT.out hb)
  have K2 := Lib.hid (fun W (hb : Below w.heap.size w W) => refTok_at (W := W) member i (tokW member i) rfl)
  have A1 := Lib.hid (fun W (hb : Below w.heap.size w W) => act_at t k (actW t k) rfl hg1 hg2 HT.out hb)
  have A2 := Lib.hid (fun W (hb : Below w.heap.size w W) => refAct_at (W := W) t k (actW t k) rfl hg1 hg2)
  have h1' : ¬ (500 : Int) < (t.length : Int) := by omega
  have h2' : ¬ (500 : Int) < (k.length : Int) := by omega
  generalize posW ring id = p at *
  generalize tokW member i = q at *
  generalize actW t k = r at *
  clear ht hrow hsz
  go_enter Tryd.func5, Tryd.ntmps5
  go_wp2_with (go_at_call 8; (with_reducible refine CA.out.mono ?_); rintro e w1 ⟨rfl, hq1⟩; obtain ⟨q0, q1⟩ := box2 (HR0.out _ hq1))
  all_goals try (exfalso; omega)
  have hb1 := HB.out _ hq1
  have B1 := Lib.hid (HR0.out _ hq1)
  have hlt : w.heap.size < w1.heap.size := cell_lt q0
  clear q0 q1
  go_region_held3 (fun w' => w'.cell? ⟨w.heap.size, 0, none⟩ = some (.string ⟨t.toArray⟩) ∧ w'.cell? ⟨w.heap.size, 1, none⟩ = some (.string ⟨k.toArray⟩))
      (first | exact box2 B7.out | exact box2 B6.out | exact box2 B5.out | exact box2 B4.out | exact box2 B3.out | exact box2 B2.out | exact box2 B1.out)
      (first
        | (go_at_call 16; (with_reducible refine (P1.out _ (by exact hb1.drew)).mono ?_); rintro e w2 ⟨rfl, hq2⟩; (have hc2 : Below w1.heap.size w1 w2 := ((Below.refl _ _).drew).trans hq2); (have hb2 := bstep hb1 hc2); (have B2 := Lib.hid (row_below B1.out hc2 hlt)))
        | (go_at_call 17; (with_reducible refine (P2.out _ (by exact hb2)).mono ?_); rintro e w3 ⟨rfl, hq3⟩; (have hc3 : Below w1.heap.size w1 w3 := bstep hc2 hq3); (have hb3 := bstep hb1 hc3); (have B3 := Lib.hid (row_below B1.out hc3 hlt)))
        | (go_at_call 18; (with_reducible refine (K1.out _ (by exact hb3)).mono ?_); rintro e w4 ⟨rfl, hq4⟩; (have hc4 : Below w1.heap.size w1 w4 := bstep hc3 hq4); (have hb4 := bstep hb1 hc4); (have B4 := Lib.hid (row_below B1.out hc4 hlt)))
        | (go_at_call 19; (with_reducible refine (K2.out _ (by exact hb4)).mono ?_); rintro e w5 ⟨rfl, hq5⟩; (have hc5 : Below w1.heap.size w1 w5 := bstep hc4 hq5); (have hb5 := bstep hb1 hc5); (have B5 := Lib.hid (row_below B1.out hc5 hlt)))
        | (go_at_call 20; (with_reducible refine (A1.out _ (by exact hb5)).mono ?_); rintro e w6 ⟨rfl, hq6⟩; (have hc6 : Below w1.heap.size w1 w6 := bstep hc5 hq6); (have hb6 := bstep hb1 hc6); (have B6 := Lib.hid (row_below B1.out hc6 hlt)))
        | (go_at_call 21; (with_reducible refine (A2.out _ (by exact hb6)).mono ?_); rintro e w7 ⟨rfl, hq7⟩; (have hc7 : Below w1.heap.size w1 w7 := bstep hc6 hq7); (have hb7 := bstep hb1 hc7); (have B7 := Lib.hid (row_below B1.out hc7 hlt))))
  all_goals
    go_wp2
    go_ret
    exact ⟨rfl, hb7⟩

end Go.Proofs.YtecjnojbnklbbaaDoor.H
