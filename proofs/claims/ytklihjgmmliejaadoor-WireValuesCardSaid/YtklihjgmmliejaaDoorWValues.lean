/- The walk of WireValues: it returns true, whatever comes in. -/
import Derived.Test.YtklihjgmmliejaaDoorWRefW
import Derived.Test.YtklihjgmmliejaaDoorWRefX
import Derived.Test.YtklihjgmmliejaaDoorWMath6
import Derived.Deep.RegionHeld3
namespace Go.Proofs.YtklihjgmmliejaaDoor.W
set_option linter.unusedVariables false
open Go.RowKit
open Go.Lib (byteCells byteCells_length byteCells_append byteCells_snoc)

theorem rdV_zero {b : List UInt8} {v : GV} {n e : Nat} (h : rdV b = (v, n, e)) (he : e ≠ 0) : v = zeroGV 0 := by
  cases b with
  | nil => simp [rdV] at h; exact h.1.symm
  | cons c r =>
    have hu : rdV (c :: r) = if (rdVb c.toNat r).2.2 ≠ 0 then (zeroGV 0, 0, (rdVb c.toNat r).2.2) else ((rdVb c.toNat r).1, 1 + (rdVb c.toNat r).2.1, 0) := rfl
    rw [hu] at h
    split at h
    · simp only [Prod.mk.injEq] at h; exact h.1.symm
    · simp only [Prod.mk.injEq] at h; omega
/-- A decoded value is small. -/
theorem arg_dec {bs : List UInt8} {v : GV} {n e : Nat} (h : rdV bs = (v, n, e)) {W : World} {B : Nat} {I L : Option Addr} {ci cl : Nat} (ri : Reads W B 1 I v.i.length (v.i.map intV)) (rl : Reads W B 1 L v.l.length (v.l.map strV)) (hci : v.i.length ≤ ci) (hcl : v.l.length ≤ cl) : GVarg W B v I L ci cl := by
  by_cases he : e = 0
  · subst he
    obtain ⟨hok, hin, _⟩ := canonV h
    have hk : 0 ≤ v.kind ∧ v.kind ≤ 5 ∧ v.s.length ≤ 64 ∧ v.i.length ≤ 16 ∧ v.l.length ≤ 16 ∧ tooL v.l = false := by
      rcases (GV.ok_iff v).1 hok with h | h | h | h | h | h
      · obtain ⟨h1, _, h2, h3, h4⟩ := h; rw [h1, h2, h3, h4]; simp [tooL]
      · obtain ⟨h1, h2, h3, h4⟩ := h; rw [h1, h2, h3, h4]; simp [tooL]
      · obtain ⟨h1, _, h2, h3, h4⟩ := h; rw [h1, h2, h3, h4]; simp [tooL]
      · obtain ⟨h1, h2, _, h3, h4⟩ := h; rw [h1, h3, h4]; simp [tooL]; omega
      · obtain ⟨h1, h2, _, h3, h4⟩ := h; rw [h1, h3, h4]; simp [tooL]; omega
      · obtain ⟨h1, h2, ht, _, h3, h4⟩ := h; rw [h1, h3, h4, ht]; simp; omega
    obtain ⟨a1, a2, a3, a4, a5, a6⟩ := hk
    exact { ri := ri, rl := rl, hci := hci, hcl := hcl, k64 := ⟨by omega, by omega⟩, n64 := hin.1, i64 := hin.2, s40 := by omega, i40 := by omega, l40 := by omega, e40 := fun s hs => by have := tooL_no a6 s hs; omega }
  · obtain rfl := rdV_zero h he
    exact { ri := ri, rl := rl, hci := hci, hcl := hcl, k64 := ⟨by decide, by decide⟩, n64 := ⟨by decide, by decide⟩, i64 := fun x hx => by simp [zeroGV] at hx, s40 := by simp [zeroGV], i40 := by simp [zeroGV], l40 := by simp [zeroGV], e40 := fun s hs => by simp [zeroGV] at hs }
def Four (W : World) (g1 g2 g3 g4 : Nat) (t : TypeId) (a b c d : Array Value) : Prop := Blk W g1 t a ∧ Blk W g2 t b ∧ Blk W g3 t c ∧ Blk W g4 t d
theorem Four.below {W W' : World} {g1 g2 g3 g4 : Nat} {t : TypeId} {a b c d : Array Value} (h : Four W g1 g2 g3 g4 t a b c d) (hb : Below W.heap.size W W') : Four W' g1 g2 g3 g4 t a b c d :=
  ⟨h.1.below hb h.1.lt, h.2.1.below hb h.2.1.lt, h.2.2.1.below hb h.2.2.1.lt, h.2.2.2.below hb h.2.2.2.lt⟩
theorem Four.box20 {W : World} {g1 g2 g3 g4 : Nat} {t : TypeId} {a0 a1 a2 a3 a4 b0 b1 b2 b3 b4 c0 c1 c2 c3 c4 d0 d1 d2 d3 d4 : Value} (h : Four W g1 g2 g3 g4 t #[a0, a1, a2, a3, a4] #[b0, b1, b2, b3, b4] #[c0, c1, c2, c3, c4] #[d0, d1, d2, d3, d4]) :
    W.cell? ⟨g1, 0, none⟩ = some a0 ∧ W.cell? ⟨g1, 1, none⟩ = some a1 ∧ W.cell? ⟨g1, 2, none⟩ = some a2 ∧ W.cell? ⟨g1, 3, none⟩ = some a3 ∧ W.cell? ⟨g1, 4, none⟩ = some a4 ∧
    W.cell? ⟨g2, 0, none⟩ = some b0 ∧ W.cell? ⟨g2, 1, none⟩ = some b1 ∧ W.cell? ⟨g2, 2, none⟩ = some b2 ∧ W.cell? ⟨g2, 3, none⟩ = some b3 ∧ W.cell? ⟨g2, 4, none⟩ = some b4 ∧
    W.cell? ⟨g3, 0, none⟩ = some c0 ∧ W.cell? ⟨g3, 1, none⟩ = some c1 ∧ W.cell? ⟨g3, 2, none⟩ = some c2 ∧ W.cell? ⟨g3, 3, none⟩ = some c3 ∧ W.cell? ⟨g3, 4, none⟩ = some c4 ∧
    W.cell? ⟨g4, 0, none⟩ = some d0 ∧ W.cell? ⟨g4, 1, none⟩ = some d1 ∧ W.cell? ⟨g4, 2, none⟩ = some d2 ∧ W.cell? ⟨g4, 3, none⟩ = some d3 ∧ W.cell? ⟨g4, 4, none⟩ = some d4 :=
  ⟨h.1.cell 0, h.1.cell 1, h.1.cell 2, h.1.cell 3, h.1.cell 4, h.2.1.cell 0, h.2.1.cell 1, h.2.1.cell 2, h.2.1.cell 3, h.2.1.cell 4,
   h.2.2.1.cell 0, h.2.2.1.cell 1, h.2.2.1.cell 2, h.2.2.1.cell 3, h.2.2.1.cell 4, h.2.2.2.cell 0, h.2.2.2.cell 1, h.2.2.2.cell 2, h.2.2.2.cell 3, h.2.2.2.cell 4⟩
theorem box10 {W : World} {g1 g2 : Nat} {t : TypeId} {a0 a1 a2 a3 a4 b0 b1 b2 b3 b4 : Value} (h : Blk W g1 t #[a0, a1, a2, a3, a4] ∧ Blk W g2 t #[b0, b1, b2, b3, b4]) :
    W.cell? ⟨g1, 0, none⟩ = some a0 ∧ W.cell? ⟨g1, 1, none⟩ = some a1 ∧ W.cell? ⟨g1, 2, none⟩ = some a2 ∧ W.cell? ⟨g1, 3, none⟩ = some a3 ∧ W.cell? ⟨g1, 4, none⟩ = some a4 ∧
    W.cell? ⟨g2, 0, none⟩ = some b0 ∧ W.cell? ⟨g2, 1, none⟩ = some b1 ∧ W.cell? ⟨g2, 2, none⟩ = some b2 ∧ W.cell? ⟨g2, 3, none⟩ = some b3 ∧ W.cell? ⟨g2, 4, none⟩ = some b4 :=
  ⟨h.1.cell 0, h.1.cell 1, h.1.cell 2, h.1.cell 3, h.1.cell 4, h.2.cell 0, h.2.cell 1, h.2.cell 2, h.2.cell 3, h.2.cell 4⟩

set_option maxRecDepth 100000 in
set_option maxHeartbeats 2000000 in
theorem values_no (k m k2 m2 : Int) (s s2 : List UInt8) (i i2 : List Int) (l l2 : List (List UInt8)) (A I L I2 L2 : Option Addr) (c ci cl ci2 cl2 n : Nat) (w : World) (ht : Tab w)
    (hv : GVraw w w.heap.size ⟨k, m, s, i, l⟩ I L ci cl) (hu : GVraw w w.heap.size ⟨k2, m2, s2, i2, l2⟩ I2 L2 ci2 cl2) (hbad : 2000 < n ∨ smallV ⟨k, m, s, i, l⟩ = false ∨ smallV ⟨k2, m2, s2, i2, l2⟩ = false) (hn : n ≤ 9223372036854775807) :
    Calls Tryd.prog 5 #[.slice A n c, gvV ⟨k, m, s, i, l⟩ I L ci cl, gvV ⟨k2, m2, s2, i2, l2⟩ I2 L2 ci2 cl2] w fun e w' => e = .returned (.bool true) ∧ Below w.heap.size w w' := by
  have h01 : Below w.heap.size w ((w.alloc (.cells #[.int .i64 k, .int .i64 m, .string ⟨s.toArray⟩, .slice I i.length ci, .slice L l.length cl] 55)).alloc (.cells #[.int .i64 k2, .int .i64 m2, .string ⟨s2.toArray⟩, .slice I2 i2.length ci2, .slice L2 l2.length cl2] 55)) := ((Below.refl w.heap.size w).alloc (Nat.le_refl _) _).alloc (by simp) _
  have hz := zero_blk w 55 #[.int .i64 k, .int .i64 m, .string ⟨s.toArray⟩, .slice I i.length ci, .slice L l.length cl] #[.int .i64 k2, .int .i64 m2, .string ⟨s2.toArray⟩, .slice I2 i2.length ci2, .slice L2 l2.length cl2]
  have CA := Lib.hid (awake_any _ (ht.on h01))
  have hs0 : ((w.alloc (.cells #[.int .i64 k, .int .i64 m, .string ⟨s.toArray⟩, .slice I i.length ci, .slice L l.length cl] 55)).alloc (.cells #[.int .i64 k2, .int .i64 m2, .string ⟨s2.toArray⟩, .slice I2 i2.length ci2, .slice L2 l2.length cl2] 55)).heap.size = w.heap.size + 2 := by simp
  have FB := Lib.hid (fun W (hW : Below ((w.alloc (.cells #[.int .i64 k, .int .i64 m, .string ⟨s.toArray⟩, .slice I i.length ci, .slice L l.length cl] 55)).alloc (.cells #[.int .i64 k2, .int .i64 m2, .string ⟨s2.toArray⟩, .slice I2 i2.length ci2, .slice L2 l2.length cl2] 55)).heap.size ((w.alloc (.cells #[.int .i64 k, .int .i64 m, .string ⟨s.toArray⟩, .slice I i.length ci, .slice L l.length cl] 55)).alloc (.cells #[.int .i64 k2, .int .i64 m2, .string ⟨s2.toArray⟩, .slice I2 i2.length ci2, .slice L2 l2.length cl2] 55)) W) => h01.trans (hW.mono (by rw [hs0]; omega)))
  have FZ := Lib.hid (fun W (hW : Below ((w.alloc (.cells #[.int .i64 k, .int .i64 m, .string ⟨s.toArray⟩, .slice I i.length ci, .slice L l.length cl] 55)).alloc (.cells #[.int .i64 k2, .int .i64 m2, .string ⟨s2.toArray⟩, .slice I2 i2.length ci2, .slice L2 l2.length cl2] 55)).heap.size ((w.alloc (.cells #[.int .i64 k, .int .i64 m, .string ⟨s.toArray⟩, .slice I i.length ci, .slice L l.length cl] 55)).alloc (.cells #[.int .i64 k2, .int .i64 m2, .string ⟨s2.toArray⟩, .slice I2 i2.length ci2, .slice L2 l2.length cl2] 55)) W) => And.intro (hz.1.below hW hz.1.lt) (hz.2.below hW hz.2.lt))
  have FV := Lib.hid (fun W (hW : Below ((w.alloc (.cells #[.int .i64 k, .int .i64 m, .string ⟨s.toArray⟩, .slice I i.length ci, .slice L l.length cl] 55)).alloc (.cells #[.int .i64 k2, .int .i64 m2, .string ⟨s2.toArray⟩, .slice I2 i2.length ci2, .slice L2 l2.length cl2] 55)).heap.size ((w.alloc (.cells #[.int .i64 k, .int .i64 m, .string ⟨s.toArray⟩, .slice I i.length ci, .slice L l.length cl] 55)).alloc (.cells #[.int .i64 k2, .int .i64 m2, .string ⟨s2.toArray⟩, .slice I2 i2.length ci2, .slice L2 l2.length cl2] 55)) W) => box10 (FZ.out W hW))
  have CS := Lib.hid (fun W (hW : Below ((w.alloc (.cells #[.int .i64 k, .int .i64 m, .string ⟨s.toArray⟩, .slice I i.length ci, .slice L l.length cl] 55)).alloc (.cells #[.int .i64 k2, .int .i64 m2, .string ⟨s2.toArray⟩, .slice I2 i2.length ci2, .slice L2 l2.length cl2] 55)).heap.size ((w.alloc (.cells #[.int .i64 k, .int .i64 m, .string ⟨s.toArray⟩, .slice I i.length ci, .slice L l.length cl] 55)).alloc (.cells #[.int .i64 k2, .int .i64 m2, .string ⟨s2.toArray⟩, .slice I2 i2.length ci2, .slice L2 l2.length cl2] 55)) W) => small_any ⟨k, m, s, i, l⟩ I L ci cl w.heap.size W (hv.below (FB.out W hW)) (FB.out W hW).size)
  have CT := Lib.hid (fun W (hW : Below ((w.alloc (.cells #[.int .i64 k, .int .i64 m, .string ⟨s.toArray⟩, .slice I i.length ci, .slice L l.length cl] 55)).alloc (.cells #[.int .i64 k2, .int .i64 m2, .string ⟨s2.toArray⟩, .slice I2 i2.length ci2, .slice L2 l2.length cl2] 55)).heap.size ((w.alloc (.cells #[.int .i64 k, .int .i64 m, .string ⟨s.toArray⟩, .slice I i.length ci, .slice L l.length cl] 55)).alloc (.cells #[.int .i64 k2, .int .i64 m2, .string ⟨s2.toArray⟩, .slice I2 i2.length ci2, .slice L2 l2.length cl2] 55)) W) => small_any ⟨k2, m2, s2, i2, l2⟩ I2 L2 ci2 cl2 w.heap.size W (hu.below (FB.out W hW)) (FB.out W hW).size)
  dsimp only [gvV, strV] at *
  clear hv hu ht hz h01 hs0
  by_cases h1 : 2000 < n
  · have f1 : (2000 : Int) < (n : Int) := by omega
    clear hbad FZ
    go_enter Tryd.func5, Tryd.ntmps5
    go_wp2_with (go_at_call 13; (with_reducible refine CA.out.mono ?_); rintro e w1 ⟨rfl, b1⟩; obtain ⟨q0, q1, q2, q3, q4, r0, r1, r2, r3, r4⟩ := FV.out _ b1)
    all_goals (go_ret; exact ⟨rfl, FB.out _ b1⟩)
  have f1 : ¬ (2000 : Int) < (n : Int) := by omega
  cases hsm : smallV ⟨k, m, s, i, l⟩
  · rw [hsm] at CS
    clear hbad h1 hsm FZ CT
    go_enter Tryd.func5, Tryd.ntmps5
    go_wp2_with (first | (go_at_call 13; (with_reducible refine CA.out.mono ?_); rintro e w1 ⟨rfl, b1⟩; obtain ⟨q0, q1, q2, q3, q4, r0, r1, r2, r3, r4⟩ := FV.out _ b1) | (go_at_call 38; (with_reducible refine (CS.out _ b1).mono ?_); rintro e w2 ⟨rfl, hq2⟩; (have b2 := bstep b1 hq2); clear q0 q1 q2 q3 q4 r0 r1 r2 r3 r4; obtain ⟨q0, q1, q2, q3, q4, r0, r1, r2, r3, r4⟩ := FV.out _ b2))
    all_goals (go_ret; first | exact ⟨rfl, FB.out _ b2⟩ | exact ⟨rfl, FB.out _ b1⟩)
  · rw [hsm] at CS
    have h3 : smallV ⟨k2, m2, s2, i2, l2⟩ = false := by
      rcases hbad with h | h | h
      · omega
      · rw [hsm] at h; cases h
      · exact h
    rw [h3] at CT
    clear hbad h1 hsm FZ h3
    go_enter Tryd.func5, Tryd.ntmps5
    go_wp2_with (first | (go_at_call 13; (with_reducible refine CA.out.mono ?_); rintro e w1 ⟨rfl, b1⟩; obtain ⟨q0, q1, q2, q3, q4, r0, r1, r2, r3, r4⟩ := FV.out _ b1) | (go_at_call 38; (with_reducible refine (CS.out _ b1).mono ?_); rintro e w2 ⟨rfl, hq2⟩; (have b2 := bstep b1 hq2); clear q0 q1 q2 q3 q4 r0 r1 r2 r3 r4; obtain ⟨q0, q1, q2, q3, q4, r0, r1, r2, r3, r4⟩ := FV.out _ b2) | (go_at_call 38; (with_reducible refine (CT.out _ b2).mono ?_); rintro e w3 ⟨rfl, hq3⟩; (have b3 := bstep b2 hq3); clear q0 q1 q2 q3 q4 r0 r1 r2 r3 r4; obtain ⟨q0, q1, q2, q3, q4, r0, r1, r2, r3, r4⟩ := FV.out _ b3))
    all_goals (go_ret; first | exact ⟨rfl, FB.out _ b3⟩ | exact ⟨rfl, FB.out _ b2⟩ | exact ⟨rfl, FB.out _ b1⟩)

set_option maxRecDepth 100000 in
set_option maxHeartbeats 8000000 in
theorem values_bad (k m k2 m2 : Int) (s s2 : List UInt8) (i i2 : List Int) (l l2 : List (List UInt8)) (A I L I2 L2 : Option Addr) (c ci cl ci2 cl2 n : Nat) (bs : List UInt8) (w : World) (ht : Tab w)
    (hv : GVraw w w.heap.size ⟨k, m, s, i, l⟩ I L ci cl) (hu : GVraw w w.heap.size ⟨k2, m2, s2, i2, l2⟩ I2 L2 ci2 cl2) (ha : Reads w w.heap.size 1 A n (byteCells bs)) (hcap : n ≤ c) (hn : n ≤ 2000) (hsv : smallV ⟨k, m, s, i, l⟩ = true) (hsu : smallV ⟨k2, m2, s2, i2, l2⟩ = true) (hok : GV.ok ⟨k, m, s, i, l⟩ = false) :
    Calls Tryd.prog 5 #[.slice A n c, gvV ⟨k, m, s, i, l⟩ I L ci cl, gvV ⟨k2, m2, s2, i2, l2⟩ I2 L2 ci2 cl2] w fun e w' => e = .returned (.bool true) ∧ Below w.heap.size w w' := by
  obtain rfl := ha.len
  have h01 : Below w.heap.size w ((w.alloc (.cells #[.int .i64 k, .int .i64 m, .string ⟨s.toArray⟩, .slice I i.length ci, .slice L l.length cl] 55)).alloc (.cells #[.int .i64 k2, .int .i64 m2, .string ⟨s2.toArray⟩, .slice I2 i2.length ci2, .slice L2 l2.length cl2] 55)) := ((Below.refl w.heap.size w).alloc (Nat.le_refl _) _).alloc (by simp) _
  have hz := zero_blk w 55 #[.int .i64 k, .int .i64 m, .string ⟨s.toArray⟩, .slice I i.length ci, .slice L l.length cl] #[.int .i64 k2, .int .i64 m2, .string ⟨s2.toArray⟩, .slice I2 i2.length ci2, .slice L2 l2.length cl2]
  have CA := Lib.hid (awake_any _ (ht.on h01))
  have hs0 : ((w.alloc (.cells #[.int .i64 k, .int .i64 m, .string ⟨s.toArray⟩, .slice I i.length ci, .slice L l.length cl] 55)).alloc (.cells #[.int .i64 k2, .int .i64 m2, .string ⟨s2.toArray⟩, .slice I2 i2.length ci2, .slice L2 l2.length cl2] 55)).heap.size = w.heap.size + 2 := by simp
  have FB := Lib.hid (fun W (hW : Below ((w.alloc (.cells #[.int .i64 k, .int .i64 m, .string ⟨s.toArray⟩, .slice I i.length ci, .slice L l.length cl] 55)).alloc (.cells #[.int .i64 k2, .int .i64 m2, .string ⟨s2.toArray⟩, .slice I2 i2.length ci2, .slice L2 l2.length cl2] 55)).heap.size ((w.alloc (.cells #[.int .i64 k, .int .i64 m, .string ⟨s.toArray⟩, .slice I i.length ci, .slice L l.length cl] 55)).alloc (.cells #[.int .i64 k2, .int .i64 m2, .string ⟨s2.toArray⟩, .slice I2 i2.length ci2, .slice L2 l2.length cl2] 55)) W) => h01.trans (hW.mono (by rw [hs0]; omega)))
  have FZ := Lib.hid (fun W (hW : Below ((w.alloc (.cells #[.int .i64 k, .int .i64 m, .string ⟨s.toArray⟩, .slice I i.length ci, .slice L l.length cl] 55)).alloc (.cells #[.int .i64 k2, .int .i64 m2, .string ⟨s2.toArray⟩, .slice I2 i2.length ci2, .slice L2 l2.length cl2] 55)).heap.size ((w.alloc (.cells #[.int .i64 k, .int .i64 m, .string ⟨s.toArray⟩, .slice I i.length ci, .slice L l.length cl] 55)).alloc (.cells #[.int .i64 k2, .int .i64 m2, .string ⟨s2.toArray⟩, .slice I2 i2.length ci2, .slice L2 l2.length cl2] 55)) W) => And.intro (hz.1.below hW hz.1.lt) (hz.2.below hW hz.2.lt))
  have FV := Lib.hid (fun W (hW : Below ((w.alloc (.cells #[.int .i64 k, .int .i64 m, .string ⟨s.toArray⟩, .slice I i.length ci, .slice L l.length cl] 55)).alloc (.cells #[.int .i64 k2, .int .i64 m2, .string ⟨s2.toArray⟩, .slice I2 i2.length ci2, .slice L2 l2.length cl2] 55)).heap.size ((w.alloc (.cells #[.int .i64 k, .int .i64 m, .string ⟨s.toArray⟩, .slice I i.length ci, .slice L l.length cl] 55)).alloc (.cells #[.int .i64 k2, .int .i64 m2, .string ⟨s2.toArray⟩, .slice I2 i2.length ci2, .slice L2 l2.length cl2] 55)) W) => box10 (FZ.out W hW))
  have CS := Lib.hid (fun W (hW : Below ((w.alloc (.cells #[.int .i64 k, .int .i64 m, .string ⟨s.toArray⟩, .slice I i.length ci, .slice L l.length cl] 55)).alloc (.cells #[.int .i64 k2, .int .i64 m2, .string ⟨s2.toArray⟩, .slice I2 i2.length ci2, .slice L2 l2.length cl2] 55)).heap.size ((w.alloc (.cells #[.int .i64 k, .int .i64 m, .string ⟨s.toArray⟩, .slice I i.length ci, .slice L l.length cl] 55)).alloc (.cells #[.int .i64 k2, .int .i64 m2, .string ⟨s2.toArray⟩, .slice I2 i2.length ci2, .slice L2 l2.length cl2] 55)) W) => small_any ⟨k, m, s, i, l⟩ I L ci cl w.heap.size W (hv.below (FB.out W hW)) (FB.out W hW).size)
  have CT := Lib.hid (fun W (hW : Below ((w.alloc (.cells #[.int .i64 k, .int .i64 m, .string ⟨s.toArray⟩, .slice I i.length ci, .slice L l.length cl] 55)).alloc (.cells #[.int .i64 k2, .int .i64 m2, .string ⟨s2.toArray⟩, .slice I2 i2.length ci2, .slice L2 l2.length cl2] 55)).heap.size ((w.alloc (.cells #[.int .i64 k, .int .i64 m, .string ⟨s.toArray⟩, .slice I i.length ci, .slice L l.length cl] 55)).alloc (.cells #[.int .i64 k2, .int .i64 m2, .string ⟨s2.toArray⟩, .slice I2 i2.length ci2, .slice L2 l2.length cl2] 55)) W) => small_any ⟨k2, m2, s2, i2, l2⟩ I2 L2 ci2 cl2 w.heap.size W (hu.below (FB.out W hW)) (FB.out W hW).size)
  rw [hsv] at CS
  rw [hsu] at CT
  have f1 : ¬ (2000 : Int) < (bs.length : Int) := by omega
  have RA := Lib.hid (fun W (hW : Below ((w.alloc (.cells #[.int .i64 k, .int .i64 m, .string ⟨s.toArray⟩, .slice I i.length ci, .slice L l.length cl] 55)).alloc (.cells #[.int .i64 k2, .int .i64 m2, .string ⟨s2.toArray⟩, .slice I2 i2.length ci2, .slice L2 l2.length cl2] 55)).heap.size ((w.alloc (.cells #[.int .i64 k, .int .i64 m, .string ⟨s.toArray⟩, .slice I i.length ci, .slice L l.length cl] 55)).alloc (.cells #[.int .i64 k2, .int .i64 m2, .string ⟨s2.toArray⟩, .slice I2 i2.length ci2, .slice L2 l2.length cl2] 55)) W) => (ha.below (FB.out W hW)).more (FB.out W hW).size)
  have GVv := Lib.hid (fun W (hW : Below ((w.alloc (.cells #[.int .i64 k, .int .i64 m, .string ⟨s.toArray⟩, .slice I i.length ci, .slice L l.length cl] 55)).alloc (.cells #[.int .i64 k2, .int .i64 m2, .string ⟨s2.toArray⟩, .slice I2 i2.length ci2, .slice L2 l2.length cl2] 55)).heap.size ((w.alloc (.cells #[.int .i64 k, .int .i64 m, .string ⟨s.toArray⟩, .slice I i.length ci, .slice L l.length cl] 55)).alloc (.cells #[.int .i64 k2, .int .i64 m2, .string ⟨s2.toArray⟩, .slice I2 i2.length ci2, .slice L2 l2.length cl2] 55)) W) => ((hv.arg hsv).below (FB.out W hW)))
  have GVu := Lib.hid (fun W (hW : Below ((w.alloc (.cells #[.int .i64 k, .int .i64 m, .string ⟨s.toArray⟩, .slice I i.length ci, .slice L l.length cl] 55)).alloc (.cells #[.int .i64 k2, .int .i64 m2, .string ⟨s2.toArray⟩, .slice I2 i2.length ci2, .slice L2 l2.length cl2] 55)).heap.size ((w.alloc (.cells #[.int .i64 k, .int .i64 m, .string ⟨s.toArray⟩, .slice I i.length ci, .slice L l.length cl] 55)).alloc (.cells #[.int .i64 k2, .int .i64 m2, .string ⟨s2.toArray⟩, .slice I2 i2.length ci2, .slice L2 l2.length cl2] 55)) W) => ((hu.arg hsu).below (FB.out W hW)))
  obtain ⟨⟨⟨xk, xm, xs, xi, xl⟩, xn, xe⟩, hx⟩ : ∃ r, rdV bs = r := ⟨_, rfl⟩
  have c4 := fun W (hW : Below ((w.alloc (.cells #[.int .i64 k, .int .i64 m, .string ⟨s.toArray⟩, .slice I i.length ci, .slice L l.length cl] 55)).alloc (.cells #[.int .i64 k2, .int .i64 m2, .string ⟨s2.toArray⟩, .slice I2 i2.length ci2, .slice L2 l2.length cl2] 55)).heap.size ((w.alloc (.cells #[.int .i64 k, .int .i64 m, .string ⟨s.toArray⟩, .slice I i.length ci, .slice L l.length cl] 55)).alloc (.cells #[.int .i64 k2, .int .i64 m2, .string ⟨s2.toArray⟩, .slice I2 i2.length ci2, .slice L2 l2.length cl2] 55)) W) => value_any A c bs W (RA.out W hW) (by omega) hcap
  have c6 := fun W (hW : Below ((w.alloc (.cells #[.int .i64 k, .int .i64 m, .string ⟨s.toArray⟩, .slice I i.length ci, .slice L l.length cl] 55)).alloc (.cells #[.int .i64 k2, .int .i64 m2, .string ⟨s2.toArray⟩, .slice I2 i2.length ci2, .slice L2 l2.length cl2] 55)).heap.size ((w.alloc (.cells #[.int .i64 k, .int .i64 m, .string ⟨s.toArray⟩, .slice I i.length ci, .slice L l.length cl] 55)).alloc (.cells #[.int .i64 k2, .int .i64 m2, .string ⟨s2.toArray⟩, .slice I2 i2.length ci2, .slice L2 l2.length cl2] 55)) W) => refRead_any A c bs W (RA.out W hW) (by omega) hcap
  simp only [hx] at c4 c6
  have C4 := Lib.hid (fun W (hW : Below ((w.alloc (.cells #[.int .i64 k, .int .i64 m, .string ⟨s.toArray⟩, .slice I i.length ci, .slice L l.length cl] 55)).alloc (.cells #[.int .i64 k2, .int .i64 m2, .string ⟨s2.toArray⟩, .slice I2 i2.length ci2, .slice L2 l2.length cl2] 55)).heap.size ((w.alloc (.cells #[.int .i64 k, .int .i64 m, .string ⟨s.toArray⟩, .slice I i.length ci, .slice L l.length cl] 55)).alloc (.cells #[.int .i64 k2, .int .i64 m2, .string ⟨s2.toArray⟩, .slice I2 i2.length ci2, .slice L2 l2.length cl2] 55)) W) => (c4 W hW).mono fun _ _ h => h.to ⟨xk, xm, xs, xi, xl⟩ xi.length xl.length xn xe rfl rfl rfl rfl rfl)
  have C6 := Lib.hid (fun W (hW : Below ((w.alloc (.cells #[.int .i64 k, .int .i64 m, .string ⟨s.toArray⟩, .slice I i.length ci, .slice L l.length cl] 55)).alloc (.cells #[.int .i64 k2, .int .i64 m2, .string ⟨s2.toArray⟩, .slice I2 i2.length ci2, .slice L2 l2.length cl2] 55)).heap.size ((w.alloc (.cells #[.int .i64 k, .int .i64 m, .string ⟨s.toArray⟩, .slice I i.length ci, .slice L l.length cl] 55)).alloc (.cells #[.int .i64 k2, .int .i64 m2, .string ⟨s2.toArray⟩, .slice I2 i2.length ci2, .slice L2 l2.length cl2] 55)) W) => (c6 W hW).mono fun _ _ h => h.to ⟨xk, xm, xs, xi, xl⟩ xi.length xl.length xn xe rfl rfl rfl rfl rfl)
  have DX := Lib.hid hx
  have hev : GV.ok ⟨k, m, s, i, l⟩ = true → (enV ⟨k, m, s, i, l⟩).length ≤ 2000 := fun h => enV_small h hv.i64 hv.n64
  have HEV := Lib.hid hev
  have HOK := Lib.hid hok
  dsimp only [gvV, strV] at *
  clear hv hu ht hz h01 hs0 c4 c6 hx hev hsv hsu hok ha
  go_enter Tryd.func5, Tryd.ntmps5
  go_upto_region 6 with (first
    | (go_at_call 13; (with_reducible refine CA.out.mono ?_); rintro e w1 ⟨rfl, b1⟩; obtain ⟨q0, q1, q2, q3, q4, r0, r1, r2, r3, r4⟩ := FV.out _ b1)
    | (go_at_call 38; (with_reducible refine (CS.out _ b1).mono ?_); rintro e w2 ⟨rfl, hq2⟩; (have b2 := bstep b1 hq2); clear q0 q1 q2 q3 q4 r0 r1 r2 r3 r4; obtain ⟨q0, q1, q2, q3, q4, r0, r1, r2, r3, r4⟩ := FV.out _ b2)
    | (go_at_call 38; (with_reducible refine (CT.out _ b2).mono ?_); rintro e w3 ⟨rfl, hq3⟩; (have b3 := bstep b2 hq3); clear q0 q1 q2 q3 q4 r0 r1 r2 r3 r4; obtain ⟨q0, q1, q2, q3, q4, r0, r1, r2, r3, r4⟩ := FV.out _ b3)
    | (go_at_call 39; (with_reducible refine (C4.out _ b3).mono ?_); rintro e w4 ⟨I4, ci4, L4, cl4, rfl, hi4, hl4, hri4, hrl4, hq4⟩; clear q0 q1 q2 q3 q4 r0 r1 r2 r3 r4))
  all_goals try (exfalso; omega)
  have b4 := bstep b3 hq4
  have b5 := b4.alloc b4.size (.cells #[.int .i64 xk, .int .i64 xm, .string ⟨xs.toArray⟩, .slice I4 xi.length ci4, .slice L4 xl.length cl4] 55)
  have hx5 := Blk.new w4 55 #[.int .i64 xk, .int .i64 xm, .string ⟨xs.toArray⟩, .slice I4 xi.length ci4, .slice L4 xl.length cl4]
  have h45 : Below w4.heap.size w4 (w4.alloc (.cells #[.int .i64 xk, .int .i64 xm, .string ⟨xs.toArray⟩, .slice I4 xi.length ci4, .slice L4 xl.length cl4] 55)) := (Below.refl _ _).alloc (Nat.le_refl _) _
  have ri5 := (hri4.below h45).more h45.size
  have rl5 := (hrl4.below h45).more h45.size
  obtain ⟨g7, hg7⟩ : ∃ g, g = w4.heap.size := ⟨_, rfl⟩
  rw [← hg7] at hx5 ⊢
  generalize w4.alloc (.cells #[.int .i64 xk, .int .i64 xm, .string ⟨xs.toArray⟩, .slice I4 xi.length ci4, .slice L4 xl.length cl4] 55) = w5 at *
  clear hri4 hrl4 h45 hg7 hq4
  go_upto_region 7 with (go_at_call 40; (with_reducible refine (C6.out _ b5).mono ?_); rintro e w6 ⟨I6, ci6, L6, cl6, rfl, hi6, hl6, hri6, hrl6, hq6⟩)
  have b6 := bstep b5 hq6
  have b7 := b6.alloc b6.size (.cells #[.int .i64 xk, .int .i64 xm, .string ⟨xs.toArray⟩, .slice I6 xi.length ci6, .slice L6 xl.length cl6] 55)
  have h67 : Below w6.heap.size w6 (w6.alloc (.cells #[.int .i64 xk, .int .i64 xm, .string ⟨xs.toArray⟩, .slice I6 xi.length ci6, .slice L6 xl.length cl6] 55)) := (Below.refl _ _).alloc (Nat.le_refl _) _
  have h57 := bstep hq6 h67
  have hz7 := FZ.out _ b7
  obtain ⟨g10, hg10⟩ : ∃ g, g = w6.heap.size := ⟨_, rfl⟩
  have hy7 := Blk.new w6 55 #[.int .i64 xk, .int .i64 xm, .string ⟨xs.toArray⟩, .slice I6 xi.length ci6, .slice L6 xl.length cl6]
  have F7 := Lib.hid (show Four _ _ _ _ _ _ _ _ _ _ from ⟨hz7.1, hz7.2, hx5.below h57 hx5.lt, hy7⟩)
  have GX := Lib.hid (arg_dec DX.out ((ri5.below h57).more h57.size) ((rl5.below h57).more h57.size) hi4 hl4)
  have GY := Lib.hid (arg_dec DX.out ((hri6.below h67).more h67.size) ((hrl6.below h67).more h67.size) hi6 hl6)
  rw [← hg10] at F7 ⊢
  generalize w6.alloc (.cells #[.int .i64 xk, .int .i64 xm, .string ⟨xs.toArray⟩, .slice I6 xi.length ci6, .slice L6 xl.length cl6] 55) = w7 at *
  clear hri6 hrl6 ri5 rl5 h67 h57 hx5 hy7 hz7 hg10 hq6 CA CS CT C4 C6 b3 b4 b5 b6
  have k1 := fun W (hW : Below w7.heap.size w7 W) => refSameValue_any ⟨xk, xm, xs, xi, xl⟩ ⟨xk, xm, xs, xi, xl⟩ I4 L4 I6 L6 ci4 cl4 ci6 cl6 w7.heap.size W (GX.out.below hW) (GY.out.below hW) hW.size
  have K2 := Lib.hid (fun W (hW : Below w7.heap.size w7 W) => valid_any ⟨k, m, s, i, l⟩ I L ci cl w.heap.size W (GVv.out W (bstep b7 hW)) (FB.out W (bstep b7 hW)).size)
  have K3 := Lib.hid (fun W (hW : Below w7.heap.size w7 W) => refValid_any ⟨k, m, s, i, l⟩ I L ci cl w.heap.size W (GVv.out W (bstep b7 hW)) (FB.out W (bstep b7 hW)).size)
  have K4 := Lib.hid (fun W (hW : Below w7.heap.size w7 W) => sameValue_any ⟨k, m, s, i, l⟩ ⟨k2, m2, s2, i2, l2⟩ I L I2 L2 ci cl ci2 cl2 w.heap.size W (GVv.out W (bstep b7 hW)) (GVu.out W (bstep b7 hW)) (FB.out W (bstep b7 hW)).size)
  have K5 := Lib.hid (fun W (hW : Below w7.heap.size w7 W) => refSameValue_any ⟨k, m, s, i, l⟩ ⟨k2, m2, s2, i2, l2⟩ I L I2 L2 ci cl ci2 cl2 w.heap.size W (GVv.out W (bstep b7 hW)) (GVu.out W (bstep b7 hW)) (FB.out W (bstep b7 hW)).size)
  have k6 := fun W (hW : Below w7.heap.size w7 W) => sameValue_any ⟨k, m, s, i, l⟩ ⟨k, m, s, i, l⟩ I L I L ci cl ci cl w.heap.size W (GVv.out W (bstep b7 hW)) (GVv.out W (bstep b7 hW)) (FB.out W (bstep b7 hW)).size
  simp only [sameV_refl] at k1 k6
  have K1 := Lib.hid k1
  have K6 := Lib.hid k6
  dsimp only [gvV, strV] at K1 K2 K3 K4 K5 K6
  clear k1 k6
  rw [HOK.out] at K2 K3
  generalize sameV ⟨k, m, s, i, l⟩ ⟨k2, m2, s2, i2, l2⟩ = sv at *
  go_cut [75] (fun s wx => s = .bool false ∧ Below w7.heap.size w7 wx)
  case first =>
    go_region_held3 (fun w' => w'.cell? ⟨w.heap.size, 0, none⟩ = some (.int .i64 k) ∧ w'.cell? ⟨w.heap.size, 1, none⟩ = some (.int .i64 m) ∧ w'.cell? ⟨w.heap.size, 2, none⟩ = some (.string ⟨s.toArray⟩) ∧ w'.cell? ⟨w.heap.size, 3, none⟩ = some (.slice I i.length ci) ∧ w'.cell? ⟨w.heap.size, 4, none⟩ = some (.slice L l.length cl) ∧ w'.cell? ⟨w.heap.size + 1, 0, none⟩ = some (.int .i64 k2) ∧ w'.cell? ⟨w.heap.size + 1, 1, none⟩ = some (.int .i64 m2) ∧ w'.cell? ⟨w.heap.size + 1, 2, none⟩ = some (.string ⟨s2.toArray⟩) ∧ w'.cell? ⟨w.heap.size + 1, 3, none⟩ = some (.slice I2 i2.length ci2) ∧ w'.cell? ⟨w.heap.size + 1, 4, none⟩ = some (.slice L2 l2.length cl2) ∧ w'.cell? ⟨g7, 0, none⟩ = some (.int .i64 xk) ∧ w'.cell? ⟨g7, 1, none⟩ = some (.int .i64 xm) ∧ w'.cell? ⟨g7, 2, none⟩ = some (.string ⟨xs.toArray⟩) ∧ w'.cell? ⟨g7, 3, none⟩ = some (.slice I4 xi.length ci4) ∧ w'.cell? ⟨g7, 4, none⟩ = some (.slice L4 xl.length cl4) ∧ w'.cell? ⟨g10, 0, none⟩ = some (.int .i64 xk) ∧ w'.cell? ⟨g10, 1, none⟩ = some (.int .i64 xm) ∧ w'.cell? ⟨g10, 2, none⟩ = some (.string ⟨xs.toArray⟩) ∧ w'.cell? ⟨g10, 3, none⟩ = some (.slice I6 xi.length ci6) ∧ w'.cell? ⟨g10, 4, none⟩ = some (.slice L6 xl.length cl6))
      (first | exact F13.out.box20 | exact F12.out.box20 | exact F11.out.box20 | exact F10.out.box20 | exact F9.out.box20 | exact F8.out.box20 | exact F7.out.box20)
      (first
        | (go_at_call 41; (with_reducible refine (K1.out _ (by exact (Below.refl _ _).drew)).mono ?_); rintro e w8 ⟨rfl, hq8⟩; (have h8 : Below w7.heap.size w7 w8 := ((Below.refl _ _).drew).trans hq8); (have F8 := Lib.hid (F7.out.below h8)))
        | (go_at_call 42; (with_reducible refine (K2.out _ (by exact h8)).mono ?_); rintro e w9 ⟨rfl, hq9⟩; (have h9 : Below w7.heap.size w7 w9 := bstep h8 hq9); (have F9 := Lib.hid (F7.out.below h9)))
        | (go_at_call 43; (with_reducible refine (K3.out _ (by exact h9)).mono ?_); rintro e w10 ⟨rfl, hq10⟩; (have h10 : Below w7.heap.size w7 w10 := bstep h9 hq10); (have F10 := Lib.hid (F7.out.below h10)))
        | (go_at_call 44; (with_reducible refine (K4.out _ (by exact h10)).mono ?_); rintro e w11 ⟨rfl, hq11⟩; (have h11 : Below w7.heap.size w7 w11 := bstep h10 hq11); (have F11 := Lib.hid (F7.out.below h11)))
        | (go_at_call 41; (with_reducible refine (K5.out _ (by exact h11)).mono ?_); rintro e w12 ⟨rfl, hq12⟩; (have h12 : Below w7.heap.size w7 w12 := bstep h11 hq12); (have F12 := Lib.hid (F7.out.below h12)))
        | (go_at_call 44; (with_reducible refine (K6.out _ (by exact h12)).mono ?_); rintro e w13 ⟨rfl, hq13⟩; (have h13 : Below w7.heap.size w7 w13 := bstep h12 hq13); (have F13 := Lib.hid (F7.out.below h13))))
    all_goals (go_wp2; go_meet; exact ⟨by cases sv <;> rfl, h13⟩)
  case rest =>
    obtain ⟨rfl, h13⟩ := hcut
    obtain ⟨w13, rfl⟩ : ∃ x, x = wc := ⟨_, rfl⟩
    have B13 := Lib.hid (F7.out.1.below h13 F7.out.1.lt)
    have b13 := bstep b7 h13
    obtain ⟨q0, q1, q2, q3, q4⟩ := B13.out.box5
    clear K1 K2 K4 K5 K6 GX GY
    have K3b := Lib.hid (fun W (hW : Below ((w.alloc (.cells #[.int .i64 k, .int .i64 m, .string ⟨s.toArray⟩, .slice I i.length ci, .slice L l.length cl] 55)).alloc (.cells #[.int .i64 k2, .int .i64 m2, .string ⟨s2.toArray⟩, .slice I2 i2.length ci2, .slice L2 l2.length cl2] 55)).heap.size ((w.alloc (.cells #[.int .i64 k, .int .i64 m, .string ⟨s.toArray⟩, .slice I i.length ci, .slice L l.length cl] 55)).alloc (.cells #[.int .i64 k2, .int .i64 m2, .string ⟨s2.toArray⟩, .slice I2 i2.length ci2, .slice L2 l2.length cl2] 55)) W) => ((GVv.out W hW).more (FB.out W hW).size))
    have KN := Lib.hid (fun W (hW : Below ((w.alloc (.cells #[.int .i64 k, .int .i64 m, .string ⟨s.toArray⟩, .slice I i.length ci, .slice L l.length cl] 55)).alloc (.cells #[.int .i64 k2, .int .i64 m2, .string ⟨s2.toArray⟩, .slice I2 i2.length ci2, .slice L2 l2.length cl2] 55)).heap.size ((w.alloc (.cells #[.int .i64 k, .int .i64 m, .string ⟨s.toArray⟩, .slice I i.length ci, .slice L l.length cl] 55)).alloc (.cells #[.int .i64 k2, .int .i64 m2, .string ⟨s2.toArray⟩, .slice I2 i2.length ci2, .slice L2 l2.length cl2] 55)) W) => appendValue_no ⟨k, m, s, i, l⟩ A I L c ci cl bs W (K3b.out W hW) HOK.out)
    dsimp only [gvV, strV] at KN
    go_wp2_with (first
      | (go_at_call 43; (with_reducible refine (K3.out _ h13).mono ?_); rintro e w14 ⟨rfl, hq14⟩; (have b14 := bstep b13 hq14); (have B14 := Lib.hid (B13.out.below hq14 B13.out.lt)); clear q0 q1 q2 q3 q4; obtain ⟨q0, q1, q2, q3, q4⟩ := B14.out.box5)
      | (go_at_call 45; (with_reducible refine (KN.out _ b14).mono ?_); rintro e w15 ⟨rfl, hq15⟩; (have b15 := bstep b14 hq15)))
    go_ret
    exact ⟨rfl, FB.out _ b15⟩

set_option maxRecDepth 100000 in
set_option maxHeartbeats 8000000 in
theorem values_yes (k m k2 m2 : Int) (s s2 : List UInt8) (i i2 : List Int) (l l2 : List (List UInt8)) (A I L I2 L2 : Option Addr) (c ci cl ci2 cl2 n : Nat) (bs : List UInt8) (w : World) (ht : Tab w)
    (hv : GVraw w w.heap.size ⟨k, m, s, i, l⟩ I L ci cl) (hu : GVraw w w.heap.size ⟨k2, m2, s2, i2, l2⟩ I2 L2 ci2 cl2) (ha : Reads w w.heap.size 1 A n (byteCells bs)) (hcap : n ≤ c) (hn : n ≤ 2000) (hsv : smallV ⟨k, m, s, i, l⟩ = true) (hsu : smallV ⟨k2, m2, s2, i2, l2⟩ = true) (hok : GV.ok ⟨k, m, s, i, l⟩ = true) :
    Calls Tryd.prog 5 #[.slice A n c, gvV ⟨k, m, s, i, l⟩ I L ci cl, gvV ⟨k2, m2, s2, i2, l2⟩ I2 L2 ci2 cl2] w fun e w' => e = .returned (.bool true) ∧ Below w.heap.size w w' := by
  obtain rfl := ha.len
  have h01 : Below w.heap.size w ((w.alloc (.cells #[.int .i64 k, .int .i64 m, .string ⟨s.toArray⟩, .slice I i.length ci, .slice L l.length cl] 55)).alloc (.cells #[.int .i64 k2, .int .i64 m2, .string ⟨s2.toArray⟩, .slice I2 i2.length ci2, .slice L2 l2.length cl2] 55)) := ((Below.refl w.heap.size w).alloc (Nat.le_refl _) _).alloc (by simp) _
  have hz := zero_blk w 55 #[.int .i64 k, .int .i64 m, .string ⟨s.toArray⟩, .slice I i.length ci, .slice L l.length cl] #[.int .i64 k2, .int .i64 m2, .string ⟨s2.toArray⟩, .slice I2 i2.length ci2, .slice L2 l2.length cl2]
  have CA := Lib.hid (awake_any _ (ht.on h01))
  have hs0 : ((w.alloc (.cells #[.int .i64 k, .int .i64 m, .string ⟨s.toArray⟩, .slice I i.length ci, .slice L l.length cl] 55)).alloc (.cells #[.int .i64 k2, .int .i64 m2, .string ⟨s2.toArray⟩, .slice I2 i2.length ci2, .slice L2 l2.length cl2] 55)).heap.size = w.heap.size + 2 := by simp
  have FB := Lib.hid (fun W (hW : Below ((w.alloc (.cells #[.int .i64 k, .int .i64 m, .string ⟨s.toArray⟩, .slice I i.length ci, .slice L l.length cl] 55)).alloc (.cells #[.int .i64 k2, .int .i64 m2, .string ⟨s2.toArray⟩, .slice I2 i2.length ci2, .slice L2 l2.length cl2] 55)).heap.size ((w.alloc (.cells #[.int .i64 k, .int .i64 m, .string ⟨s.toArray⟩, .slice I i.length ci, .slice L l.length cl] 55)).alloc (.cells #[.int .i64 k2, .int .i64 m2, .string ⟨s2.toArray⟩, .slice I2 i2.length ci2, .slice L2 l2.length cl2] 55)) W) => h01.trans (hW.mono (by rw [hs0]; omega)))
  have FZ := Lib.hid (fun W (hW : Below ((w.alloc (.cells #[.int .i64 k, .int .i64 m, .string ⟨s.toArray⟩, .slice I i.length ci, .slice L l.length cl] 55)).alloc (.cells #[.int .i64 k2, .int .i64 m2, .string ⟨s2.toArray⟩, .slice I2 i2.length ci2, .slice L2 l2.length cl2] 55)).heap.size ((w.alloc (.cells #[.int .i64 k, .int .i64 m, .string ⟨s.toArray⟩, .slice I i.length ci, .slice L l.length cl] 55)).alloc (.cells #[.int .i64 k2, .int .i64 m2, .string ⟨s2.toArray⟩, .slice I2 i2.length ci2, .slice L2 l2.length cl2] 55)) W) => And.intro (hz.1.below hW hz.1.lt) (hz.2.below hW hz.2.lt))
  have FV := Lib.hid (fun W (hW : Below ((w.alloc (.cells #[.int .i64 k, .int .i64 m, .string ⟨s.toArray⟩, .slice I i.length ci, .slice L l.length cl] 55)).alloc (.cells #[.int .i64 k2, .int .i64 m2, .string ⟨s2.toArray⟩, .slice I2 i2.length ci2, .slice L2 l2.length cl2] 55)).heap.size ((w.alloc (.cells #[.int .i64 k, .int .i64 m, .string ⟨s.toArray⟩, .slice I i.length ci, .slice L l.length cl] 55)).alloc (.cells #[.int .i64 k2, .int .i64 m2, .string ⟨s2.toArray⟩, .slice I2 i2.length ci2, .slice L2 l2.length cl2] 55)) W) => box10 (FZ.out W hW))
  have CS := Lib.hid (fun W (hW : Below ((w.alloc (.cells #[.int .i64 k, .int .i64 m, .string ⟨s.toArray⟩, .slice I i.length ci, .slice L l.length cl] 55)).alloc (.cells #[.int .i64 k2, .int .i64 m2, .string ⟨s2.toArray⟩, .slice I2 i2.length ci2, .slice L2 l2.length cl2] 55)).heap.size ((w.alloc (.cells #[.int .i64 k, .int .i64 m, .string ⟨s.toArray⟩, .slice I i.length ci, .slice L l.length cl] 55)).alloc (.cells #[.int .i64 k2, .int .i64 m2, .string ⟨s2.toArray⟩, .slice I2 i2.length ci2, .slice L2 l2.length cl2] 55)) W) => small_any ⟨k, m, s, i, l⟩ I L ci cl w.heap.size W (hv.below (FB.out W hW)) (FB.out W hW).size)
  have CT := Lib.hid (fun W (hW : Below ((w.alloc (.cells #[.int .i64 k, .int .i64 m, .string ⟨s.toArray⟩, .slice I i.length ci, .slice L l.length cl] 55)).alloc (.cells #[.int .i64 k2, .int .i64 m2, .string ⟨s2.toArray⟩, .slice I2 i2.length ci2, .slice L2 l2.length cl2] 55)).heap.size ((w.alloc (.cells #[.int .i64 k, .int .i64 m, .string ⟨s.toArray⟩, .slice I i.length ci, .slice L l.length cl] 55)).alloc (.cells #[.int .i64 k2, .int .i64 m2, .string ⟨s2.toArray⟩, .slice I2 i2.length ci2, .slice L2 l2.length cl2] 55)) W) => small_any ⟨k2, m2, s2, i2, l2⟩ I2 L2 ci2 cl2 w.heap.size W (hu.below (FB.out W hW)) (FB.out W hW).size)
  rw [hsv] at CS
  rw [hsu] at CT
  have f1 : ¬ (2000 : Int) < (bs.length : Int) := by omega
  have RA := Lib.hid (fun W (hW : Below ((w.alloc (.cells #[.int .i64 k, .int .i64 m, .string ⟨s.toArray⟩, .slice I i.length ci, .slice L l.length cl] 55)).alloc (.cells #[.int .i64 k2, .int .i64 m2, .string ⟨s2.toArray⟩, .slice I2 i2.length ci2, .slice L2 l2.length cl2] 55)).heap.size ((w.alloc (.cells #[.int .i64 k, .int .i64 m, .string ⟨s.toArray⟩, .slice I i.length ci, .slice L l.length cl] 55)).alloc (.cells #[.int .i64 k2, .int .i64 m2, .string ⟨s2.toArray⟩, .slice I2 i2.length ci2, .slice L2 l2.length cl2] 55)) W) => (ha.below (FB.out W hW)).more (FB.out W hW).size)
  have GVv := Lib.hid (fun W (hW : Below ((w.alloc (.cells #[.int .i64 k, .int .i64 m, .string ⟨s.toArray⟩, .slice I i.length ci, .slice L l.length cl] 55)).alloc (.cells #[.int .i64 k2, .int .i64 m2, .string ⟨s2.toArray⟩, .slice I2 i2.length ci2, .slice L2 l2.length cl2] 55)).heap.size ((w.alloc (.cells #[.int .i64 k, .int .i64 m, .string ⟨s.toArray⟩, .slice I i.length ci, .slice L l.length cl] 55)).alloc (.cells #[.int .i64 k2, .int .i64 m2, .string ⟨s2.toArray⟩, .slice I2 i2.length ci2, .slice L2 l2.length cl2] 55)) W) => ((hv.arg hsv).below (FB.out W hW)))
  have GVu := Lib.hid (fun W (hW : Below ((w.alloc (.cells #[.int .i64 k, .int .i64 m, .string ⟨s.toArray⟩, .slice I i.length ci, .slice L l.length cl] 55)).alloc (.cells #[.int .i64 k2, .int .i64 m2, .string ⟨s2.toArray⟩, .slice I2 i2.length ci2, .slice L2 l2.length cl2] 55)).heap.size ((w.alloc (.cells #[.int .i64 k, .int .i64 m, .string ⟨s.toArray⟩, .slice I i.length ci, .slice L l.length cl] 55)).alloc (.cells #[.int .i64 k2, .int .i64 m2, .string ⟨s2.toArray⟩, .slice I2 i2.length ci2, .slice L2 l2.length cl2] 55)) W) => ((hu.arg hsu).below (FB.out W hW)))
  obtain ⟨⟨⟨xk, xm, xs, xi, xl⟩, xn, xe⟩, hx⟩ : ∃ r, rdV bs = r := ⟨_, rfl⟩
  have c4 := fun W (hW : Below ((w.alloc (.cells #[.int .i64 k, .int .i64 m, .string ⟨s.toArray⟩, .slice I i.length ci, .slice L l.length cl] 55)).alloc (.cells #[.int .i64 k2, .int .i64 m2, .string ⟨s2.toArray⟩, .slice I2 i2.length ci2, .slice L2 l2.length cl2] 55)).heap.size ((w.alloc (.cells #[.int .i64 k, .int .i64 m, .string ⟨s.toArray⟩, .slice I i.length ci, .slice L l.length cl] 55)).alloc (.cells #[.int .i64 k2, .int .i64 m2, .string ⟨s2.toArray⟩, .slice I2 i2.length ci2, .slice L2 l2.length cl2] 55)) W) => value_any A c bs W (RA.out W hW) (by omega) hcap
  have c6 := fun W (hW : Below ((w.alloc (.cells #[.int .i64 k, .int .i64 m, .string ⟨s.toArray⟩, .slice I i.length ci, .slice L l.length cl] 55)).alloc (.cells #[.int .i64 k2, .int .i64 m2, .string ⟨s2.toArray⟩, .slice I2 i2.length ci2, .slice L2 l2.length cl2] 55)).heap.size ((w.alloc (.cells #[.int .i64 k, .int .i64 m, .string ⟨s.toArray⟩, .slice I i.length ci, .slice L l.length cl] 55)).alloc (.cells #[.int .i64 k2, .int .i64 m2, .string ⟨s2.toArray⟩, .slice I2 i2.length ci2, .slice L2 l2.length cl2] 55)) W) => refRead_any A c bs W (RA.out W hW) (by omega) hcap
  simp only [hx] at c4 c6
  have C4 := Lib.hid (fun W (hW : Below ((w.alloc (.cells #[.int .i64 k, .int .i64 m, .string ⟨s.toArray⟩, .slice I i.length ci, .slice L l.length cl] 55)).alloc (.cells #[.int .i64 k2, .int .i64 m2, .string ⟨s2.toArray⟩, .slice I2 i2.length ci2, .slice L2 l2.length cl2] 55)).heap.size ((w.alloc (.cells #[.int .i64 k, .int .i64 m, .string ⟨s.toArray⟩, .slice I i.length ci, .slice L l.length cl] 55)).alloc (.cells #[.int .i64 k2, .int .i64 m2, .string ⟨s2.toArray⟩, .slice I2 i2.length ci2, .slice L2 l2.length cl2] 55)) W) => (c4 W hW).mono fun _ _ h => h.to ⟨xk, xm, xs, xi, xl⟩ xi.length xl.length xn xe rfl rfl rfl rfl rfl)
  have C6 := Lib.hid (fun W (hW : Below ((w.alloc (.cells #[.int .i64 k, .int .i64 m, .string ⟨s.toArray⟩, .slice I i.length ci, .slice L l.length cl] 55)).alloc (.cells #[.int .i64 k2, .int .i64 m2, .string ⟨s2.toArray⟩, .slice I2 i2.length ci2, .slice L2 l2.length cl2] 55)).heap.size ((w.alloc (.cells #[.int .i64 k, .int .i64 m, .string ⟨s.toArray⟩, .slice I i.length ci, .slice L l.length cl] 55)).alloc (.cells #[.int .i64 k2, .int .i64 m2, .string ⟨s2.toArray⟩, .slice I2 i2.length ci2, .slice L2 l2.length cl2] 55)) W) => (c6 W hW).mono fun _ _ h => h.to ⟨xk, xm, xs, xi, xl⟩ xi.length xl.length xn xe rfl rfl rfl rfl rfl)
  have DX := Lib.hid hx
  have hev : GV.ok ⟨k, m, s, i, l⟩ = true → (enV ⟨k, m, s, i, l⟩).length ≤ 2000 := fun h => enV_small h hv.i64 hv.n64
  have HEV := Lib.hid hev
  have HOK := Lib.hid hok
  dsimp only [gvV, strV] at *
  clear hv hu ht hz h01 hs0 c4 c6 hx hev hsv hsu hok ha
  go_enter Tryd.func5, Tryd.ntmps5
  go_upto_region 6 with (first
    | (go_at_call 13; (with_reducible refine CA.out.mono ?_); rintro e w1 ⟨rfl, b1⟩; obtain ⟨q0, q1, q2, q3, q4, r0, r1, r2, r3, r4⟩ := FV.out _ b1)
    | (go_at_call 38; (with_reducible refine (CS.out _ b1).mono ?_); rintro e w2 ⟨rfl, hq2⟩; (have b2 := bstep b1 hq2); clear q0 q1 q2 q3 q4 r0 r1 r2 r3 r4; obtain ⟨q0, q1, q2, q3, q4, r0, r1, r2, r3, r4⟩ := FV.out _ b2)
    | (go_at_call 38; (with_reducible refine (CT.out _ b2).mono ?_); rintro e w3 ⟨rfl, hq3⟩; (have b3 := bstep b2 hq3); clear q0 q1 q2 q3 q4 r0 r1 r2 r3 r4; obtain ⟨q0, q1, q2, q3, q4, r0, r1, r2, r3, r4⟩ := FV.out _ b3)
    | (go_at_call 39; (with_reducible refine (C4.out _ b3).mono ?_); rintro e w4 ⟨I4, ci4, L4, cl4, rfl, hi4, hl4, hri4, hrl4, hq4⟩; clear q0 q1 q2 q3 q4 r0 r1 r2 r3 r4))
  all_goals try (exfalso; omega)
  have b4 := bstep b3 hq4
  have b5 := b4.alloc b4.size (.cells #[.int .i64 xk, .int .i64 xm, .string ⟨xs.toArray⟩, .slice I4 xi.length ci4, .slice L4 xl.length cl4] 55)
  have hx5 := Blk.new w4 55 #[.int .i64 xk, .int .i64 xm, .string ⟨xs.toArray⟩, .slice I4 xi.length ci4, .slice L4 xl.length cl4]
  have h45 : Below w4.heap.size w4 (w4.alloc (.cells #[.int .i64 xk, .int .i64 xm, .string ⟨xs.toArray⟩, .slice I4 xi.length ci4, .slice L4 xl.length cl4] 55)) := (Below.refl _ _).alloc (Nat.le_refl _) _
  have ri5 := (hri4.below h45).more h45.size
  have rl5 := (hrl4.below h45).more h45.size
  obtain ⟨g7, hg7⟩ : ∃ g, g = w4.heap.size := ⟨_, rfl⟩
  rw [← hg7] at hx5 ⊢
  generalize w4.alloc (.cells #[.int .i64 xk, .int .i64 xm, .string ⟨xs.toArray⟩, .slice I4 xi.length ci4, .slice L4 xl.length cl4] 55) = w5 at *
  clear hri4 hrl4 h45 hg7 hq4
  go_upto_region 7 with (go_at_call 40; (with_reducible refine (C6.out _ b5).mono ?_); rintro e w6 ⟨I6, ci6, L6, cl6, rfl, hi6, hl6, hri6, hrl6, hq6⟩)
  have b6 := bstep b5 hq6
  have b7 := b6.alloc b6.size (.cells #[.int .i64 xk, .int .i64 xm, .string ⟨xs.toArray⟩, .slice I6 xi.length ci6, .slice L6 xl.length cl6] 55)
  have h67 : Below w6.heap.size w6 (w6.alloc (.cells #[.int .i64 xk, .int .i64 xm, .string ⟨xs.toArray⟩, .slice I6 xi.length ci6, .slice L6 xl.length cl6] 55)) := (Below.refl _ _).alloc (Nat.le_refl _) _
  have h57 := bstep hq6 h67
  have hz7 := FZ.out _ b7
  obtain ⟨g10, hg10⟩ : ∃ g, g = w6.heap.size := ⟨_, rfl⟩
  have hy7 := Blk.new w6 55 #[.int .i64 xk, .int .i64 xm, .string ⟨xs.toArray⟩, .slice I6 xi.length ci6, .slice L6 xl.length cl6]
  have F7 := Lib.hid (show Four _ _ _ _ _ _ _ _ _ _ from ⟨hz7.1, hz7.2, hx5.below h57 hx5.lt, hy7⟩)
  have GX := Lib.hid (arg_dec DX.out ((ri5.below h57).more h57.size) ((rl5.below h57).more h57.size) hi4 hl4)
  have GY := Lib.hid (arg_dec DX.out ((hri6.below h67).more h67.size) ((hrl6.below h67).more h67.size) hi6 hl6)
  rw [← hg10] at F7 ⊢
  generalize w6.alloc (.cells #[.int .i64 xk, .int .i64 xm, .string ⟨xs.toArray⟩, .slice I6 xi.length ci6, .slice L6 xl.length cl6] 55) = w7 at *
  clear hri6 hrl6 ri5 rl5 h67 h57 hx5 hy7 hz7 hg10 hq6 CA CS CT C4 C6 b3 b4 b5 b6
  have k1 := fun W (hW : Below w7.heap.size w7 W) => refSameValue_any ⟨xk, xm, xs, xi, xl⟩ ⟨xk, xm, xs, xi, xl⟩ I4 L4 I6 L6 ci4 cl4 ci6 cl6 w7.heap.size W (GX.out.below hW) (GY.out.below hW) hW.size
  have K2 := Lib.hid (fun W (hW : Below w7.heap.size w7 W) => valid_any ⟨k, m, s, i, l⟩ I L ci cl w.heap.size W (GVv.out W (bstep b7 hW)) (FB.out W (bstep b7 hW)).size)
  have K3 := Lib.hid (fun W (hW : Below w7.heap.size w7 W) => refValid_any ⟨k, m, s, i, l⟩ I L ci cl w.heap.size W (GVv.out W (bstep b7 hW)) (FB.out W (bstep b7 hW)).size)
  have K4 := Lib.hid (fun W (hW : Below w7.heap.size w7 W) => sameValue_any ⟨k, m, s, i, l⟩ ⟨k2, m2, s2, i2, l2⟩ I L I2 L2 ci cl ci2 cl2 w.heap.size W (GVv.out W (bstep b7 hW)) (GVu.out W (bstep b7 hW)) (FB.out W (bstep b7 hW)).size)
  have K5 := Lib.hid (fun W (hW : Below w7.heap.size w7 W) => refSameValue_any ⟨k, m, s, i, l⟩ ⟨k2, m2, s2, i2, l2⟩ I L I2 L2 ci cl ci2 cl2 w.heap.size W (GVv.out W (bstep b7 hW)) (GVu.out W (bstep b7 hW)) (FB.out W (bstep b7 hW)).size)
  have k6 := fun W (hW : Below w7.heap.size w7 W) => sameValue_any ⟨k, m, s, i, l⟩ ⟨k, m, s, i, l⟩ I L I L ci cl ci cl w.heap.size W (GVv.out W (bstep b7 hW)) (GVv.out W (bstep b7 hW)) (FB.out W (bstep b7 hW)).size
  simp only [sameV_refl] at k1 k6
  have K1 := Lib.hid k1
  have K6 := Lib.hid k6
  dsimp only [gvV, strV] at K1 K2 K3 K4 K5 K6
  clear k1 k6
  rw [HOK.out] at K2 K3
  generalize sameV ⟨k, m, s, i, l⟩ ⟨k2, m2, s2, i2, l2⟩ = sv at *
  go_cut [75] (fun s wx => s = .bool false ∧ Below w7.heap.size w7 wx)
  case first =>
    go_region_held3 (fun w' => w'.cell? ⟨w.heap.size, 0, none⟩ = some (.int .i64 k) ∧ w'.cell? ⟨w.heap.size, 1, none⟩ = some (.int .i64 m) ∧ w'.cell? ⟨w.heap.size, 2, none⟩ = some (.string ⟨s.toArray⟩) ∧ w'.cell? ⟨w.heap.size, 3, none⟩ = some (.slice I i.length ci) ∧ w'.cell? ⟨w.heap.size, 4, none⟩ = some (.slice L l.length cl) ∧ w'.cell? ⟨w.heap.size + 1, 0, none⟩ = some (.int .i64 k2) ∧ w'.cell? ⟨w.heap.size + 1, 1, none⟩ = some (.int .i64 m2) ∧ w'.cell? ⟨w.heap.size + 1, 2, none⟩ = some (.string ⟨s2.toArray⟩) ∧ w'.cell? ⟨w.heap.size + 1, 3, none⟩ = some (.slice I2 i2.length ci2) ∧ w'.cell? ⟨w.heap.size + 1, 4, none⟩ = some (.slice L2 l2.length cl2) ∧ w'.cell? ⟨g7, 0, none⟩ = some (.int .i64 xk) ∧ w'.cell? ⟨g7, 1, none⟩ = some (.int .i64 xm) ∧ w'.cell? ⟨g7, 2, none⟩ = some (.string ⟨xs.toArray⟩) ∧ w'.cell? ⟨g7, 3, none⟩ = some (.slice I4 xi.length ci4) ∧ w'.cell? ⟨g7, 4, none⟩ = some (.slice L4 xl.length cl4) ∧ w'.cell? ⟨g10, 0, none⟩ = some (.int .i64 xk) ∧ w'.cell? ⟨g10, 1, none⟩ = some (.int .i64 xm) ∧ w'.cell? ⟨g10, 2, none⟩ = some (.string ⟨xs.toArray⟩) ∧ w'.cell? ⟨g10, 3, none⟩ = some (.slice I6 xi.length ci6) ∧ w'.cell? ⟨g10, 4, none⟩ = some (.slice L6 xl.length cl6))
      (first | exact F13.out.box20 | exact F12.out.box20 | exact F11.out.box20 | exact F10.out.box20 | exact F9.out.box20 | exact F8.out.box20 | exact F7.out.box20)
      (first
        | (go_at_call 41; (with_reducible refine (K1.out _ (by exact (Below.refl _ _).drew)).mono ?_); rintro e w8 ⟨rfl, hq8⟩; (have h8 : Below w7.heap.size w7 w8 := ((Below.refl _ _).drew).trans hq8); (have F8 := Lib.hid (F7.out.below h8)))
        | (go_at_call 42; (with_reducible refine (K2.out _ (by exact h8)).mono ?_); rintro e w9 ⟨rfl, hq9⟩; (have h9 : Below w7.heap.size w7 w9 := bstep h8 hq9); (have F9 := Lib.hid (F7.out.below h9)))
        | (go_at_call 43; (with_reducible refine (K3.out _ (by exact h9)).mono ?_); rintro e w10 ⟨rfl, hq10⟩; (have h10 : Below w7.heap.size w7 w10 := bstep h9 hq10); (have F10 := Lib.hid (F7.out.below h10)))
        | (go_at_call 44; (with_reducible refine (K4.out _ (by exact h10)).mono ?_); rintro e w11 ⟨rfl, hq11⟩; (have h11 : Below w7.heap.size w7 w11 := bstep h10 hq11); (have F11 := Lib.hid (F7.out.below h11)))
        | (go_at_call 41; (with_reducible refine (K5.out _ (by exact h11)).mono ?_); rintro e w12 ⟨rfl, hq12⟩; (have h12 : Below w7.heap.size w7 w12 := bstep h11 hq12); (have F12 := Lib.hid (F7.out.below h12)))
        | (go_at_call 44; (with_reducible refine (K6.out _ (by exact h12)).mono ?_); rintro e w13 ⟨rfl, hq13⟩; (have h13 : Below w7.heap.size w7 w13 := bstep h12 hq13); (have F13 := Lib.hid (F7.out.below h13))))
    all_goals (go_wp2; go_meet; exact ⟨by cases sv <;> rfl, h13⟩)
  case rest =>
    obtain ⟨rfl, h13⟩ := hcut
    obtain ⟨w13, rfl⟩ : ∃ x, x = wc := ⟨_, rfl⟩
    have B13 := Lib.hid (F7.out.1.below h13 F7.out.1.lt)
    have b13 := bstep b7 h13
    obtain ⟨q0, q1, q2, q3, q4⟩ := B13.out.box5
    clear K1 K2 K4 K5 K6 GX GY
    have K3b := Lib.hid (fun W (hW : Below ((w.alloc (.cells #[.int .i64 k, .int .i64 m, .string ⟨s.toArray⟩, .slice I i.length ci, .slice L l.length cl] 55)).alloc (.cells #[.int .i64 k2, .int .i64 m2, .string ⟨s2.toArray⟩, .slice I2 i2.length ci2, .slice L2 l2.length cl2] 55)).heap.size ((w.alloc (.cells #[.int .i64 k, .int .i64 m, .string ⟨s.toArray⟩, .slice I i.length ci, .slice L l.length cl] 55)).alloc (.cells #[.int .i64 k2, .int .i64 m2, .string ⟨s2.toArray⟩, .slice I2 i2.length ci2, .slice L2 l2.length cl2] 55)) W) => ((GVv.out W hW).more (FB.out W hW).size))
    have hle := HEV.out HOK.out
    obtain ⟨mm, hmm⟩ : ∃ mm, (bs ++ enV ⟨k, m, s, i, l⟩).length = mm := ⟨_, rfl⟩
    have KA := Lib.hid (fun W (hW : Below ((w.alloc (.cells #[.int .i64 k, .int .i64 m, .string ⟨s.toArray⟩, .slice I i.length ci, .slice L l.length cl] 55)).alloc (.cells #[.int .i64 k2, .int .i64 m2, .string ⟨s2.toArray⟩, .slice I2 i2.length ci2, .slice L2 l2.length cl2] 55)).heap.size ((w.alloc (.cells #[.int .i64 k, .int .i64 m, .string ⟨s.toArray⟩, .slice I i.length ci, .slice L l.length cl] 55)).alloc (.cells #[.int .i64 k2, .int .i64 m2, .string ⟨s2.toArray⟩, .slice I2 i2.length ci2, .slice L2 l2.length cl2] 55)) W) => appendValue_at (c := c) (RA.out W hW) (K3b.out W hW) (by omega) HOK.out mm hmm)
    have KR := Lib.hid (fun W (hW : Below ((w.alloc (.cells #[.int .i64 k, .int .i64 m, .string ⟨s.toArray⟩, .slice I i.length ci, .slice L l.length cl] 55)).alloc (.cells #[.int .i64 k2, .int .i64 m2, .string ⟨s2.toArray⟩, .slice I2 i2.length ci2, .slice L2 l2.length cl2] 55)).heap.size ((w.alloc (.cells #[.int .i64 k, .int .i64 m, .string ⟨s.toArray⟩, .slice I i.length ci, .slice L l.length cl] 55)).alloc (.cells #[.int .i64 k2, .int .i64 m2, .string ⟨s2.toArray⟩, .slice I2 i2.length ci2, .slice L2 l2.length cl2] 55)) W) => (refValue_any ⟨k, m, s, i, l⟩ I L ci cl W (K3b.out W hW) HOK.out (by omega)).mono fun _ _ h => h.to (enV ⟨k, m, s, i, l⟩) (enV ⟨k, m, s, i, l⟩).length rfl rfl)
    have KJ := Lib.hid (fun W (hW : Below ((w.alloc (.cells #[.int .i64 k, .int .i64 m, .string ⟨s.toArray⟩, .slice I i.length ci, .slice L l.length cl] 55)).alloc (.cells #[.int .i64 k2, .int .i64 m2, .string ⟨s2.toArray⟩, .slice I2 i2.length ci2, .slice L2 l2.length cl2] 55)).heap.size ((w.alloc (.cells #[.int .i64 k, .int .i64 m, .string ⟨s.toArray⟩, .slice I i.length ci, .slice L l.length cl] 55)).alloc (.cells #[.int .i64 k2, .int .i64 m2, .string ⟨s2.toArray⟩, .slice I2 i2.length ci2, .slice L2 l2.length cl2] 55)) W) A' c' (h : Reads W W.heap.size 1 A' (enV ⟨k, m, s, i, l⟩).length (byteCells (enV ⟨k, m, s, i, l⟩))) => join_at (c := c) (c' := c') (RA.out W hW) h (by omega) mm hmm)
    dsimp only [gvV, strV] at KA KR
    generalize enV ⟨k, m, s, i, l⟩ = EV at *
    generalize EV.length = lE at *
    clear hle hmm K3b HEV HOK
    go_wp2_with (go_at_call 43; (with_reducible refine (K3.out _ h13).mono ?_); rintro e w14 ⟨rfl, hq14⟩; (have b14 := bstep b13 hq14); (have B14 := Lib.hid (B13.out.below hq14 B13.out.lt)); clear q0 q1 q2 q3 q4; obtain ⟨q0, q1, q2, q3, q4⟩ := B14.out.box5)
    go_region_held3 (fun w' => w'.cell? ⟨w.heap.size, 0, none⟩ = some (.int .i64 k) ∧ w'.cell? ⟨w.heap.size, 1, none⟩ = some (.int .i64 m) ∧ w'.cell? ⟨w.heap.size, 2, none⟩ = some (.string ⟨s.toArray⟩) ∧ w'.cell? ⟨w.heap.size, 3, none⟩ = some (.slice I i.length ci) ∧ w'.cell? ⟨w.heap.size, 4, none⟩ = some (.slice L l.length cl))
      (first | exact B17.out.box5 | exact B16.out.box5 | exact B15.out.box5 | exact B14.out.box5)
      (first
        | (go_at_call 45; (with_reducible refine (KA.out _ (by exact b14.drew)).mono ?_); rintro e w15 ⟨A15, c15, rfl, hc15, ho15, hr15, hq15⟩; (have b15 := bstep b14.drew hq15); (have j15 : Below w14.heap.size w14 w15 := ((Below.refl _ _).drew).trans hq15); (have B15 := Lib.hid (B14.out.below j15 B14.out.lt)))
        | (go_at_call 46; (with_reducible refine (KR.out _ (by exact b15)).mono ?_); rintro e w16 ⟨A16, c16, rfl, hc16, ho16, hr16, hq16⟩; (have b16 := bstep b15 hq16); (have j16 := bstep j15 hq16); (have B16 := Lib.hid (B14.out.below j16 B14.out.lt)); (have hr15b := (hr15.below hq16).more hq16.size))
        | (go_at_call 20; (with_reducible refine (KJ.out _ (by exact b16) _ _ (by exact hr16)).mono ?_); rintro e w17 ⟨A17, c17, rfl, hc17, ho17, hr17, hq17⟩; (have b17 := bstep b16 hq17); (have j17 := bstep j16 hq17); (have B17 := Lib.hid (B14.out.below j17 B14.out.lt)); (have hr15c := (hr15b.below hq17).more hq17.size))
        | (go_at_call 18; (with_reducible refine (same_at hr15c hr17 true (by simp)).mono ?_); rintro e wz ⟨rfl, rfl⟩))
    all_goals (go_wp2; go_ret; exact ⟨rfl, FB.out _ b17⟩)

end Go.Proofs.YtklihjgmmliejaaDoor.W
