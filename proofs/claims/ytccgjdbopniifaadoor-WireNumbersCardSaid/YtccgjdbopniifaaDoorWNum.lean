/- The walk of WireNumbers: it returns true, whatever comes in. -/
import Derived.Test.YtccgjdbopniifaaDoorWRefI
namespace Go.Proofs.YtccgjdbopniifaaDoor.W
set_option linter.unusedVariables false
open Go.RowKit
open Go.Lib (byteCells byteCells_length byteCells_append byteCells_snoc)

set_option maxRecDepth 100000 in
set_option maxHeartbeats 1000000 in
theorem num_no (n x : Nat) (y : Int) (A : Option Addr) (c : Nat) (w : World) (ht : Tab w) (hbad : 2000 < n) (hn : n ≤ 9223372036854775807) :
    Calls Tryd.prog 3 #[.slice A n c, .int .u64 x, .int .i64 y] w fun e w' => e = .returned (.bool true) ∧ Below w.heap.size w w' := by
  have CA := Lib.hid (awake_any _ ht)
  clear ht
  have f1 : (2000 : Int) < (n : Int) := by omega
  go_enter Tryd.func3, Tryd.ntmps3
  go_wp2_with (go_at_call 13; refine CA.out.mono ?_; rintro e w1 ⟨rfl, hq1⟩)
  go_ret
  exact ⟨rfl, hq1⟩
set_option maxRecDepth 100000 in
set_option maxHeartbeats 2000000 in
theorem num_yes (n x : Nat) (y : Int) (A : Option Addr) (c : Nat) (bs : List UInt8) (w : World) (ht : Tab w) (ha : Reads w w.heap.size 1 A n (byteCells bs)) (hn : n ≤ 2000) (hx : x < 18446744073709551616) (hy : In64 y) :
    Calls Tryd.prog 3 #[.slice A n c, .int .u64 x, .int .i64 y] w fun e w' => e = .returned (.bool true) ∧ Below w.heap.size w w' := by
  obtain rfl := ha.len
  have CA := Lib.hid (awake_any _ ht)
  have f0 : ¬ (2000 : Int) < (bs.length : Int) := by omega
  have RA := Lib.hid (fun W (hW : Below w.heap.size w W) => (ha.below hW).more hW.size)
  obtain ⟨⟨u1, n1, e1⟩, hu1⟩ : ∃ r, rdU bs = r := ⟨_, rfl⟩
  obtain ⟨⟨u2, n2, e2⟩, hu2⟩ : ∃ r, rdI bs = r := ⟨_, rfl⟩
  have C1 := Lib.hid (fun W (hW : Below w.heap.size w W) => uint_at' (c := c) (ha.below hW) (by omega) u1 n1 e1 hu1)
  have C2 := Lib.hid (fun W (hW : Below w.heap.size w W) => int_at (c := c) (ha.below hW) (by omega) u2 n2 e2 hu2)
  have r1 := fun W (hW : Below w.heap.size w W) => refReadUint_any A c w.heap.size bs W (ha.below hW) (by omega)
  have r2 := fun W (hW : Below w.heap.size w W) => refReadInt_any A c w.heap.size bs W (ha.below hW) (by omega)
  simp only [hu1, hu2] at r1 r2
  have R1 := Lib.hid r1
  have R2 := Lib.hid r2
  have hul := enU_len hx
  have hil := enI_len hy
  obtain ⟨na, hna⟩ : ∃ na, na = bs.length + (enU x).length := ⟨_, rfl⟩
  obtain ⟨nb, hnb⟩ : ∃ nb, nb = bs.length + (enI y).length := ⟨_, rfl⟩
  have CU := Lib.hid (fun W (hW : Below w.heap.size w W) => appendUint_at (c := c) (w := W) (RA.out W hW) (by omega) hx na (by rw [hna]; simp))
  have CI := Lib.hid (fun W (hW : Below w.heap.size w W) => appendInt_at (c := c) (w := W) (RA.out W hW) (by omega) hy nb (by rw [hnb]; simp))
  have FU := Lib.hid (fun W => (refUint_any x W hx).mono fun _ _ h => h.to (enU x) (enU x).length rfl rfl)
  have FI := Lib.hid (fun W => (refInt_any y W hy).mono fun _ _ h => h.to (enI y) (enI y).length rfl rfl)
  have JU := Lib.hid (fun W (hW : Below w.heap.size w W) A' c' (h : Reads W W.heap.size 1 A' (enU x).length (byteCells (enU x))) => join_at (c := c) (c' := c') (RA.out W hW) h (by omega) na (by rw [hna]; simp))
  have JI := Lib.hid (fun W (hW : Below w.heap.size w W) A' c' (h : Reads W W.heap.size 1 A' (enI y).length (byteCells (enI y))) => join_at (c := c) (c' := c') (RA.out W hW) h (by omega) nb (by rw [hnb]; simp))
  generalize enU x = EU at *
  generalize enI y = EI at *
  generalize EU.length = lu at *
  generalize EI.length = li at *
  clear ht ha hu1 hu2 r1 r2 hna hnb
  go_enter Tryd.func3, Tryd.ntmps3
  go_wp2_with (first
    | (go_at_call 13; refine CA.out.mono ?_; rintro e w1 ⟨rfl, hq1⟩)
    | (go_at_call 14; refine (C1.out _ hq1).mono ?_; rintro e wz ⟨rfl, rfl⟩)
    | (go_at_call 15; refine (R1.out _ hq1).mono ?_; rintro e wz ⟨rfl, rfl⟩)
    | (go_at_call 16; refine (C2.out _ hq1).mono ?_; rintro e wz ⟨rfl, rfl⟩)
    | (go_at_call 17; refine (R2.out _ hq1).mono ?_; rintro e wz ⟨rfl, rfl⟩)
    | (go_at_call 19; refine (CU.out _ hq1).mono ?_; rintro e w2 ⟨A2, c2, rfl, hc2, ho2, hr2, hq2⟩; (have hb2 := bstep hq1 hq2))
    | (go_at_call 21; refine (FU.out _).mono ?_; rintro e w3 ⟨A3, c3, rfl, hc3, ho3, hr3, hq3⟩; (have hb3 := bstep hb2 hq3); (have hr2b := (hr2.below hq3).more hq3.size))
    | (go_at_call 20; (with_reducible refine (JU.out _ hb3 _ _ hr3).mono ?_); rintro e w4 ⟨A4, c4, rfl, hc4, ho4, hr4, hq4⟩; (have hb4 := bstep hb3 hq4); (have hr2c := (hr2b.below hq4).more hq4.size))
    | (go_at_call 18; (with_reducible refine (same_at hr2c hr4 true (by simp)).mono ?_); rintro e wz ⟨rfl, rfl⟩)
    | (go_at_call 22; refine (CI.out _ hb4).mono ?_; rintro e w5 ⟨A5, c5, rfl, hc5, ho5, hr5, hq5⟩; (have hb5 := bstep hb4 hq5))
    | (go_at_call 23; refine (FI.out _).mono ?_; rintro e w6 ⟨A6, c6, rfl, hc6, ho6, hr6, hq6⟩; (have hb6 := bstep hb5 hq6); (have hr5b := (hr5.below hq6).more hq6.size))
    | (go_at_call 20; (with_reducible refine (JI.out _ hb6 _ _ hr6).mono ?_); rintro e w7 ⟨A7, c7, rfl, hc7, ho7, hr7, hq7⟩; (have hb7 := bstep hb6 hq7); (have hr5c := (hr5b.below hq7).more hq7.size))
    | (go_at_call 18; (with_reducible refine (same_at hr5c hr7 true (by simp)).mono ?_); rintro e wz ⟨rfl, rfl⟩))
  go_ret
  exact ⟨rfl, hb7⟩
end Go.Proofs.YtccgjdbopniifaaDoor.W
