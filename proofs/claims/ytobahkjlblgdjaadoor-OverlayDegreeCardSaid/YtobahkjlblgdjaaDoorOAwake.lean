/- Layer 4: awake; OverlayTells. -/
import Derived.Test.YtobahkjlblgdjaaDoorOV
namespace Go.Proofs.YtobahkjlblgdjaaDoor.O
set_option linter.unusedVariables false
open Go.RowKit
open Go.Proofs.YtobahkjlblgdjaaDoor.W
open Go.Proofs.YtobahkjlblgdjaaDoor.V

theorem ev1 : obsL K [4, 9] 4 = [9, 9, 9, 9, 9] := by decide +kernel
theorem ev2 : subL K [4, 9] 4 = [9, 9, 9, 9, 9] := by decide +kernel
theorem ev3 : obsL K [4] 7 = [4, 4, 4, 4, 4] := by decide +kernel
theorem ev4 : obsL K [4] 4 = [] := by decide +kernel
theorem ev5 : (orderL [2, 3, 5] 1).length = 3 := by decide +kernel
theorem ev6 : (shL K [4, 9] 4 9).length = 5 := by decide +kernel
theorem out_cell {w : World} {A : Option Addr} {n : Nat} {l : List Int} (h : Reads w w.heap.size 1 A n (l.map intV)) (k : Nat) (x : Int) (hx : l[k]? = some x) (hk : k < n) : ∃ ad, A = some ad ∧ ad.block < w.heap.size ∧ w.cell? (ad.add k) = some (.int .i64 x) := by
  obtain ⟨ad, u, hA, hb, hxx, hc⟩ := h.at_ hk
  have : u = .int .i64 x := by simp [hx, intV] at hxx; exact hxx.symm
  rw [this] at hc
  exact ⟨ad, hA, hb, hc⟩
set_option maxRecDepth 100000 in
set_option maxHeartbeats 4000000 in
theorem awake_any (w : World) (ht : H.Tab w) : Calls Tryd.prog 9 #[] w (PB w true) := by
  have HT := Lib.hid (fun W (hW : Below w.heap.size w W) => ht.on hW)
  have i4 : In64 (4 : Int) := ⟨by decide, by decide⟩
  have i7 : In64 (7 : Int) := ⟨by decide, by decide⟩
  have i9 : In64 (9 : Int) := ⟨by decide, by decide⟩
  have i1 : In64 (1 : Int) := ⟨by decide, by decide⟩
  have L49 := fun (W : World) => ls_lit W #[.int .i64 4, .int .i64 9] [4, 9] 2 rfl rfl (by decide) (in_lit (by decide))
  have L4 := fun (W : World) => ls_lit W #[.int .i64 4] [4] 1 rfl rfl (by decide) (in_lit (by decide))
  have L235 := fun (W : World) => ls_lit W #[.int .i64 2, .int .i64 3, .int .i64 5] [2, 3, 5] 3 rfl rfl (by decide) (in_lit (by decide))
  have nb := fun (W : World) (h : Below w.heap.size w W) (cs : Array Value) => h.alloc h.size (.cells cs 3)
  have C1 := Lib.hid (fun W (hW : Below w.heap.size w W) => show Calls Tryd.prog 13 #[.slice (some ⟨W.heap.size, 0, none⟩) 2 2, .int .i64 4] (W.alloc (.cells #[.int .i64 4, .int .i64 9] 3)) (OutI (W.alloc (.cells #[.int .i64 4, .int .i64 9] 3)) [9, 9, 9, 9, 9] 5) from
    (overObservers_any 4 _ 2 _ [4, 9] _ (L49 W) (Nat.le_refl _) i4 (HT.out _ (nb W hW _))).mono fun _ _ h => h.to _ 5 ev1 rfl)
  have C2 := Lib.hid (fun W (hW : Below w.heap.size w W) => show Calls Tryd.prog 15 #[.slice (some ⟨W.heap.size, 0, none⟩) 2 2, .int .i64 4] (W.alloc (.cells #[.int .i64 4, .int .i64 9] 3)) (OutI (W.alloc (.cells #[.int .i64 4, .int .i64 9] 3)) [9, 9, 9, 9, 9] 5) from
    (overSubjects_any 4 _ 2 _ [4, 9] _ (L49 W) (Nat.le_refl _) i4 (HT.out _ (nb W hW _))).mono fun _ _ h => h.to _ 5 ev2 rfl)
  have C3 := Lib.hid (fun W (hW : Below w.heap.size w W) => show Calls Tryd.prog 13 #[.slice (some ⟨W.heap.size, 0, none⟩) 1 1, .int .i64 7] (W.alloc (.cells #[.int .i64 4] 3)) (OutI (W.alloc (.cells #[.int .i64 4] 3)) [4, 4, 4, 4, 4] 5) from
    (overObservers_any 7 _ 1 _ [4] _ (L4 W) (Nat.le_refl _) i7 (HT.out _ (nb W hW _))).mono fun _ _ h => h.to _ 5 ev3 rfl)
  have C4 := Lib.hid (fun W (hW : Below w.heap.size w W) => show Calls Tryd.prog 13 #[.slice (some ⟨W.heap.size, 0, none⟩) 1 1, .int .i64 4] (W.alloc (.cells #[.int .i64 4] 3)) (OutI (W.alloc (.cells #[.int .i64 4] 3)) [] 0) from
    (overObservers_any 4 _ 1 _ [4] _ (L4 W) (Nat.le_refl _) i4 (HT.out _ (nb W hW _))).mono fun _ _ h => h.to _ 0 ev4 rfl)
  have C5 := Lib.hid (fun W (hW : Below w.heap.size w W) => show Calls Tryd.prog 11 #[.slice (some ⟨W.heap.size, 0, none⟩) 3 3, .int .i64 1] (W.alloc (.cells #[.int .i64 2, .int .i64 3, .int .i64 5] 3)) (OutI (W.alloc (.cells #[.int .i64 2, .int .i64 3, .int .i64 5] 3)) (orderL [2, 3, 5] 1) 3) from
    (overOrder_any 1 _ 3 _ [2, 3, 5] _ (L235 W) (Nat.le_refl _) i1 (HT.out _ (nb W hW _))).mono fun _ _ h => h.to _ 3 rfl ev5)
  have C6 := Lib.hid (fun W (hW : Below w.heap.size w W) => show Calls Tryd.prog 17 #[.slice (some ⟨W.heap.size, 0, none⟩) 2 2, .int .i64 4, .int .i64 9] (W.alloc (.cells #[.int .i64 4, .int .i64 9] 3)) (OutI (W.alloc (.cells #[.int .i64 4, .int .i64 9] 3)) (shL K [4, 9] 4 9) 5) from
    (overShared_any 4 9 _ 2 _ [4, 9] _ (L49 W) (Nat.le_refl _) i4 i9 (HT.out _ (nb W hW _))).mono fun _ _ h => h.to _ 5 rfl ev6)
  have NB := Lib.hid nb
  have b0 := Below.refl w.heap.size w
  clear L49 L4 L235 nb ht i4 i7 i9 i1
  go_enter Tryd.func9, Tryd.ntmps9
  go_wp2_with (first
    | (go_at_call 13; (with_reducible refine (C1.out _ b0).mono ?_); rintro e w1 ⟨A1, c1, rfl, hc1, ho1, hr1, hq1⟩; (have b1 : Below w.heap.size w w1 := (NB.out _ b0 _).trans (hq1.mono (NB.out _ b0 _).size)); obtain ⟨ad1, rfl, hd1, hx1⟩ := out_cell hr1 0 9 rfl (by decide); clear ho1 hq1)
    | (go_at_call 15; (with_reducible refine (C2.out _ b1).mono ?_); rintro e w2 ⟨A2, c2, rfl, hc2, ho2, hr2, hq2⟩; (have b2 : Below w.heap.size w w2 := (NB.out _ b1 _).trans (hq2.mono (NB.out _ b1 _).size)); (have e12 : Below w1.heap.size w1 w2 := ((Below.refl w1.heap.size w1).alloc (Nat.le_refl _) _).trans (hq2.mono (by simp))); obtain ⟨ad2, rfl, hd2, hx2⟩ := out_cell hr2 4 9 rfl (by decide); clear ho2 hq2)
    | (go_at_call 13; (with_reducible refine (C3.out _ b2).mono ?_); rintro e w3 ⟨A3, c3, rfl, hc3, ho3, hr3, hq3⟩; (have b3 : Below w.heap.size w w3 := (NB.out _ b2 _).trans (hq3.mono (NB.out _ b2 _).size)); (have e23 : Below w2.heap.size w2 w3 := ((Below.refl w2.heap.size w2).alloc (Nat.le_refl _) _).trans (hq3.mono (by simp))); obtain ⟨ad3, rfl, hd3, hx3⟩ := out_cell hr3 2 4 rfl (by decide); (have y1 : w3.cell? ad1 = some (.int .i64 9) := by have := ((bstep e12 e23).cell (p := ad1) hd1).trans (by simpa [Addr.add] using hx1); exact this); (have y2 : w3.cell? ⟨ad2.block, ad2.off + 4, none⟩ = some (.int .i64 9) := by have := (e23.cell (p := ad2.add 4) (by rw [block_of_add]; exact hd2)).trans hx2; simpa [Addr.add] using this); (have y3 : w3.cell? ⟨ad3.block, ad3.off + 2, none⟩ = some (.int .i64 4) := by simpa [Addr.add] using hx3); clear ho3 hq3 hr1 hr2 hr3 hx1 hx2 hx3)
    | (go_at_call 13; (with_reducible refine (C4.out _ b3).mono ?_); rintro e w4 ⟨A4, c4, rfl, hc4, ho4, hr4, hq4⟩; (have b4 : Below w.heap.size w w4 := (NB.out _ b3 _).trans (hq4.mono (NB.out _ b3 _).size)); clear ho4 hq4 hr4)
    | (go_at_call 11; (with_reducible refine (C5.out _ b4).mono ?_); rintro e w5 ⟨A5, c5, rfl, hc5, ho5, hr5, hq5⟩; (have b5 : Below w.heap.size w w5 := (NB.out _ b4 _).trans (hq5.mono (NB.out _ b4 _).size)); clear ho5 hq5 hr5)
    | (go_at_call 17; (with_reducible refine (C6.out _ b5).mono ?_); rintro e w6 ⟨A6, c6, rfl, hc6, ho6, hr6, hq6⟩; (have b6 : Below w.heap.size w w6 := (NB.out _ b5 _).trans (hq6.mono (NB.out _ b5 _).size)); clear ho6 hq6 hr6)
    | fail)
  go_ret
  exact ⟨rfl, b6⟩
end Go.Proofs.YtobahkjlblgdjaaDoor.O
