/- Layer 3: ViewLists' walk. -/
import Derived.Test.YteiolhbjgfkdeaaVLaw0
namespace Go.Proofs.Yteiolhbjgfkdeaa.V
set_option linter.unusedVariables false
open Go.RowKit
open Go.Proofs.Yteiolhbjgfkdeaa.W

theorem bstep {w a b : World} (h : Below w.heap.size w a) (h1 : Below a.heap.size a b) : Below w.heap.size w b := h.trans (h1.mono h.size)
theorem pb_of {w : World} {b : Bool} {e : Ending} {w' : World} (h : e = .returned (.bool b) ∧ w = w') : PB w b e w' := by
  obtain ⟨h1, rfl⟩ := h
  exact ⟨h1, Below.refl _ _⟩
theorem pi_of {w : World} {b : Int} {e : Ending} {w' : World} (h : e = .returned (.int .i64 b) ∧ w = w') : PI w b e w' := by
  obtain ⟨h1, rfl⟩ := h
  exact ⟨h1, Below.refl _ _⟩
set_option maxRecDepth 100000 in
set_option maxHeartbeats 2000000 in
theorem lists_any (l : List Int) (id n : Int) (A : Option Addr) (c : Nat) (w : World) (hn : In64 n) (h : LR w w.heap.size l A c) :
    Calls Try.prog 3 #[.slice A l.length c, .int .i64 id, .int .i64 n] w (PB w true) := by
  have hl := h.l63
  have AW := Lib.hid (fun W => awake_any W)
  have LH := Lib.hid h
  clear h
  go_enter Try.func3, Try.ntmps3
  go_upto_region 3 with (go_at_call 10; refine (AW.out _).mono ?_; rintro e wa ⟨rfl, hqa⟩)
  have l1 := LH.out.up hqa
  have b2 := Lib.hid (hqa.alloc hqa.size (.cells #[.slice A l.length c] 22))
  clear AW LH hqa
  by_cases s1 : l.length ≤ 100
  · have SM := Lib.hid (small1_at wa A l.length c hl true (by simp [s1]))
    have h := (l1.new (.cells #[.slice A l.length c] 22)).ls s1
    clear l1
    go_upto_region 5 with (go_at_call 11; refine SM.out.mono ?_; rintro e ws ⟨rfl, rfl⟩)
    clear SM
    generalize (wa.alloc (.cells #[.slice A l.length c] 22)) = w5 at h b2 ⊢
    have VM := Lib.hid (fun (W : World) (hW : Below w5.heap.size w5 W) => show Calls Try.prog 12 #[.slice A l.length c] W (PB W (validM l)) from viewValidM_any A c _ l W (h.below hW) (hW.size))
    have RM := Lib.hid (fun (W : World) (hW : Below w5.heap.size w5 W) => show Calls Try.prog 13 #[.slice A l.length c] W (PB W (validM l)) from (refValidM_any A c _ l W (h.below hW).rd h.l40 h.el).mono fun _ _ h => h.pb)
    have VC := Lib.hid (fun (W : World) (hW : Below w5.heap.size w5 W) => show Calls Try.prog 14 #[.slice A l.length c] W (PB W (validC l)) from viewValidC_any A c _ l W (h.below hW) (hW.size))
    have RC := Lib.hid (fun (W : World) (hW : Below w5.heap.size w5 W) => show Calls Try.prog 15 #[.slice A l.length c] W (PB W (validC l)) from (refValidC_any A c _ l W (h.below hW).rd h.l40 h.el).mono fun _ _ h => h.pb)
    have VH := Lib.hid (fun (W : World) (hW : Below w5.heap.size w5 W) => show Calls Try.prog 16 #[.slice A l.length c, .int .i64 id] W (PB W (hasB l id)) from viewContains_any A c _ l id W (h.below hW) (hW.size))
    have RH := Lib.hid (fun (W : World) (hW : Below w5.heap.size w5 W) => show Calls Try.prog 17 #[.slice A l.length c, .int .i64 id] W (PB W (hasB l id)) from (refContains_any A c _ l id W (h.below hW).rd h.l40).mono fun _ _ h => pb_of h)
    have VP := Lib.hid (fun (W : World) (hW : Below w5.heap.size w5 W) => show Calls Try.prog 18 #[.slice A l.length c, .int .i64 id] W (PI W (place l id)) from viewPlace_any A c _ l id W (h.below hW) (hW.size))
    have RP := Lib.hid (fun (W : World) (hW : Below w5.heap.size w5 W) => show Calls Try.prog 19 #[.slice A l.length c, .int .i64 id] W (PI W (place l id)) from (refPlace_any A c _ l id W (h.below hW).rd h.l40).mono fun _ _ h => pi_of h)
    have VJ := Lib.hid (fun (W : World) (hW : Below w5.heap.size w5 W) => show Calls Try.prog 20 #[.int .i64 n] W (PI W (maj n)) from viewMaj_any n W hn)
    have RJ := Lib.hid (fun (W : World) (hW : Below w5.heap.size w5 W) => show Calls Try.prog 21 #[.int .i64 n] W (PI W (maj n)) from (refMaj_any n W hn).mono fun _ _ h => pi_of h)
    have VF := Lib.hid (fun (W : World) (hW : Below w5.heap.size w5 W) => show Calls Try.prog 22 #[.int .i64 n] W (PI W (fastQ n)) from viewFast_any n W hn)
    have RF := Lib.hid (fun (W : World) (hW : Below w5.heap.size w5 W) => show Calls Try.prog 23 #[.int .i64 n] W (PI W (fastQ n)) from (refFast_any n W hn).mono fun _ _ h => pi_of h)
    have x0 := Below.refl w5.heap.size w5
    clear h
    generalize validM l = m1 at *
    generalize validC l = m2 at *
    generalize hasB l id = m3 at *
    generalize place l id = m4 at *
    generalize maj n = m5 at *
    generalize fastQ n = m6 at *
    go_wp2_with (first
      | (go_at_call 12; (with_reducible refine (VM.out _ x0).mono ?_); rintro e y1 ⟨rfl, hq1⟩; (have x1 := bstep x0 hq1))
      | (go_at_call 13; (with_reducible refine (RM.out _ x1).mono ?_); rintro e y2 ⟨rfl, hq2⟩; (have x2 := bstep x1 hq2))
      | (go_at_call 14; (with_reducible refine (VC.out _ x2).mono ?_); rintro e y3 ⟨rfl, hq3⟩; (have x3 := bstep x2 hq3))
      | (go_at_call 15; (with_reducible refine (RC.out _ x3).mono ?_); rintro e y4 ⟨rfl, hq4⟩; (have x4 := bstep x3 hq4))
      | (go_at_call 16; (with_reducible refine (VH.out _ x4).mono ?_); rintro e y5 ⟨rfl, hq5⟩; (have x5 := bstep x4 hq5))
      | (go_at_call 17; (with_reducible refine (RH.out _ x5).mono ?_); rintro e y6 ⟨rfl, hq6⟩; (have x6 := bstep x5 hq6))
      | (go_at_call 18; (with_reducible refine (VP.out _ x6).mono ?_); rintro e y7 ⟨rfl, hq7⟩; (have x7 := bstep x6 hq7))
      | (go_at_call 19; (with_reducible refine (RP.out _ x7).mono ?_); rintro e y8 ⟨rfl, hq8⟩; (have x8 := bstep x7 hq8))
      | (go_at_call 20; (with_reducible refine (VJ.out _ x8).mono ?_); rintro e y9 ⟨rfl, hq9⟩; (have x9 := bstep x8 hq9))
      | (go_at_call 21; (with_reducible refine (RJ.out _ x9).mono ?_); rintro e y10 ⟨rfl, hq10⟩; (have x10 := bstep x9 hq10))
      | (go_at_call 22; (with_reducible refine (VF.out _ x10).mono ?_); rintro e y11 ⟨rfl, hq11⟩; (have x11 := bstep x10 hq11))
      | (go_at_call 23; (with_reducible refine (RF.out _ x11).mono ?_); rintro e y12 ⟨rfl, hq12⟩; (have x12 := bstep x11 hq12))
      | fail)
    go_ret
    refine ⟨?_, b2.out.trans (x12.mono b2.out.size)⟩
    simp
  · have SM := Lib.hid (small1_at wa A l.length c hl false (by simp; omega))
    go_wp2_with (go_at_call 11; refine SM.out.mono ?_; rintro e ws ⟨rfl, rfl⟩)
    go_ret
    exact ⟨rfl, b2.out⟩
end Go.Proofs.Yteiolhbjgfkdeaa.V
