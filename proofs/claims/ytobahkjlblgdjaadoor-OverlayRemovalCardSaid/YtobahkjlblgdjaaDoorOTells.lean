/- Layer 4: the walks of OverlayTells, OverlayJoin, OverlayNeighbours. -/
import Derived.Test.YtobahkjlblgdjaaDoorOAwake
namespace Go.Proofs.YtobahkjlblgdjaaDoor.O
set_option linter.unusedVariables false
open Go.RowKit
open Go.Proofs.YtobahkjlblgdjaaDoor.W
open Go.Proofs.YtobahkjlblgdjaaDoor.V

theorem order_len {l : List Int} {r : Int} : (orderL l r).length ≤ l.length := by unfold orderL; split; · rw [len_ordK]; omega
                                                                                  · simp
theorem shL_len {l : List Int} {a b : Int} : (shL K l a b).length ≤ 5 := by unfold shL; exact Nat.le_trans idxF_le obsL_len
theorem nbF_le {id : Int} : ∀ {m out : List Int}, (nbF id out m).length ≤ out.length + m.length
  | [], out => by simp [nbF]
  | y :: t, out => by
    have := nbF_le (id := id) (m := t) (out := nbStep id out y)
    have h2 := nbStep_len (id := id) (x := y) (out := out)
    show (nbF id (nbStep id out y) t).length ≤ _
    simp
    omega
theorem nbL_le {l : List Int} {id : Int} : (nbL K l id).length ≤ 10 := by
  have h1 := obsL_len (K := K) (l := l) (x := id)
  have h2 := subL_len (K := K) (l := l) (x := id)
  have h3 := nbF_le (id := id) (m := obsL K l id ++ subL K l id) (out := [])
  rw [List.length_append] at h3
  unfold nbL
  simp at h3
  omega
set_option maxRecDepth 100000 in
set_option maxHeartbeats 4000000 in
theorem tells_walk (l : List Int) (ring a b : Int) (A : Option Addr) (c : Nat) (w : World) (h : LR w w.heap.size l A c) (hr : In64 ring) (ha : In64 a) (hb : In64 b) (ht : H.Tab w) :
    Calls Tryd.prog 3 #[.slice A l.length c, .int .i64 ring, .int .i64 a, .int .i64 b] w (PB w true) := by
  have HT := Lib.hid (fun W (hW : Below w.heap.size w W) => ht.on hW)
  have AW := Lib.hid (awake_any w ht)
  have hl := h.l63
  by_cases hs : l.length ≤ 60
  · have fs : ¬ (60 : Int) < (l.length : Int) := by omega
    have P1 := Lib.hid (fun (W : World) (hW : Below w.heap.size w W) => show Calls Tryd.prog 11 #[.slice A l.length c, .int .i64 ring] W (OutI W (orderL l ring) (orderL l ring).length) from (overOrder_any ring A c w.heap.size l W ((h.ls (by omega)).below hW) hW.size hr (HT.out W hW)).mono fun _ _ h => h.to _ _ rfl rfl)
    have R1 := Lib.hid (fun (W : World) (hW : Below w.heap.size w W) => show Calls Tryd.prog 12 #[.slice A l.length c, .int .i64 ring] W (OutI W (orderL l ring) (orderL l ring).length) from (refOrder_any ring A c w.heap.size l W ((h.ls (by omega)).below hW) hW.size hr).mono fun _ _ h => h.to _ _ rfl rfl)
    have N1 := Lib.hid (show (orderL l ring).length ≤ 1000 from by have := order_len (l := l) (r := ring); omega)
    generalize orderL l ring = x1 at *
    have P2 := Lib.hid (fun (W : World) (hW : Below w.heap.size w W) => show Calls Tryd.prog 13 #[.slice A l.length c, .int .i64 a] W (OutI W (obsL K l a) (obsL K l a).length) from (overObservers_any a A c w.heap.size l W ((h.ls (by omega)).below hW) hW.size ha (HT.out W hW)).mono fun _ _ h => h.to _ _ rfl rfl)
    have R2 := Lib.hid (fun (W : World) (hW : Below w.heap.size w W) => show Calls Tryd.prog 14 #[.slice A l.length c, .int .i64 a] W (OutI W (obsL K l a) (obsL K l a).length) from (refObservers_any a A c w.heap.size l W ((h.ls (by omega)).below hW) hW.size ha).mono fun _ _ h => h.to _ _ rfl rfl)
    have N2 := Lib.hid (show (obsL K l a).length ≤ 1000 from by have := obsL_len (K := K) (l := l) (x := a); omega)
    generalize obsL K l a = x2 at *
    have P3 := Lib.hid (fun (W : World) (hW : Below w.heap.size w W) => show Calls Tryd.prog 15 #[.slice A l.length c, .int .i64 a] W (OutI W (subL K l a) (subL K l a).length) from (overSubjects_any a A c w.heap.size l W ((h.ls (by omega)).below hW) hW.size ha (HT.out W hW)).mono fun _ _ h => h.to _ _ rfl rfl)
    have R3 := Lib.hid (fun (W : World) (hW : Below w.heap.size w W) => show Calls Tryd.prog 16 #[.slice A l.length c, .int .i64 a] W (OutI W (subL K l a) (subL K l a).length) from (refSubjects_any a A c w.heap.size l W ((h.ls (by omega)).below hW) hW.size ).mono fun _ _ h => h.to _ _ rfl rfl)
    have N3 := Lib.hid (show (subL K l a).length ≤ 1000 from by have := subL_len (K := K) (l := l) (x := a); omega)
    generalize subL K l a = x3 at *
    have P4 := Lib.hid (fun (W : World) (hW : Below w.heap.size w W) => show Calls Tryd.prog 17 #[.slice A l.length c, .int .i64 a, .int .i64 b] W (OutI W (shL K l a b) (shL K l a b).length) from (overShared_any a b A c w.heap.size l W ((h.ls (by omega)).below hW) hW.size ha hb (HT.out W hW)).mono fun _ _ h => h.to _ _ rfl rfl)
    have R4 := Lib.hid (fun (W : World) (hW : Below w.heap.size w W) => show Calls Tryd.prog 18 #[.slice A l.length c, .int .i64 a, .int .i64 b] W (OutI W (shL K l a b) (shL K l a b).length) from (refShared_any a b A c w.heap.size l W ((h.ls (by omega)).below hW) hW.size hb).mono fun _ _ h => h.to _ _ rfl rfl)
    have N4 := Lib.hid (show (shL K l a b).length ≤ 1000 from by have := shL_len (l := l) (a := a) (b := b); omega)
    generalize shL K l a b = x4 at *
    have P5 := Lib.hid (fun (W : World) (hW : Below w.heap.size w W) => show Calls Tryd.prog 19 #[.slice A l.length c, .int .i64 a] W (OutI W (nbL K l a) (nbL K l a).length) from (overNeighbours_any a A c w.heap.size l W ((h.ls (by omega)).below hW) hW.size ha (HT.out W hW)).mono fun _ _ h => h.to _ _ rfl rfl)
    have R5 := Lib.hid (fun (W : World) (hW : Below w.heap.size w W) => show Calls Tryd.prog 20 #[.slice A l.length c, .int .i64 a] W (OutI W (nbL K l a) (nbL K l a).length) from (refNeighbours_any a A c w.heap.size l W ((h.ls (by omega)).below hW) hW.size ha).mono fun _ _ h => h.to _ _ rfl rfl)
    have N5 := Lib.hid (show (nbL K l a).length ≤ 1000 from by have := nbL_le (l := l) (id := a); omega)
    generalize nbL K l a = x5 at *
    have SA := Lib.hid law4same_at
    clear h HT ht hr ha hb hs
    go_enter Tryd.func3, Tryd.ntmps3
    go_wp2_with (first
      | (go_at_call 9; (with_reducible refine AW.out.mono ?_); rintro e w1 ⟨rfl, b1⟩)
      | (go_at_call 11; (with_reducible refine (P1.out _ b1).mono ?_); rintro e u1 ⟨X1, z1, rfl, k1, o1, r1, q1⟩; (have d1 : Below w.heap.size w u1 := bstep b1 q1))
      | (go_at_call 12; (with_reducible refine (R1.out _ d1).mono ?_); rintro e v1 ⟨Y1, t1, rfl, l1, m1, s1, p1⟩; (have f1 : Below w.heap.size w v1 := bstep d1 p1))
      | (go_at_call 10; (with_reducible refine (SA.out _ x1 X1 Y1 x1.length z1 t1 rfl N1.out ((r1.below p1).more p1.size) s1).mono ?_); rintro e y1 ⟨rfl, g1⟩; (have h1 : Below w.heap.size w y1 := bstep f1 g1); clear r1 s1 o1 m1 q1 p1 g1)
      | (go_at_call 13; (with_reducible refine (P2.out _ h1).mono ?_); rintro e u2 ⟨X2, z2, rfl, k2, o2, r2, q2⟩; (have d2 : Below w.heap.size w u2 := bstep h1 q2))
      | (go_at_call 14; (with_reducible refine (R2.out _ d2).mono ?_); rintro e v2 ⟨Y2, t2, rfl, l2, m2, s2, p2⟩; (have f2 : Below w.heap.size w v2 := bstep d2 p2))
      | (go_at_call 10; (with_reducible refine (SA.out _ x2 X2 Y2 x2.length z2 t2 rfl N2.out ((r2.below p2).more p2.size) s2).mono ?_); rintro e y2 ⟨rfl, g2⟩; (have h2 : Below w.heap.size w y2 := bstep f2 g2); clear r2 s2 o2 m2 q2 p2 g2)
      | (go_at_call 15; (with_reducible refine (P3.out _ h2).mono ?_); rintro e u3 ⟨X3, z3, rfl, k3, o3, r3, q3⟩; (have d3 : Below w.heap.size w u3 := bstep h2 q3))
      | (go_at_call 16; (with_reducible refine (R3.out _ d3).mono ?_); rintro e v3 ⟨Y3, t3, rfl, l3, m3, s3, p3⟩; (have f3 : Below w.heap.size w v3 := bstep d3 p3))
      | (go_at_call 10; (with_reducible refine (SA.out _ x3 X3 Y3 x3.length z3 t3 rfl N3.out ((r3.below p3).more p3.size) s3).mono ?_); rintro e y3 ⟨rfl, g3⟩; (have h3 : Below w.heap.size w y3 := bstep f3 g3); clear r3 s3 o3 m3 q3 p3 g3)
      | (go_at_call 17; (with_reducible refine (P4.out _ h3).mono ?_); rintro e u4 ⟨X4, z4, rfl, k4, o4, r4, q4⟩; (have d4 : Below w.heap.size w u4 := bstep h3 q4))
      | (go_at_call 18; (with_reducible refine (R4.out _ d4).mono ?_); rintro e v4 ⟨Y4, t4, rfl, l4, m4, s4, p4⟩; (have f4 : Below w.heap.size w v4 := bstep d4 p4))
      | (go_at_call 10; (with_reducible refine (SA.out _ x4 X4 Y4 x4.length z4 t4 rfl N4.out ((r4.below p4).more p4.size) s4).mono ?_); rintro e y4 ⟨rfl, g4⟩; (have h4 : Below w.heap.size w y4 := bstep f4 g4); clear r4 s4 o4 m4 q4 p4 g4)
      | (go_at_call 19; (with_reducible refine (P5.out _ h4).mono ?_); rintro e u5 ⟨X5, z5, rfl, k5, o5, r5, q5⟩; (have d5 : Below w.heap.size w u5 := bstep h4 q5))
      | (go_at_call 20; (with_reducible refine (R5.out _ d5).mono ?_); rintro e v5 ⟨Y5, t5, rfl, l5, m5, s5, p5⟩; (have f5 : Below w.heap.size w v5 := bstep d5 p5))
      | (go_at_call 10; (with_reducible refine (SA.out _ x5 X5 Y5 x5.length z5 t5 rfl N5.out ((r5.below p5).more p5.size) s5).mono ?_); rintro e y5 ⟨rfl, g5⟩; (have h5 : Below w.heap.size w y5 := bstep f5 g5); clear r5 s5 o5 m5 q5 p5 g5)
      | fail)
    go_ret
    exact ⟨rfl, h5⟩
  · have fs : (60 : Int) < (l.length : Int) := by omega
    clear h HT ht
    go_enter Tryd.func3, Tryd.ntmps3
    go_wp2_with (go_at_call 9; (with_reducible refine AW.out.mono ?_); rintro e w1 ⟨rfl, b1⟩)
    go_ret
    exact ⟨rfl, b1⟩
end Go.Proofs.YtobahkjlblgdjaaDoor.O
