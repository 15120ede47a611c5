/- Layer 5: awake. -/
import Derived.Test.YtihgbadglaogdaaDoorBInv
namespace Go.Proofs.YtihgbadglaogdaaDoor.Pb
set_option linter.unusedVariables false
open Go.RowKit
open Go.Proofs.YtihgbadglaogdaaDoor.W
open Go.Proofs.YtihgbadglaogdaaDoor.V
open Go.Proofs.YtihgbadglaogdaaDoor.O

def eA (t : Nat) : List Edge := stS 2 t (mkE 0 [2, 2, 2, 2, 2])
/-- The detector of awake behind t ticks. -/
def dA (t : Nat) : Dt := ⟨1, 3, [1, 2], eA t⟩
theorem subA : subL K [1, 2] 1 = [2, 2, 2, 2, 2] := by decide +kernel
theorem okNA : okN 3 [1, 2] 1 = true := by decide
theorem newA : Dt.new 3 [1, 2] 1 = dA 0 := by
  unfold Dt.new dA eA newE
  rw [okNA, subA, st_zero]; rfl
theorem errA : newErr 3 [1, 2] 1 = 0 := by unfold newErr; rw [okNA]; rfl
theorem stepA (t : Nat) (h : t < 10) : tick (eA t) = eA (t + 1) := (by decide : ∀ t : Fin 10, tick (eA t.val) = eA (t.val + 1)) ⟨t, h⟩
theorem fitA (t : Nat) (h : t < 11) : fitE (mkE 0 [2, 2, 2, 2, 2]) (eA t) = true := (by decide : ∀ t : Fin 11, fitE (mkE 0 [2, 2, 2, 2, 2]) (eA t.val) = true) ⟨t, h⟩
theorem okA (t : Nat) (h : t < 11) : (dA t).ok = true := by
  unfold Dt.ok okD dA newE
  rw [okNA, subA, fitA t h]; rfl
theorem tickA (t : Nat) (h : t < 10) : (dA t).tick = dA (t + 1) := by
  unfold Dt.tick
  rw [okA t (by omega)]
  show (⟨1, 3, [1, 2], tick (eA t)⟩ : Dt) = _
  rw [stepA t h]; rfl
theorem alrLA (t : Nat) (h : t < 10) : (alertsOf 3 1 (eA t)).length = if t = 9 then 5 else 0 := (by decide : ∀ t : Fin 10, (alertsOf 3 1 (eA t.val)).length = if t.val = 9 then 5 else 0) ⟨t, h⟩
theorem alrA (t : Nat) (h : t < 10) : (dA t).alr.length = if t = 9 then 5 else 0 := by
  unfold Dt.alr
  rw [okA t (by omega)]
  exact alrLA t h
theorem repA : (eA 10)[0]? = some ⟨0, 2, false, true, (runW (List.replicate 10 false)).1, (runW (List.replicate 10 false)).2⟩ := by decide
theorem lenA (t : Nat) : (eA t).length = 5 := by unfold eA stS; simp [mkE]
theorem blk4 {W : World} {g : Nat} {t : TypeId} {a b c d : Value} (h : Blk W g t #[a, b, c, d]) : W.cell? ⟨g, 0, none⟩ = some a ∧ W.cell? ⟨g, 1, none⟩ = some b ∧ W.cell? ⟨g, 2, none⟩ = some c ∧ W.cell? ⟨g, 3, none⟩ = some d ∧ W.frozen? ⟨g, 0, none⟩ = false ∧ W.frozen? ⟨g, 1, none⟩ = false ∧ W.frozen? ⟨g, 2, none⟩ = false ∧ W.frozen? ⟨g, 3, none⟩ = false :=
  ⟨h.cell 0, h.cell 1, h.cell 2, h.cell 3, h.frozen 0, h.frozen 1, h.frozen 2, h.frozen 3⟩
def OutA (w : World) (t n : Nat) (e : Ending) (w' : World) : Prop := ∃ A c E cE X cX, e = .returned (.tuple #[.agg #[.int .i64 1, .int .i64 3, .slice A 2 c, .slice E 5 cE], .slice X n cX]) ∧ DD w' (dA t) A c E cE ∧ Fresh A w.heap.size ∧ Fresh E w.heap.size ∧ Below w.heap.size w w'
def OutB (w : World) (e : Ending) (w' : World) : Prop := ∃ A c E cE, e = .returned (.tuple #[.agg #[.int .i64 1, .int .i64 3, .slice A 2 c, .slice E 5 cE], .int .i64 0]) ∧ DD w' (dA 0) A c E cE ∧ Old A w'.heap.size ∧ Fresh E w.heap.size ∧ Old E w'.heap.size ∧ Below w.heap.size w w'
theorem tkA {W : World} {A E : Option Addr} {c cE t : Nat} (hd : DD W (dA t) A c E cE) (ht : H.Tab W) (h : t < 10) : Calls Tryd.prog 19 #[.agg #[.int .i64 1, .int .i64 3, .slice A 2 c, .slice E 5 cE]] W (OutA W (t + 1) (if t = 9 then 5 else 0)) := by
  have := pTick hd ht
  rw [tickA t h] at this
  have e1 : (dA t).l.length = 2 := rfl
  have e2 : (dA t).es.length = 5 := lenA t
  rw [e1, e2] at this
  refine this.mono ?_
  rintro e w' ⟨A', c', E', cE', X, cX, rfl, hdd, hk, hf, _, _, _, hb⟩
  refine ⟨A', c', E', cE', X, cX, ?_, hdd, hk, hf, hb⟩
  rw [alrA t h, show (dA (t + 1)).l.length = 2 from rfl, show (dA (t + 1)).es.length = 5 from lenA _]
  rfl
set_option maxRecDepth 1000000 in
set_option maxHeartbeats 4000000 in
theorem awake_any (w : World) (ht : H.Tab w) : Calls Tryd.prog 9 #[] w (PB w true) := by
  have HT := Lib.hid (fun W (hW : Below w.heap.size w W) => ht.on hW)
  have b0 := (Below.refl w.heap.size w).alloc (Nat.le_refl _) (.cells #[.int .i64 1, .int .i64 2] 3)
  have hL : LS (w.alloc (.cells #[.int .i64 1, .int .i64 2] 3)) _ [1, 2] (some ⟨w.heap.size, 0, none⟩) 2 := ls_lit w #[.int .i64 1, .int .i64 2] [1, 2] 2 rfl rfl (by decide) (in_lit (by decide))
  have C0 := Lib.hid (show Calls Tryd.prog 17 #[.agg #[.int .i64 3, .slice (some ⟨w.heap.size, 0, none⟩) 2 2], .int .i64 1] (w.alloc (.cells #[.int .i64 1, .int .i64 2] 3)) (OutB (w.alloc (.cells #[.int .i64 1, .int .i64 2] 3))) from by
    have := pNew (W := w.alloc (.cells #[.int .i64 1, .int .i64 2] 3)) (A := some ⟨w.heap.size, 0, none⟩) (c := 2) 3 1 [1, 2] ⟨⟨by decide, by decide⟩, hL.rd, hL.l40, hL.el, hL.cap⟩ (Nat.le_refl _) ⟨by decide, by decide⟩ (ht.on b0)
    rw [newA, errA] at this
    refine this.mono ?_
    rintro e w' ⟨A', c', E', cE', rfl, hdd, hk, hf, ho, hb⟩
    refine ⟨A', c', E', cE', ?_, hdd, hk, hf, ho, hb⟩
    rw [show (dA 0).l.length = 2 from rfl, show (dA 0).es.length = 5 from lenA _]
    rfl)
  have B0 := Lib.hid b0
  have KF := Lib.hid (fun b W (hb : b < 4294967296) => probeFailing_any b 10 W hb ⟨by decide, by decide⟩)
  clear hL ht b0
  go_enter Tryd.func9, Tryd.ntmps9
  go_upto_region 2 with (go_at_call 17; (with_reducible refine C0.out.mono ?_); rintro e w1 ⟨A1, c1, E1, cE1, rfl, hd1, hk1, hf1, ho1, hb1⟩)
  have b1 : Below w.heap.size w w1 := B0.out.trans (hb1.mono B0.out.size)
  have hN := Blk.new w1 34 #[.int .i64 1, .int .i64 3, .slice A1 2 c1, .slice E1 5 cE1]
  have bN : Below w.heap.size w (w1.alloc (.cells #[.int .i64 1, .int .i64 3, .slice A1 2 c1, .slice E1 5 cE1] 34)) := b1.alloc b1.size _
  have dN := Lib.hid (hd1.on ((Below.refl _ _).alloc (Nat.le_refl _) (.cells #[.int .i64 1, .int .i64 3, .slice A1 2 c1, .slice E1 5 cE1] 34)))
  have HN := Lib.hid hN
  have oA1 : Off A1 w1.heap.size := hk1.off (Nat.le_refl _)
  have oE1 : Off E1 w1.heap.size := ho1.off (Nat.le_refl _)
  have BN := Lib.hid bN
  have hG2 : w.heap.size ≤ w1.heap.size := b1.size
  have hq := blk4 hN
  clear hd1 hb1 hN bN b1 hk1 hf1 ho1
  generalize hw2 : w1.alloc (.cells #[.int .i64 1, .int .i64 3, .slice A1 2 c1, .slice E1 5 cE1] 34) = w2 at *
  clear hw2
  generalize hg : w1.heap.size = G at *
  clear hg
  go_wp2_with fail
  clear hq
  go_loopg [3, 4] 10 (fun gk s3 s4 wr => ∃ (t : Nat) (A : Option Addr) (c : Nat) (E : Option Addr) (cE : Nat), t + gk = 10 ∧ s4 = .int .i64 t ∧ s3 = .int .i64 ((if t = 10 then 5 else 0 : Nat) : Int) ∧ Hid (Blk wr G 34 #[.int .i64 1, .int .i64 3, .slice A 2 c, .slice E 5 cE]) ∧ Hid (DD wr (dA t) A c E cE) ∧ Hid (Below w.heap.size w wr) ∧ Hid (Off A G))
  case atStart => exact ⟨0, A1, c1, E1, cE1, by omega, rfl, rfl, HN.out, dN.out, BN.out, oA1⟩
  case round =>
    obtain ⟨t, A, c, E, cE, htg, rfl, rfl, HB, HD, HBW, HOA⟩ := hrel
    cases gk with
    | zero =>
      have htz : ¬ ((t : Int) < 10) := by omega
      obtain rfl : t = 10 := by omega
      have hq := blk4 HB.out
      obtain ⟨ad, rfl, hadb, _, _, _, _, hrep, _, _⟩ := edge_at HD.out.rd repA
      have hrep' : wr.cell? ⟨ad.block, ad.off + 3, none⟩ = some (.bool true) := by simpa [Addr.add] using hrep
      have HX := Lib.hid hadb
      clear hrep
      have h5 : (if (10 : Nat) = 10 then 5 else 0 : Nat) = 5 := rfl
      rw [h5]
      clear h5
      have K15 := Lib.hid (show ∀ W, Calls Tryd.prog 14 #[.agg #[.int .u32 15, .int .i64 10]] W (PB W true) from fun W => by
        have := KF.out 15 W (by decide)
        rw [show failW 15 10 = true by decide] at this
        exact this)
      have K7 := Lib.hid (show ∀ W, Calls Tryd.prog 14 #[.agg #[.int .u32 7, .int .i64 10]] W (PB W false) from fun W => by
        have := KF.out 7 W (by decide)
        rw [show failW 7 10 = false by decide] at this
        exact this)
      go_wp2_with (first
        | (go_at_call 14; (with_reducible refine (K15.out _).mono ?_); rintro e w4 ⟨rfl, q4⟩)
        | (go_at_call 14; (with_reducible refine (K7.out _).mono ?_); rintro e w5 ⟨rfl, q5⟩)
        | fail)
      go_ret
      exact ⟨rfl, HBW.out.trans ((q4.trans (q5.mono q4.size)).mono HBW.out.size)⟩
    | succ gk =>
      have htz : (t : Int) < 10 := by omega
      have ht10 : t < 10 := by omega
      have hq := blk4 HB.out
      have CT := Lib.hid (tkA HD.out (HT.out _ HBW.out) ht10)
      have h0 : (if t = 10 then 5 else 0 : Nat) = 0 := if_neg (by omega)
      rw [h0]
      clear h0
      by_cases h9 : t < 9
      · have h9i : (t : Int) < 9 := by omega
        have e0 : (if t = 9 then 5 else 0 : Nat) = 0 := if_neg (by omega)
        have H10 := Lib.hid (show (if t + 1 = 10 then 5 else 0 : Nat) = 0 from if_neg (by omega))
        rw [e0] at CT
        clear e0
        go_wp2_with (go_at_call 19; (with_reducible refine CT.out.mono ?_); rintro e w3 ⟨A3, c3, E3, cE3, X, cX, rfl, hd3, hk3, hf3', hb3⟩; (have hB3 := HB.out.below hb3 HB.out.lt); (have hf3 := blk4 hB3))
        go_roundg gk
        case measure => omega
        case rel =>
          refine ⟨t + 1, A3, c3, E3, cE3, by omega, by go_num, ?_, ?_, ?_, ?_, ?_⟩
          · rw [H10.out]; rfl
          · show Blk _ _ _ _
            have := (((hB3.set_ 0 (.int .i64 1)).set_ 1 (.int .i64 3)).set_ 2 (.slice A3 2 c3)).set_ 3 (.slice E3 5 cE3)
            exact this
          · have o1 := hk3.off (g := G) HB.out.lt
            have o2 := hf3'.off (g := G) HB.out.lt
            exact (((hd3.set (p := ⟨G, 0, none⟩) o1 o2 _).set (p := ⟨G, 1, none⟩) o1 o2 _).set (p := ⟨G, 2, none⟩) o1 o2 _).set (p := ⟨G, 3, none⟩) o1 o2 _
          · show Below _ _ _
            repeat (with_reducible refine below_setV ?_ (by first | exact hG2 | omega) _)
            exact HBW.out.trans (hb3.mono HBW.out.size)
          · exact hk3.off (g := G) HB.out.lt
      · have h9i : ¬ (t : Int) < 9 := by omega
        have e0 : (if t = 9 then 5 else 0 : Nat) = 5 := if_pos (by omega)
        have H10 := Lib.hid (show (if t + 1 = 10 then 5 else 0 : Nat) = 5 from if_pos (by omega))
        rw [e0] at CT
        clear e0
        go_wp2_with (go_at_call 19; (with_reducible refine CT.out.mono ?_); rintro e w3 ⟨A3, c3, E3, cE3, X, cX, rfl, hd3, hk3, hf3', hb3⟩; (have hB3 := HB.out.below hb3 HB.out.lt); (have hf3 := blk4 hB3))
        go_roundg gk
        case measure => omega
        case rel =>
          refine ⟨t + 1, A3, c3, E3, cE3, by omega, by go_num, ?_, ?_, ?_, ?_, ?_⟩
          · rw [H10.out]; rfl
          · show Blk _ _ _ _
            have := (((hB3.set_ 0 (.int .i64 1)).set_ 1 (.int .i64 3)).set_ 2 (.slice A3 2 c3)).set_ 3 (.slice E3 5 cE3)
            exact this
          · have o1 := hk3.off (g := G) HB.out.lt
            have o2 := hf3'.off (g := G) HB.out.lt
            exact (((hd3.set (p := ⟨G, 0, none⟩) o1 o2 _).set (p := ⟨G, 1, none⟩) o1 o2 _).set (p := ⟨G, 2, none⟩) o1 o2 _).set (p := ⟨G, 3, none⟩) o1 o2 _
          · show Below _ _ _
            repeat (with_reducible refine below_setV ?_ (by first | exact hG2 | omega) _)
            exact HBW.out.trans (hb3.mono HBW.out.size)
          · exact hk3.off (g := G) HB.out.lt
end Go.Proofs.YtihgbadglaogdaaDoor.Pb
