/- Layer 5: the walk of ProbeStates. -/
import Derived.Test.YtihgbadglaogdaaDoorBAwake
import Derived.Deep.RegionHeld3
namespace Go.Proofs.YtihgbadglaogdaaDoor.Pb
set_option linter.unusedVariables false
open Go.RowKit
open Go.Proofs.YtihgbadglaogdaaDoor.W
open Go.Proofs.YtihgbadglaogdaaDoor.V
open Go.Proofs.YtihgbadglaogdaaDoor.O

/-- A detector that came in, of whatever length. -/
structure DR (w : World) (d : Dt) (A : Option Addr) (c : Nat) (E : Option Addr) (cE : Nat) : Prop where
  me64 : In64 d.me
  num64 : In64 d.num
  rd : Reads w w.heap.size 1 A d.l.length (d.l.map intV)
  el : ∀ x ∈ d.l, In64 x
  cap : d.l.length ≤ c
  rdE : Reads w w.heap.size 6 E d.es.length (edgesC d.es)
  elE : ∀ e ∈ d.es, ElE e
  capE : d.es.length ≤ cE
theorem DR.dd {w : World} {d : Dt} {A E : Option Addr} {c cE : Nat} (h : DR w d A c E cE) (h1 : d.l.length ≤ 1000) (h2 : d.es.length ≤ 1000) : DD w d A c E cE :=
  ⟨h.me64, ⟨h.num64, h.rd, by omega, h.el, h.cap⟩, h.rdE, by omega, h.elE, h.capE⟩
theorem eql_errno (n : Int) (W : World) : (binOp .eql 36 (.int .i64 n) (.int .i64 n)).run Tryd.prog W = .ok (.bool true) W := by simp [go_sem]
/-- A detector that came back, laid into a box. -/
theorem boxed {w0 w1 w2 : World} {d : Dt} {A E : Option Addr} {c cE : Nat} (b1 : Below w0.heap.size w0 w1) (q : Below w1.heap.size w1 w2) (hd : DD w2 d A c E cE) (cs : Array Value) :
    Below w0.heap.size w0 (w2.alloc (.cells cs 34)) ∧ Below w1.heap.size w1 (w2.alloc (.cells cs 34)) ∧ Blk (w2.alloc (.cells cs 34)) w2.heap.size 34 cs ∧ DD (w2.alloc (.cells cs 34)) d A c E cE :=
  ⟨(W.bstep b1 q).alloc (W.bstep b1 q).size _, q.alloc q.size _, Blk.new _ _ _, hd.on ((Below.refl _ _).alloc (Nat.le_refl _) _)⟩

theorem alr_len (d : Dt) : d.alr.length ≤ d.es.length := by
  unfold Dt.alr
  split
  · unfold alertsOf; rw [List.length_map]; exact List.length_filter_le _ _
  · exact Nat.zero_le _
theorem alertsSame {W : World} {al : List Alr} {X Y : Option Addr} {cX cY : Nat} (hX : Reads W W.heap.size 4 X al.length (alrsC al)) (hY : Reads W W.heap.size 4 Y al.length (alrsC al)) (hl : al.length ≤ 1000) :
    Calls Tryd.prog 26 #[.slice X al.length cX, .slice Y al.length cY] W (PB W true) := by
  have := alerts_any X Y cX cY _ al al W hX hY (by omega) (by omega)
  rwa [decide_eq_true rfl] at this
set_option maxRecDepth 1000000 in
set_option maxHeartbeats 4000000 in
theorem states_walk (d : Dt) (A E A2 : Option Addr) (c cE c2 : Nat) (num self frm : Int) (l : List Int) (w : World) (hd : DR w d A c E cE)
    (hn : In64 num) (hr2 : Reads w w.heap.size 1 A2 l.length (l.map intV)) (hel2 : ∀ x ∈ l, In64 x) (hc2 : l.length ≤ c2) (hs : In64 self) (hf : In64 frm) (ht : H.Tab w) :
    Calls Tryd.prog 4 #[.agg #[.int .i64 d.me, .int .i64 d.num, .slice A d.l.length c, .slice E d.es.length cE], .agg #[.int .i64 num, .slice A2 l.length c2], .int .i64 self, .int .i64 frm] w (PB w true) := by
  have hb0 : Below w.heap.size w ((w.alloc (.cells #[.int .i64 d.me, .int .i64 d.num, .slice A d.l.length c, .slice E d.es.length cE] 34)).alloc (.cells #[.int .i64 num, .slice A2 l.length c2] 31)) := ((Below.refl w.heap.size w).alloc (Nat.le_refl _) _).alloc (by simp) _
  have hz := two_blk w 34 31 #[.int .i64 d.me, .int .i64 d.num, .slice A d.l.length c, .slice E d.es.length cE] #[.int .i64 num, .slice A2 l.length c2]
  have SM := Lib.hid (fun W => small_any (W := W) (d := d) (A := A) (E := E) (c := c) (cE := cE))
  have HD := Lib.hid hd
  have HT := Lib.hid ht
  have AW := Lib.hid (fun W => awake_any W)
  clear hd ht
  go_enter Tryd.func4, Tryd.ntmps4
  go_upto_region 1 with fail
  generalize hw0 : ((w.alloc (.cells #[.int .i64 d.me, .int .i64 d.num, .slice A d.l.length c, .slice E d.es.length cE] 34)).alloc (.cells #[.int .i64 num, .slice A2 l.length c2] 31)) = w0 at *
  clear hw0
  have B0 := Lib.hid hb0
  have Z1 := Lib.hid hz.1
  have Z2 := Lib.hid hz.2
  have AW0 := Lib.hid (AW.out w0 (HT.out.on hb0))
  clear hb0 hz
  go_upto_region 3 with (go_at_call 9; (with_reducible refine AW0.out.mono ?_); rintro e w1 ⟨rfl, b1⟩)
  have q1 := blk4 (Z1.out.below b1 Z1.out.lt)
  have p1 := blk2 (Z2.out.below b1 Z2.out.lt)
  cases hsm : (decide ((d.l.length : Int) ≤ 60) && decide ((d.es.length : Int) ≤ 60))
  · have SM0 := Lib.hid (SM.out w1)
    rw [hsm] at SM0
    go_wp2_with (go_at_call 16; (with_reducible refine SM0.out.mono ?_); rintro e w2 ⟨rfl, b2⟩)
    go_ret
    exact ⟨rfl, B0.out.trans ((W.bstep b1 b2).mono B0.out.size)⟩
  have SM0 := Lib.hid (SM.out w1)
  rw [hsm] at SM0
  simp only [Bool.and_eq_true, decide_eq_true_eq] at hsm
  have HDD := Lib.hid (HD.out.dd (by omega) (by omega))
  have HDD60 := Lib.hid (show d.es.length ≤ 60 by omega)
  clear hsm SM HD
  by_cases h60 : l.length ≤ 60
  case neg =>
    have f60 : (60 : Int) < (l.length : Int) := by omega
    go_wp2_with (go_at_call 16; (with_reducible refine SM0.out.mono ?_); rintro e w2 ⟨rfl, b2⟩; (have p2 := blk2 (Z2.out.below (W.bstep b1 b2) Z2.out.lt)))
    go_ret
    exact ⟨rfl, B0.out.trans ((W.bstep b1 b2).mono B0.out.size)⟩
  have f60 : ¬ (60 : Int) < (l.length : Int) := by omega
  have VV := Lib.hid (show VW w w.heap.size num l A2 c2 from ⟨hn, hr2, by omega, hel2, hc2⟩)
  have CN := Lib.hid (fun (W : World) (hW : Below w0.heap.size w0 W) => pNew (W := W) num self l (VV.out.below (B0.out.trans (hW.mono B0.out.size))) (B0.out.trans (hW.mono B0.out.size)).size hs (HT.out.on (B0.out.trans (hW.mono B0.out.size))))
  have CM := Lib.hid (fun (W : World) (hW : Below w0.heap.size w0 W) => rNew (W := W) num self l (VV.out.below (B0.out.trans (hW.mono B0.out.size))) (B0.out.trans (hW.mono B0.out.size)).size hs)
  have DW0 := Lib.hid (fun (W : World) (hW : Below w0.heap.size w0 W) => HDD.out.on (B0.out.trans (hW.mono B0.out.size)))
  have CT := Lib.hid (fun (W : World) (hW : Below w0.heap.size w0 W) => pTick (DW0.out W hW) (HT.out.on (B0.out.trans (hW.mono B0.out.size))))
  have CU := Lib.hid (fun (W : World) (hW : Below w0.heap.size w0 W) => rTick (DW0.out W hW))
  have CV := Lib.hid (fun (W : World) (hW : Below w0.heap.size w0 W) => pValid (DW0.out W hW) (HT.out.on (B0.out.trans (hW.mono B0.out.size))))
  have CY := Lib.hid (fun (W : World) (hW : Below w0.heap.size w0 W) => rValid (DW0.out W hW))
  have CH := Lib.hid (fun (W : World) (hW : Below w0.heap.size w0 W) => pHeard frm (DW0.out W hW) hf (HT.out.on (B0.out.trans (hW.mono B0.out.size))))
  have CI := Lib.hid (fun (W : World) (hW : Below w0.heap.size w0 W) => rHeard frm (DW0.out W hW) hf)
  clear hn hr2 hel2 hc2 h60 HDD VV hs hf
  have HAL := Lib.hid (show d.alr.length ≤ 1000 from by have := alr_len d; have := HDD60.out; omega)
  generalize Dt.new num l self = dn at *
  generalize newErr num l self = en at *
  generalize d.tick = dt at *
  generalize d.alr = al at *
  generalize d.hear frm = dh at *
  generalize d.ok = ok at *
  go_upto_region 5 with (go_at_call 16; (with_reducible refine SM0.out.mono ?_); rintro e w2 ⟨rfl, b2⟩; (have p2 := blk2 (Z2.out.below (W.bstep b1 b2) Z2.out.lt)))
  have b12 := W.bstep b1 b2
  clear q1 p1 b1 b2 SM0
  go_upto_region 6 with (go_at_call 17; (with_reducible refine (CN.out _ b12).mono ?_); rintro e w3 ⟨An, cn, En, cEn, rfl, hdn, -, -, -, b3⟩)
  obtain ⟨c3, k3, hN, ddn⟩ := boxed b12 b3 hdn #[.int .i64 dn.me, .int .i64 dn.num, .slice An dn.l.length cn, .slice En dn.es.length cEn]
  clear p2 b12 b3 hdn
  generalize hw : w3.alloc (.cells #[.int .i64 dn.me, .int .i64 dn.num, .slice An dn.l.length cn, .slice En dn.es.length cEn] 34) = w4 at *
  clear hw
  generalize w3.heap.size = gn at *
  have HN := Lib.hid hN
  have p4 := blk2 (Z2.out.below c3 Z2.out.lt)
  clear hN
  go_upto_region 7 with (go_at_call 18; (with_reducible refine (CM.out _ c3).mono ?_); rintro e w5 ⟨Am, cm, Em, cEm, rfl, hdm, -, -, -, b5⟩)
  obtain ⟨c5, k5, hM, ddm⟩ := boxed c3 b5 hdm #[.int .i64 dn.me, .int .i64 dn.num, .slice Am dn.l.length cm, .slice Em dn.es.length cEm]
  clear p4 c3 b5 hdm k3
  generalize hw : w5.alloc (.cells #[.int .i64 dn.me, .int .i64 dn.num, .slice Am dn.l.length cm, .slice Em dn.es.length cEm] 34) = w6 at *
  clear hw
  generalize w5.heap.size = gm at *
  have HM := Lib.hid hM
  have HN6 := Lib.hid (HN.out.below k5 HN.out.lt)
  have ddn6 := ddn.on k5
  have p6 := blk4 (Z1.out.below c5 Z1.out.lt)
  clear hM HN ddn k5
  go_upto_region 8 with (go_at_call 19; (with_reducible refine (CT.out _ c5).mono ?_); rintro e w7 ⟨At, ct, Et, cEt, Xt, cXt, rfl, hdt, -, -, hcXt, hrXt, -, b7⟩)
  obtain ⟨c7, k7, hT7, ddt⟩ := boxed c5 b7 hdt #[.int .i64 dt.me, .int .i64 dt.num, .slice At dt.l.length ct, .slice Et dt.es.length cEt]
  have hXt7 := hrXt.more (Nat.le_succ _)
  have rXt := (hrXt.below ((Below.refl _ _).alloc (Nat.le_refl _) (.cells #[.int .i64 dt.me, .int .i64 dt.num, .slice At dt.l.length ct, .slice Et dt.es.length cEt] 34))).more (show w7.heap.size ≤ (w7.alloc (.cells #[.int .i64 dt.me, .int .i64 dt.num, .slice At dt.l.length ct, .slice Et dt.es.length cEt] 34)).heap.size by simp)
  clear p6 c5 b7 hdt hrXt hXt7
  generalize hw : w7.alloc (.cells #[.int .i64 dt.me, .int .i64 dt.num, .slice At dt.l.length ct, .slice Et dt.es.length cEt] 34) = w8 at *
  clear hw
  generalize w7.heap.size = gt at *
  have HT8 := Lib.hid hT7
  have HN8 := Lib.hid (HN6.out.below k7 HN6.out.lt)
  have HM8 := Lib.hid (HM.out.below k7 HM.out.lt)
  have ddn8 := ddn6.on k7
  have ddm8 := ddm.on k7
  have p8 := blk4 (Z1.out.below c7 Z1.out.lt)
  clear hT7 HN6 HM ddn6 ddm k7
  go_upto_region 9 with (go_at_call 20; (with_reducible refine (CU.out _ c7).mono ?_); rintro e w9 ⟨Au, cu, Eu, cEu, Xu, cXu, rfl, hdu, -, -, hcXu, hrXu, -, b9⟩)
  obtain ⟨c9, k9, hU9, ddu⟩ := boxed c7 b9 hdu #[.int .i64 dt.me, .int .i64 dt.num, .slice Au dt.l.length cu, .slice Eu dt.es.length cEu]
  have rXu := (hrXu.below ((Below.refl _ _).alloc (Nat.le_refl _) (.cells #[.int .i64 dt.me, .int .i64 dt.num, .slice Au dt.l.length cu, .slice Eu dt.es.length cEu] 34))).more (show w9.heap.size ≤ (w9.alloc (.cells #[.int .i64 dt.me, .int .i64 dt.num, .slice Au dt.l.length cu, .slice Eu dt.es.length cEu] 34)).heap.size by simp)
  clear p8 c7 b9 hdu hrXu
  generalize hw : w9.alloc (.cells #[.int .i64 dt.me, .int .i64 dt.num, .slice Au dt.l.length cu, .slice Eu dt.es.length cEu] 34) = wa at *
  clear hw
  generalize w9.heap.size = gu at *
  have HUA := Lib.hid hU9
  have HTA := Lib.hid (HT8.out.below k9 HT8.out.lt)
  have HNA := Lib.hid (HN8.out.below k9 HN8.out.lt)
  have HMA := Lib.hid (HM8.out.below k9 HM8.out.lt)
  have HZA := Lib.hid (Z1.out.below c9 Z1.out.lt)
  have ddnA := Lib.hid (fun W (hW : Below wa.heap.size wa W) => (ddn8.on k9).on hW)
  have ddmA := Lib.hid (fun W (hW : Below wa.heap.size wa W) => (ddm8.on k9).on hW)
  have ddtA := Lib.hid (fun W (hW : Below wa.heap.size wa W) => (ddt.on k9).on hW)
  have dduA := Lib.hid (fun W (hW : Below wa.heap.size wa W) => ddu.on hW)
  have rXtA := Lib.hid (fun W (hW : Below wa.heap.size wa W) => ((rXt.below k9).more k9.size).below hW)
  have rXuA := Lib.hid (fun W (hW : Below wa.heap.size wa W) => rXu.below hW)
  have C9 := Lib.hid c9
  have CB := Lib.hid (fun W (hW : Below wa.heap.size wa W) => c9.trans (hW.mono c9.size))
  have HS := Lib.hid (fun W (hW : Below wa.heap.size wa W) => show (fun W' => W'.cell? ⟨w.heap.size, 0, none⟩ = some (.int .i64 d.me) ∧ W'.cell? ⟨w.heap.size, 1, none⟩ = some (.int .i64 d.num) ∧ W'.cell? ⟨w.heap.size, 2, none⟩ = some (.slice A d.l.length c) ∧ W'.cell? ⟨w.heap.size, 3, none⟩ = some (.slice E d.es.length cE) ∧ W'.cell? ⟨gn, 0, none⟩ = some (.int .i64 dn.me) ∧ W'.cell? ⟨gn, 1, none⟩ = some (.int .i64 dn.num) ∧ W'.cell? ⟨gn, 2, none⟩ = some (.slice An dn.l.length cn) ∧ W'.cell? ⟨gn, 3, none⟩ = some (.slice En dn.es.length cEn) ∧ W'.cell? ⟨gm, 0, none⟩ = some (.int .i64 dn.me) ∧ W'.cell? ⟨gm, 1, none⟩ = some (.int .i64 dn.num) ∧ W'.cell? ⟨gm, 2, none⟩ = some (.slice Am dn.l.length cm) ∧ W'.cell? ⟨gm, 3, none⟩ = some (.slice Em dn.es.length cEm) ∧ W'.cell? ⟨gt, 0, none⟩ = some (.int .i64 dt.me) ∧ W'.cell? ⟨gt, 1, none⟩ = some (.int .i64 dt.num) ∧ W'.cell? ⟨gt, 2, none⟩ = some (.slice At dt.l.length ct) ∧ W'.cell? ⟨gt, 3, none⟩ = some (.slice Et dt.es.length cEt) ∧ W'.cell? ⟨gu, 0, none⟩ = some (.int .i64 dt.me) ∧ W'.cell? ⟨gu, 1, none⟩ = some (.int .i64 dt.num) ∧ W'.cell? ⟨gu, 2, none⟩ = some (.slice Au dt.l.length cu) ∧ W'.cell? ⟨gu, 3, none⟩ = some (.slice Eu dt.es.length cEu)) W from ⟨((HZA.out.below hW HZA.out.lt).cell 0), ((HZA.out.below hW HZA.out.lt).cell 1), ((HZA.out.below hW HZA.out.lt).cell 2), ((HZA.out.below hW HZA.out.lt).cell 3), ((HNA.out.below hW HNA.out.lt).cell 0), ((HNA.out.below hW HNA.out.lt).cell 1), ((HNA.out.below hW HNA.out.lt).cell 2), ((HNA.out.below hW HNA.out.lt).cell 3), ((HMA.out.below hW HMA.out.lt).cell 0), ((HMA.out.below hW HMA.out.lt).cell 1), ((HMA.out.below hW HMA.out.lt).cell 2), ((HMA.out.below hW HMA.out.lt).cell 3), ((HTA.out.below hW HTA.out.lt).cell 0), ((HTA.out.below hW HTA.out.lt).cell 1), ((HTA.out.below hW HTA.out.lt).cell 2), ((HTA.out.below hW HTA.out.lt).cell 3), ((HUA.out.below hW HUA.out.lt).cell 0), ((HUA.out.below hW HUA.out.lt).cell 1), ((HUA.out.below hW HUA.out.lt).cell 2), ((HUA.out.below hW HUA.out.lt).cell 3)⟩)
  clear hU9 HT8 HN8 HM8 ddn8 ddm8 ddt ddu rXt rXu k9 c9 Z1 Z2 CN CM CT CU
  have ba := Below.refl wa.heap.size wa
  have KS1 := Lib.hid (fun W (hW : Below wa.heap.size wa W) => rSame (ddnA.out W hW) (ddmA.out W hW))
  have KS2 := Lib.hid (fun W (hW : Below wa.heap.size wa W) => rSame (ddtA.out W hW) (dduA.out W hW))
  have KV := Lib.hid (fun W (hW : Below wa.heap.size wa W) => CV.out W (CB.out W hW))
  have KY := Lib.hid (fun W (hW : Below wa.heap.size wa W) => CY.out W (CB.out W hW))
  have KH := Lib.hid (fun W (hW : Below wa.heap.size wa W) => CH.out W (CB.out W hW))
  have KI := Lib.hid (fun W (hW : Below wa.heap.size wa W) => CI.out W (CB.out W hW))
  have KA := Lib.hid (fun W (hW : Below wa.heap.size wa W) => alertsSame (cX := cXt) (cY := cXu) ((rXtA.out W hW).more hW.size) ((rXuA.out W hW).more hW.size) HAL.out)
  have he := eql_errno en
  have HB := Lib.hid (B0.out.trans (C9.out.mono B0.out.size))
  clear CV CY CH CI CB ddnA ddmA ddtA dduA rXtA rXuA HAL AW AW0 DW0 HDD60 HUA HTA HNA HMA HZA hcXt hcXu
  cases ok
  all_goals
    go_region_held3 (fun W' => W'.cell? ⟨w.heap.size, 0, none⟩ = some (.int .i64 d.me) ∧ W'.cell? ⟨w.heap.size, 1, none⟩ = some (.int .i64 d.num) ∧ W'.cell? ⟨w.heap.size, 2, none⟩ = some (.slice A d.l.length c) ∧ W'.cell? ⟨w.heap.size, 3, none⟩ = some (.slice E d.es.length cE) ∧ W'.cell? ⟨gn, 0, none⟩ = some (.int .i64 dn.me) ∧ W'.cell? ⟨gn, 1, none⟩ = some (.int .i64 dn.num) ∧ W'.cell? ⟨gn, 2, none⟩ = some (.slice An dn.l.length cn) ∧ W'.cell? ⟨gn, 3, none⟩ = some (.slice En dn.es.length cEn) ∧ W'.cell? ⟨gm, 0, none⟩ = some (.int .i64 dn.me) ∧ W'.cell? ⟨gm, 1, none⟩ = some (.int .i64 dn.num) ∧ W'.cell? ⟨gm, 2, none⟩ = some (.slice Am dn.l.length cm) ∧ W'.cell? ⟨gm, 3, none⟩ = some (.slice Em dn.es.length cEm) ∧ W'.cell? ⟨gt, 0, none⟩ = some (.int .i64 dt.me) ∧ W'.cell? ⟨gt, 1, none⟩ = some (.int .i64 dt.num) ∧ W'.cell? ⟨gt, 2, none⟩ = some (.slice At dt.l.length ct) ∧ W'.cell? ⟨gt, 3, none⟩ = some (.slice Et dt.es.length cEt) ∧ W'.cell? ⟨gu, 0, none⟩ = some (.int .i64 dt.me) ∧ W'.cell? ⟨gu, 1, none⟩ = some (.int .i64 dt.num) ∧ W'.cell? ⟨gu, 2, none⟩ = some (.slice Au dt.l.length cu) ∧ W'.cell? ⟨gu, 3, none⟩ = some (.slice Eu dt.es.length cEu)) (first | exact HS.out _ bi | exact HS.out _ bh | exact HS.out _ bg | exact HS.out _ bf | exact HS.out _ be | exact HS.out _ bd | exact HS.out _ bc | exact HS.out _ bb | exact HS.out _ ba.drew | exact HS.out _ ba | fail) (first
      | (go_at_call 21; (with_reducible refine (KS1.out _ (by first | exact ba | exact ba.drew)).mono ?_); rintro e v1 ⟨rfl, u1⟩; have bb : Below wa.heap.size wa v1 := (by first | exact W.bstep ba u1 | exact W.bstep ba.drew u1))
      | (go_at_call 22; (with_reducible refine (KV.out _ bb).mono ?_); rintro e v2 ⟨rfl, u2⟩; have bc : Below wa.heap.size wa v2 := W.bstep bb u2)
      | (go_at_call 23; (with_reducible refine (KY.out _ bc).mono ?_); rintro e v3 ⟨rfl, u3⟩; have bd : Below wa.heap.size wa v3 := W.bstep bc u3)
      | (go_at_call 24; (with_reducible refine (KH.out _ bd).mono ?_); rintro e v4 ⟨Ap, cp, Ep, cEp, rfl, dp, -, -, u4⟩; have be : Below wa.heap.size wa v4 := W.bstep bd u4)
      | (go_at_call 25; (with_reducible refine (KI.out _ be).mono ?_); rintro e v5 ⟨Aq, cq, Eq, cEq, rfl, dq, -, -, u5⟩; have bf : Below wa.heap.size wa v5 := W.bstep be u5)
      | (go_at_call 21; (with_reducible refine (rSame (dp.on u5) dq).mono ?_); rintro e v6 ⟨rfl, u6⟩; have bg : Below wa.heap.size wa v6 := W.bstep bf u6)
      | (go_at_call 21; (with_reducible refine (KS2.out _ bg).mono ?_); rintro e v7 ⟨rfl, u7⟩; have bh : Below wa.heap.size wa v7 := W.bstep bg u7)
      | (go_at_call 26; (with_reducible refine (KA.out _ bh).mono ?_); rintro e v8 ⟨rfl, u8⟩; have bi : Below wa.heap.size wa v8 := W.bstep bh u8)
      | fail)
    go_wp2_with fail
    go_ret
    exact ⟨rfl, HB.out.trans (bi.mono HB.out.size)⟩
end Go.Proofs.YtihgbadglaogdaaDoor.Pb
