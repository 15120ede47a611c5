/- Layer 5: the walk of ProbePlays. -/
import Derived.Test.YtihgbadglaogdaaDoorBTwo
namespace Go.Proofs.YtihgbadglaogdaaDoor.Pb
set_option linter.unusedVariables false
open Go.RowKit
open Go.Proofs.YtihgbadglaogdaaDoor.W
open Go.Proofs.YtihgbadglaogdaaDoor.V
open Go.Proofs.YtihgbadglaogdaaDoor.O

/-- Both boxes of ProbePlays. -/
structure Two (w0 W : World) (gn gm : Nat) (d : Dt) (An : Option Addr) (cn : Nat) (En : Option Addr) (cEn : Nat) (d' : Dt) (Am : Option Addr) (cm : Nat) (Em : Option Addr) (cEm : Nat) : Prop where
  n : One w0 W gn d An cn En cEn
  m : One w0 W gm d' Am cm Em cEm
  ne : gn ≠ gm
  oAn : Off An gm
  oEn : Off En gm
  oAm : Off Am gn
  oEm : Off Em gn
section
variable {w0 W W' : World} {gn gm : Nat} {d d' e' : Dt} {An En Am Em A E : Option Addr} {cn cEn cm cEm c cE : Nat}
theorem Two.on (h : Two w0 W gn gm d An cn En cEn d' Am cm Em cEm) (q : Below W.heap.size W W') : Two w0 W' gn gm d An cn En cEn d' Am cm Em cEm := { h with n := h.n.on q, m := h.m.on q }
theorem Two.putN (h : Two w0 W gn gm d An cn En cEn d' Am cm Em cEm) (q : Below W.heap.size W W') (hd : DD W' e' A c E cE) (hb : Fresh A W.heap.size) (hf : Fresh E W.heap.size) : Two w0 (put4 W' gn e' A c E cE) gn gm e' A c E cE d' Am cm Em cEm where
  n := h.n.put q hd (h.n.fresh hb) (h.n.fresh hf)
  m := (h.m.on q).far h.n.hg h.ne.symm h.oAm h.oEm
  ne := h.ne
  oAn := hb.off h.m.lt
  oEn := hf.off h.m.lt
  oAm := h.oAm
  oEm := h.oEm
theorem Two.putM (h : Two w0 W gn gm d An cn En cEn d' Am cm Em cEm) (q : Below W.heap.size W W') (hd : DD W' e' A c E cE) (hb : Back A Am) (hf : Fresh E W.heap.size) : Two w0 (put4 W' gm e' A c E cE) gn gm d An cn En cEn e' A c E cE where
  n := (h.n.on q).far h.m.hg h.ne h.oAn h.oEn
  m := h.m.put q hd (hb.off h.m.oA) (h.m.fresh hf)
  ne := h.ne
  oAn := h.oAn
  oEn := h.oEn
  oAm := hb.off h.oAm
  oEm := hf.off h.n.lt
end
theorem new_len {num me : Int} {l : List Int} : (Dt.new num l me).es.length ≤ 1000 := by
  unfold Dt.new
  split
  · have := len_newE K l me; show (newE K l me).length ≤ _; omega
  · show 0 ≤ _; omega
theorem tick_len {d : Dt} (h : d.es.length ≤ 1000) : d.tick.es.length ≤ 1000 := by
  unfold Dt.tick
  split
  · show (Pb.tick d.es).length ≤ _; unfold Pb.tick; rw [List.length_map]; exact h
  · show 0 ≤ _; omega
theorem hear_len {d : Dt} {x : Int} (h : d.es.length ≤ 1000) : (d.hear x).es.length ≤ 1000 := by
  unfold Dt.hear
  split
  · show (Pb.hear x d.es).length ≤ _; unfold Pb.hear; rw [List.length_map]; exact h
  · show 0 ≤ _; omega
theorem below_lt {w : World} {B : Nat} {xs : List Value} {size n : Nat} {A : Option Addr} (h : Reads w B size A n xs) (hn : 0 < n) {g : Nat} (hg : B ≤ g) : Off A g := fun ad e => by
  obtain ⟨ad', e', hb, _⟩ := h.2 hn
  rw [e] at e'; cases e'; omega
set_option maxRecDepth 1000000 in
set_option maxHeartbeats 4000000 in
theorem plays_walk (A2 L : Option Addr) (c2 cl : Nat) (num self : Int) (l xs : List Int) (w : World) 
    (hn : In64 num) (hr2 : Reads w w.heap.size 1 A2 l.length (l.map intV)) (hel2 : ∀ x ∈ l, In64 x) (hc2 : l.length ≤ c2) (hs : In64 self)
    (hrx : Reads w w.heap.size 1 L xs.length (xs.map intV)) (hex : ∀ x ∈ xs, In64 x) (ht : H.Tab w) :
    Calls Tryd.prog 5 #[.agg #[.int .i64 num, .slice A2 l.length c2], .int .i64 self, .slice L xs.length cl] w (PB w true) := by
  have hb0 : Below w.heap.size w (w.alloc (.cells #[.int .i64 num, .slice A2 l.length c2] 31)) := (Below.refl w.heap.size w).alloc (Nat.le_refl _) _
  have hz := Blk.new w 31 #[.int .i64 num, .slice A2 l.length c2]
  have HT := Lib.hid ht
  have AW := Lib.hid (fun W => awake_any W)
  have HRX := Lib.hid (fun W (hW : Below w.heap.size w W) => hrx.below hW)
  have HEX := Lib.hid hex
  clear ht hrx hex
  obtain ⟨nx, hnx⟩ : ∃ n, n = xs.length := ⟨_, rfl⟩
  have HNX := Lib.hid hnx
  rw [← hnx] at HRX ⊢
  clear hnx
  go_enter Tryd.func5, Tryd.ntmps5
  go_upto_region 1 with fail
  generalize hw0 : w.alloc (.cells #[.int .i64 num, .slice A2 l.length c2] 31) = w0 at *
  clear hw0
  have B0 := Lib.hid hb0
  have Z2 := Lib.hid hz
  have AW0 := Lib.hid (AW.out w0 (HT.out.on hb0))
  clear hb0 hz
  go_upto_region 3 with (go_at_call 9; (with_reducible refine AW0.out.mono ?_); rintro e w1 ⟨rfl, b1⟩)
  have p1 := blk2 (Z2.out.below b1 Z2.out.lt)
  by_cases h60 : l.length ≤ 60
  case neg =>
    have f60 : (60 : Int) < (l.length : Int) := by omega
    go_wp2_with fail
    go_ret
    exact ⟨rfl, B0.out.trans (b1.mono B0.out.size)⟩
  have f60 : ¬ (60 : Int) < (l.length : Int) := by omega
  by_cases h150 : nx ≤ 150
  case neg =>
    have f150 : (150 : Int) < (nx : Int) := by omega
    go_wp2_with fail
    go_ret
    exact ⟨rfl, B0.out.trans (b1.mono B0.out.size)⟩
  have f150 : ¬ (150 : Int) < (nx : Int) := by omega
  have VV := Lib.hid (show VW w w.heap.size num l A2 c2 from ⟨hn, hr2, by omega, hel2, hc2⟩)
  have CN := Lib.hid (fun (W : World) (hW : Below w0.heap.size w0 W) => pNew (W := W) num self l (VV.out.below (B0.out.trans (hW.mono B0.out.size))) (B0.out.trans (hW.mono B0.out.size)).size hs (HT.out.on (B0.out.trans (hW.mono B0.out.size))))
  have CM := Lib.hid (fun (W : World) (hW : Below w0.heap.size w0 W) => rNew (W := W) num self l (VV.out.below (B0.out.trans (hW.mono B0.out.size))) (B0.out.trans (hW.mono B0.out.size)).size hs)
  have TB := Lib.hid (fun (W : World) (hW : Below w0.heap.size w0 W) => HT.out.on (B0.out.trans (hW.mono B0.out.size)))
  have HX := Lib.hid (fun (W : World) (hW : Below w0.heap.size w0 W) => HRX.out W (B0.out.trans (hW.mono B0.out.size)))
  clear hn hr2 hel2 hc2 h60 h150 VV hs HRX HT AW AW0
  have HL := Lib.hid (show (Dt.new num l self).es.length ≤ 1000 from new_len)
  generalize Dt.new num l self = dn at *
  generalize newErr num l self = en at *
  have heb : (en != en) = false := by simp
  go_upto_region 6 with (go_at_call 17; (with_reducible refine (CN.out _ b1).mono ?_); rintro e w3 ⟨An, cn, En, cEn, rfl, hdn, kAn, fEn, lEn, b3⟩)
  obtain ⟨c3, k3, hN, ddn⟩ := boxed b1 b3 hdn (boxC dn An cn En cEn)
  have s3 := b3.size
  have s01 := b1.size
  have oAn : Off An w3.heap.size := kAn.off (Nat.le_refl _)
  have oEn : Off En w3.heap.size := lEn.off (Nat.le_refl _)
  have N3 := Lib.hid (show One w0 (w3.alloc (.cells (boxC dn An cn En cEn) 34)) w3.heap.size dn An cn En cEn from ⟨c3, hN, ddn, oAn, oEn, by omega⟩)
  have kAn' := kAn
  clear b1 p1 hdn kAn fEn b3 hN ddn s01 oAn oEn
  dsimp only [boxC] at *
  generalize hw : w3.alloc (.cells #[.int .i64 dn.me, .int .i64 dn.num, .slice An dn.l.length cn, .slice En dn.es.length cEn] 34) = w4 at *
  have hgw : w3.heap.size < w4.heap.size := by rw [← hw]; simp
  clear hw
  generalize w3.heap.size = gn at *
  have p4 := blk2 (Z2.out.below c3 Z2.out.lt)
  clear s3
  go_upto_region 7 with (go_at_call 18; (with_reducible refine (CM.out _ c3).mono ?_); rintro e w5 ⟨Am, cm, Em, cEm, rfl, hdm, kAm, fEm, lEm, b5⟩)
  obtain ⟨c5, k5, hM, ddm⟩ := boxed c3 b5 hdm (boxC dn Am cm Em cEm)
  have s5 := b5.size
  have hgn := N3.out.hg
  have s03 := c3.size
  have T5 := Lib.hid (show Two w0 (w5.alloc (.cells (boxC dn Am cm Em cEm) 34)) gn w5.heap.size dn An cn En cEn dn Am cm Em cEm from
    { n := N3.out.on k5, m := ⟨c5, hM, ddm, kAm.off (by have := B0.out.size; omega), lEm.off (Nat.le_refl _), by omega⟩, ne := by omega, oAn := kAn'.off (by omega), oEn := lEn.off (by omega),
      oAm := kAm.off (by have := B0.out.size; omega), oEm := fEm.off (by omega) })
  clear c3 hdm kAm fEm lEm b5 c5 k5 hM ddm s5 s03 hgn hgw kAn' lEn p4
  dsimp only [boxC] at *
  generalize hw : w5.alloc (.cells #[.int .i64 dn.me, .int .i64 dn.num, .slice Am dn.l.length cm, .slice Em dn.es.length cEm] 34) = w6 at *
  clear hw
  generalize w5.heap.size = gm at *
  go_upto_region 9 with fail
  go_upto_region 10 with fail
  go_loopg [11] nx (fun gk s11 wr => ∃ (k : Nat) (d : Dt) (An : Option Addr) (cn : Nat) (En : Option Addr) (cEn : Nat) (Am : Option Addr) (cm : Nat) (Em : Option Addr) (cEm : Nat), k + gk = nx ∧ s11 = .int .i64 k ∧ Hid (d.es.length ≤ 1000) ∧ Hid (Two w0 wr gn gm d An cn En cEn d Am cm Em cEm))
  case atStart => exact ⟨0, dn, An, cn, En, cEn, Am, cm, Em, cEm, by omega, rfl, HL.out, T5.out⟩
  case round =>
    obtain ⟨k, d, An, cn, En, cEn, Am, cm, Em, cEm, hkg, rfl, HL5, T⟩ := hrel
    have qn := blk4 T.out.n.box
    have qm := blk4 T.out.m.box
    have bel := Lib.hid T.out.n.bel
    cases gk with
    | zero =>
      have hkz : ¬ ((k : Int) < (nx : Int)) := by omega
      have KS := Lib.hid (rSame T.out.n.dd T.out.m.dd)
      go_wp2_with (go_at_call 21; (with_reducible refine KS.out.mono ?_); rintro e w7 ⟨rfl, q7⟩)
      go_ret
      exact ⟨rfl, B0.out.trans ((bel.out.trans (q7.mono bel.out.size)).mono B0.out.size)⟩
    | succ gk =>
      have hkz : (k : Int) < (nx : Int) := by omega
      obtain ⟨ad, u, rfl, hadb, hx, hcell⟩ := (HX.out wr bel.out).at_ (k := k) (by omega)
      obtain ⟨x, hxk⟩ : ∃ x, xs[k]? = some x := ⟨_, List.getElem?_eq_getElem (by have := HNX.out; omega)⟩
      have hux : u = .int .i64 x := by simp [hxk, intV] at hx; exact hx.symm
      rw [hux] at hcell
      have hx64 := Lib.hid (HEX.out x (List.mem_of_getElem? hxk))
      clear hx hux hxk
      by_cases h0 : x = 0
      · have f0 : (x != 0) = false := bneF h0
        have CT := Lib.hid (pTick T.out.n.dd (TB.out _ bel.out))
        have HLt := Lib.hid (show (d.tick).es.length ≤ 1000 from tick_len HL5.out)
        have HAL := Lib.hid (show (d.alr).length ≤ 1000 from by have := alr_len d; have := HL5.out; omega)
        clear h0
        generalize hdt : d.tick = dt at *
        generalize hal : d.alr = al at *
        have HDT := Lib.hid hdt
        have HDA := Lib.hid hal
        clear hdt hal
        go_upto_region 17 with (go_at_call 19; (with_reducible refine CT.out.mono ?_); rintro e w7 ⟨At, ct, Et, cEt, X, cX, rfl, ddt, kAt, fEt, hcX, rX, fX, q7⟩; (have b7 := blk4 (T.out.n.box.below q7 T.out.n.lt)))
        have T7 := T.out.putN q7 ddt kAt fEt
        have rX7 := reads_put (g := gn) (d := dt) (A := At) (c := ct) (E := Et) (cE := cEt) (rX.more (Nat.le_refl _)) (T.out.n.fresh fX)
        have oXm := T.out.m.fresh fX
        clear qn qm b7 hcell q7 ddt kAt fEt fX rX CT T
        unfold put4 at T7 rX7
        generalize hw : (((w7.setCell ⟨gn, 0, none⟩ (.int .i64 dt.me)).setCell ⟨gn, 1, none⟩ (.int .i64 dt.num)).setCell ⟨gn, 2, none⟩ (.slice At dt.l.length ct)).setCell ⟨gn, 3, none⟩ (.slice Et dt.es.length cEt) = w8 at *
        have hs8 : w7.heap.size = w8.heap.size := by rw [← hw]; simp [World.setCell]
        clear hw
        rw [hs8] at rX7
        clear hs8
        have T8 := Lib.hid T7
        have rX8 := Lib.hid rX7
        have qm := blk4 T7.m.box
        have CU := Lib.hid (show Calls Tryd.prog 20 #[.agg #[.int .i64 d.me, .int .i64 d.num, .slice Am d.l.length cm, .slice Em d.es.length cEm]] w8 (OutDA w8 dt al Am) from by have := rTick T7.m.dd; rw [HDT.out, HDA.out] at this; exact this)
        clear T7 rX7 HDT HDA
        go_upto_region 18 with (go_at_call 20; (with_reducible refine CU.out.mono ?_); rintro e w9 ⟨Au, cu, Eu, cEu, Y, cY, rfl, ddu, kAu, fEu, hcY, rY, fY, q9⟩; (have b9 := blk4 (T8.out.m.box.below q9 T8.out.m.lt)))
        have T9 := T8.out.putM q9 ddu kAu fEu
        have rX9 := reads_put (g := gm) (d := dt) (A := Au) (c := cu) (E := Eu) (cE := cEu) ((rX8.out.below q9).more q9.size) oXm
        have rY9 := reads_put (g := gm) (d := dt) (A := Au) (c := cu) (E := Eu) (cE := cEu) rY (T8.out.m.fresh fY)
        clear qm b9 q9 ddu kAu fEu rY fY rX8 T8 CU
        unfold put4 at T9 rX9 rY9
        generalize hw : (((w9.setCell ⟨gm, 0, none⟩ (.int .i64 dt.me)).setCell ⟨gm, 1, none⟩ (.int .i64 dt.num)).setCell ⟨gm, 2, none⟩ (.slice Au dt.l.length cu)).setCell ⟨gm, 3, none⟩ (.slice Eu dt.es.length cEu) = wa at *
        have hsa : w9.heap.size = wa.heap.size := by rw [← hw]; simp [World.setCell]
        clear hw
        rw [hsa] at rX9 rY9
        clear hsa
        have TA := Lib.hid T9
        have KA := Lib.hid (alertsSame (cX := cX) (cY := cY) rX9 rY9 HAL.out)
        clear T9 rX9 rY9 hcX hcY
        go_wp2_with (go_at_call 26; (with_reducible refine KA.out.mono ?_); rintro e wb ⟨rfl, qb⟩)
        go_roundg gk
        case measure => omega
        case rel => exact ⟨k + 1, dt, At, ct, Et, cEt, Au, cu, Eu, cEu, by omega, by go_num, HLt.out, TA.out.on qb⟩
      · have f0 : (x != 0) = true := bneT h0
        have CH := Lib.hid (pHeard x (T.out.n.drew).dd hx64.out (TB.out _ bel.out.drew))
        have HLh := Lib.hid (show (d.hear x).es.length ≤ 1000 from hear_len HL5.out)
        clear h0
        generalize hdh : d.hear x = dh at *
        have HDH := Lib.hid hdh
        clear hdh
        have HEL := Lib.hid (fun (W : World) (hW : Below wr.heap.size wr W) => show W.cell? (ad.add k) = some (.int .i64 x) from (hW.cell (p := ad.add k) (by rw [block_of_add]; have := B0.out.size; have := bel.out.size; omega)).trans hcell)
        have HDB := Lib.hid (show ad.block < w0.heap.size by have := B0.out.size; omega)
        go_upto_region 13 with fail
        go_region_law (go_simp; go_at_call 24; (with_reducible refine CH.out.mono ?_); rintro e w7 ⟨At, ct, Et, cEt, rfl, ddt, kAt, fEt, q7⟩; have b7 := blk4 (T.out.n.box.drew.below q7 T.out.n.lt))
        all_goals
          have T7 := (T.out.on (Below.refl _ _).drew).putN q7 ddt kAt fEt
          have c7 : w7.cell? (ad.add k) = some (.int .i64 x) := HEL.out w7 ((Below.refl _ _).drew.trans q7)
          have c8 : (put4 w7 gn dh At ct Et cEt).cell? (ad.add k) = some (.int .i64 x) := (cell_put (by rw [block_of_add]; have := HDB.out; have := T.out.n.hg; omega)).trans c7
          clear qn qm b7 hcell q7 ddt kAt fEt CH c7 HEL
          unfold put4 at T7 c8
          generalize hw : (((w7.setCell ⟨gn, 0, none⟩ (.int .i64 dh.me)).setCell ⟨gn, 1, none⟩ (.int .i64 dh.num)).setCell ⟨gn, 2, none⟩ (.slice At dh.l.length ct)).setCell ⟨gn, 3, none⟩ (.slice Et dh.es.length cEt) = w8 at *
          clear hw
          have T8 := Lib.hid T7
          have qm := blk4 T7.m.box
          have CI := Lib.hid (show Calls Tryd.prog 25 #[.agg #[.int .i64 d.me, .int .i64 d.num, .slice Am d.l.length cm, .slice Em d.es.length cEm], .int .i64 x] w8.drew (OutD w8.drew dh Am) from by have := rHeard x T7.m.drew.dd hx64.out; rw [HDH.out] at this; exact this)
          clear T7
          go_wp2_with fail
          go_region_law (go_simp; go_at_call 25; (with_reducible refine CI.out.mono ?_); rintro e w9 ⟨Au, cu, Eu, cEu, rfl, ddu, kAu, fEu, q9⟩; have b9 := blk4 (T8.out.m.box.drew.below q9 T8.out.m.lt))
          all_goals
            have TA := Lib.hid ((T8.out.on (Below.refl _ _).drew).putM q9 ddu kAu fEu)
            clear b9 q9 ddu kAu fEu CI qm c8
            go_wp2_with fail
            go_roundg gk
            case measure => omega
            case rel => exact ⟨k + 1, dh, At, ct, Et, cEt, Au, cu, Eu, cEu, by omega, by go_num, HLh.out, TA.out⟩
end Go.Proofs.YtihgbadglaogdaaDoor.Pb
