/- Layer 5: the walk of ProbeOnce. -/
import Derived.Test.YtihgbadglaogdaaDoorBSilent
import Derived.StillTailTactics
namespace Go.Proofs.YtihgbadglaogdaaDoor.Pb
set_option linter.unusedVariables false
open Go.RowKit
open Go.Proofs.YtihgbadglaogdaaDoor.W
open Go.Proofs.YtihgbadglaogdaaDoor.V
open Go.Proofs.YtihgbadglaogdaaDoor.O
open Go.Lib (byteCells byteCells_length)

def arrC (R : List Bool) : Array Value := (R.map Value.bool).toArray
theorem arrC_get {R : List Bool} {i : Nat} {b : Bool} (h : R[i]? = some b) : (arrC R)[i]? = some (.bool b) := by unfold arrC; simp [h]
theorem arrC_set {R : List Bool} {i : Nat} : (arrC R).setIfInBounds i (.bool true) = arrC (R.set i true) := by
  unfold arrC
  rw [List.map_set]
  simp
/-- The detector's box, and the array of what has been reported. -/
structure OS (w0 W : World) (G Gr : Nat) (d : Dt) (A : Option Addr) (c : Nat) (E : Option Addr) (cE : Nat) (R : List Bool) : Prop where
  one : One w0 W G d A c E cE
  arr : Blk W Gr 55 (arrC R)
  oA : Off A Gr
  oE : Off E Gr
  ne : G ≠ Gr
  hr : w0.heap.size ≤ Gr
section
variable {w0 W W' : World} {G Gr : Nat} {d d' : Dt} {A E A' E' : Option Addr} {c cE c' cE' : Nat} {R : List Bool}
theorem OS.on (h : OS w0 W G Gr d A c E cE R) (q : Below W.heap.size W W') : OS w0 W' G Gr d A c E cE R := { h with one := h.one.on q, arr := h.arr.below q h.arr.lt }
theorem OS.put (h : OS w0 W G Gr d A c E cE R) (q : Below W.heap.size W W') (hd : DD W' d' A' c' E' cE') (hb : Fresh A' W.heap.size) (hf : Fresh E' W.heap.size) : OS w0 (put4 W' G d' A' c' E' cE') G Gr d' A' c' E' cE' R where
  one := h.one.put q hd (h.one.fresh hb) (h.one.fresh hf)
  arr := by
    unfold put4
    exact ((((h.arr.below q h.arr.lt).far (p := ⟨G, 0, none⟩) h.ne.symm _).far (p := ⟨G, 1, none⟩) h.ne.symm _).far (p := ⟨G, 2, none⟩) h.ne.symm _).far (p := ⟨G, 3, none⟩) h.ne.symm _
  oA := hb.off h.arr.lt
  oE := hf.off h.arr.lt
  ne := h.ne
  hr := h.hr
theorem OS.mark (h : OS w0 W G Gr d A c E cE R) (i : Nat) : OS w0 (W.setCell ⟨Gr, i, none⟩ (.bool true)) G Gr d A c E cE (R.set i true) where
  one := ⟨h.one.bel.setCell h.hr _, h.one.box.far (p := ⟨Gr, i, none⟩) h.ne _, h.one.dd.set (p := ⟨Gr, i, none⟩) h.oA h.oE _, h.one.oA, h.one.oE, h.one.hg⟩
  arr := by rw [← arrC_set]; exact h.arr.set_ i _
  oA := h.oA
  oE := h.oE
  ne := h.ne
  hr := h.hr
end
def dO (num : Int) (l : List Int) (me : Int) (es : List Edge) : Dt := ⟨me, num, l, es⟩
section
variable {num me : Int} {l : List Int} {es : List Edge}
theorem dO_hear (h : okD K num l me es = true) (x : Int) : (dO num l me es).hear x = dO num l me (hear x es) := by
  unfold Dt.hear
  rw [show (dO num l me es).ok = true from h]; rfl
theorem dO_tick (h : okD K num l me es = true) : (dO num l me es).tick = dO num l me (tick es) := by
  unfold Dt.tick
  rw [show (dO num l me es).ok = true from h]; rfl
theorem dO_alr (h : okD K num l me es = true) : (dO num l me es).alr = alertsOf num me es := by
  unfold Dt.alr
  rw [show (dO num l me es).ok = true from h]; rfl
theorem dO_new (hk : okN num l me = true) : Dt.new num l me = dO num l me (newE K l me) := by unfold Dt.new; rw [hk]; rfl
theorem dO_len (h : okD K num l me es = true) : es.length ≤ 5 := by
  unfold okD at h
  rw [Bool.and_eq_true] at h
  rw [fitE_len h.2]
  exact len_newE K l me
end
theorem byte_at {W : World} {B n k : Nat} {A : Option Addr} {xs : List UInt8} {z : UInt8} (h : Reads W B 1 A n (byteCells xs)) (hz : xs[k]? = some z) (hk : k < n) : ∃ ad, A = some ad ∧ ad.block < B ∧ W.cell? (ad.add k) = some (.int .u8 (z.toNat : Int)) := by
  obtain ⟨ad, u, hA, hb, hx, hc⟩ := h.at_ hk
  have : u = .int .u8 (z.toNat : Int) := by
    unfold byteCells at hx
    rw [List.getElem?_map, hz] at hx
    exact (Option.some.inj hx).symm
  rw [this] at hc
  exact ⟨ad, hA, hb, hc⟩
set_option maxRecDepth 1000000 in
set_option maxHeartbeats 4000000 in
theorem once_walk (A2 L : Option Addr) (c2 cl s1 : Nat) (num : Int) (l : List Int) (xs : List UInt8) (w : World)
    (hn : In64 num) (hr2 : Reads w w.heap.size 1 A2 l.length (l.map intV)) (hel2 : ∀ x ∈ l, In64 x) (hc2 : l.length ≤ c2) (hs1 : s1 < 256) (hrx : Reads w w.heap.size 1 L xs.length (byteCells xs)) (ht : H.Tab w) :
    Calls Tryd.prog 8 #[.agg #[.int .i64 num, .slice A2 l.length c2], .int .u8 s1, .slice L xs.length cl] w (PB w true) := by
  have hb0 : Below w.heap.size w (w.alloc (.cells #[.int .i64 num, .slice A2 l.length c2] 31)) := (Below.refl w.heap.size w).alloc (Nat.le_refl _) _
  have hz := Blk.new w 31 #[.int .i64 num, .slice A2 l.length c2]
  have HT := Lib.hid ht
  have AW := Lib.hid (fun W => awake_any W)
  have HR2 := Lib.hid (fun W (hW : Below w.heap.size w W) => hr2.below hW)
  have HRX := Lib.hid (fun W (hW : Below w.heap.size w W) => hrx.below hW)
  have KV := Lib.hid (fun W (hW : Below w.heap.size w W) => refValid_all num l A2 c2 w.heap.size W hn (hr2.below hW) hel2 hc2 hW.size)
  clear ht hrx
  obtain ⟨nx, hnx⟩ : ∃ n, n = xs.length := ⟨_, rfl⟩
  have HNX := Lib.hid hnx
  rw [← hnx] at HRX ⊢
  clear hnx
  go_enter Tryd.func8, Tryd.ntmps8
  go_upto_region 1 with fail
  generalize hw0 : w.alloc (.cells #[.int .i64 num, .slice A2 l.length c2] 31) = w0 at *
  clear hw0
  have B0 := Lib.hid hb0
  have Z2 := Lib.hid hz
  have AW0 := Lib.hid (AW.out w0 (HT.out.on hb0))
  clear hb0 hz
  go_upto_region 3 with (go_at_call 9; (with_reducible refine AW0.out.mono ?_); rintro e w1 ⟨rfl, b1⟩)
  have p1 := blk2 (Z2.out.below b1 Z2.out.lt)
  have KV1 := Lib.hid (KV.out w1 (B0.out.trans (b1.mono B0.out.size)))
  cases hv : validV num l
  · rw [hv] at KV1
    go_wp2_with (go_at_call 27; (with_reducible refine KV1.out.mono ?_); rintro e w2 ⟨rfl, b2⟩)
    go_ret
    exact ⟨rfl, B0.out.trans ((W.bstep b1 b2).mono B0.out.size)⟩
  rw [hv] at KV1
  by_cases h150 : nx ≤ 150
  case neg =>
    have f150 : (150 : Int) < (nx : Int) := by omega
    go_wp2_with (go_at_call 27; (with_reducible refine KV1.out.mono ?_); rintro e w2 ⟨rfl, b2⟩)
    go_ret
    exact ⟨rfl, B0.out.trans ((W.bstep b1 b2).mono B0.out.size)⟩
  have f150 : ¬ (150 : Int) < (nx : Int) := by omega
  have hvm := (validV_iff.1 hv).2.2
  have hl1 := (validM_iff.1 hvm).1
  have hl16 := (validM_iff.1 hvm).2.1
  have hids := (validM_iff.1 hvm).2.2.2
  go_upto_region 5 with (go_at_call 27; (with_reducible refine KV1.out.mono ?_); rintro e w2 ⟨rfl, b2⟩)
  have b12 := W.bstep b1 b2
  have hbw2 := B0.out.trans (b12.mono B0.out.size)
  obtain ⟨a1, ha1, he1, hm1⟩ := mod_idx s1 l.length (by omega)
  obtain ⟨ad, u1, rfl, hadb, hx1, hcell1⟩ := (HR2.out w2 hbw2).at_ ha1
  obtain ⟨me, hme⟩ : ∃ x, l[a1]? = some x := ⟨_, List.getElem?_eq_getElem (by omega)⟩
  have hu1 : u1 = .int .i64 me := by simp [hme, intV] at hx1; exact hx1.symm
  rw [hu1] at hcell1
  have hmm := List.mem_of_getElem? hme
  have m64 : In64 me := ⟨by have := hids me hmm; omega, by have := hids me hmm; omega⟩
  have hok := okN_of hv hmm
  have VV := Lib.hid (show VW w w.heap.size num l (some ad) c2 from ⟨hn, hr2, by omega, hel2, hc2⟩)
  have CN := Lib.hid (fun (W : World) (hW : Below w0.heap.size w0 W) => show Calls Tryd.prog 17 #[.agg #[.int .i64 num, .slice (some ad) l.length c2], .int .i64 me] W (OutFE W (dO num l me (newE K l me)) 0) from by
    have := pNew (W := W) num me l (VV.out.below (B0.out.trans (hW.mono B0.out.size))) (B0.out.trans (hW.mono B0.out.size)).size m64 (HT.out.on (B0.out.trans (hW.mono B0.out.size)))
    rw [dO_new hok, show newErr num l me = 0 by unfold newErr; rw [hok]; rfl] at this
    exact this)
  have OK0 := Lib.hid (okD_new (K := K) hok)
  have RG0 := Lib.hid (RG.new (K := K) (l := l) (me := me))
  have p2 := blk2 (Z2.out.below b12 Z2.out.lt)
  have HIDS := Lib.hid hids
  have HAD := Lib.hid hadb
  obtain ⟨nl, hnl⟩ : ∃ n, n = l.length := ⟨_, rfl⟩
  have HNL := Lib.hid hnl
  have Z3 := Lib.hid (show Blk w0 w.heap.size 31 #[.int .i64 num, .slice (some ad) nl c2] by rw [hnl]; exact Z2.out)
  clear Z2
  have Z2 := Lib.hid Z3.out
  clear Z3
  rw [← hnl] at hm1 ha1 CN HR2 p2 hl1 hl16
  have q1 : (a1 : Int) < (nl : Int) := by omega
  have qz : ((nl : Int) == 0) = false := beqF (by omega)
  have wr1 : IntKind.i64.wrap (s1 : Int) = (s1 : Int) := IntWalk.i64_in _ (by omega)
  clear b1 b2 p1 KV KV1 AW AW0 hx1 hme hu1 hmm hok hvm hids hadb hnl he1 hn hr2 hel2 hc2 VV hv hbw2 f150
  go_quiet (fail)
  have bq := below_drewN' b12
  have pq := fun n => blk2 (Z2.out.below (bq n) Z2.out.lt)
  clear p2 hcell1
  go_upto_region 7 with (go_at_call 17; (with_reducible refine (CN.out _ (bq _)).mono ?_); rintro e w3 ⟨An, cn, En, cEn, rfl, hdn, kAn, fEn, lEn, b3⟩)
  obtain ⟨c3, k3, hN, ddn⟩ := boxed (bq _) b3 hdn (boxC (dO num l me (newE K l me)) An cn En cEn)
  have s3 := b3.size
  have s30 : w.heap.size ≤ w3.heap.size := by have := b12.size; have := B0.out.size; simp at s3; omega
  have s31 : w0.heap.size ≤ w3.heap.size := by have := b12.size; simp at s3; omega
  have N3 := Lib.hid (show One w0 (w3.alloc (.cells (boxC (dO num l me (newE K l me)) An cn En cEn) 34)) w3.heap.size (dO num l me (newE K l me)) An cn En cEn from ⟨c3, hN, ddn, kAn.off (Nat.le_refl _), lEn.off (Nat.le_refl _), s31⟩)
  have hgw : w3.heap.size < (w3.alloc (.cells (boxC (dO num l me (newE K l me)) An cn En cEn) 34)).heap.size := by simp
  dsimp only [boxC] at *
  generalize hw : w3.alloc (.cells #[.int .i64 (dO num l me (newE K l me)).me, .int .i64 (dO num l me (newE K l me)).num, .slice An (dO num l me (newE K l me)).l.length cn, .slice En (dO num l me (newE K l me)).es.length cEn] 34) = w4 at *
  clear hw
  have hOS := Lib.hid (show OS w0 (w4.alloc (.cells (arrC [false, false, false, false, false]) 55)) w3.heap.size w4.heap.size (dO num l me (newE K l me)) An cn En cEn [false, false, false, false, false] from
    ⟨N3.out.on ((Below.refl _ _).alloc (Nat.le_refl _) _), Blk.new _ _ _, kAn.off (by omega), lEn.off (by omega), by omega, by omega⟩)
  have KAN := Lib.hid True.intro
  clear hdn kAn fEn lEn b3 hN ddn c3 k3 s3 s30 s31 N3 CN pq bq
  go_upto_region 11 with fail
  have hal : w4.alloc (.cells #[.bool false, .bool false, .bool false, .bool false, .bool false] 55) = w4.alloc (.cells (arrC [false, false, false, false, false]) 55) := rfl
  rw [hal]
  generalize w4.alloc (.cells (arrC [false, false, false, false, false]) 55) = w5 at *
  clear hal hgw
  generalize w3.heap.size = G at *
  generalize w4.heap.size = Gr at *
  clear hm1 ha1 q1 wr1 hs1
  go_loopg [11] nx (fun gk s11 wr => ∃ (k : Nat) (es : List Edge) (R : List Bool) (A : Option Addr) (c : Nat) (E : Option Addr) (cE : Nat), k + gk = nx ∧ s11 = .int .i64 k ∧ Hid (okD K num l me es = true) ∧ Hid (RG R es) ∧ Hid (OS w0 wr G Gr (dO num l me es) A c E cE R) ∧ Hid True)
  case atStart => exact ⟨0, newE K l me, _, An, cn, En, cEn, by omega, rfl, OK0.out, RG0.out, hOS.out, KAN.out⟩
  case round =>
    obtain ⟨k, es, R, A, c, E, cE, hkg, rfl, HOK, HRG, HO, HA⟩ := hrel
    obtain ⟨wo, rfl⟩ : ∃ wo : World, wo = wr := ⟨_, rfl⟩
    have pz := blk2 (Z2.out.below HO.out.one.bel Z2.out.lt)
    have qz4 := blk4 HO.out.one.box
    have BW := Lib.hid (B0.out.trans (HO.out.one.bel.mono B0.out.size))
    cases gk with
    | zero =>
      have hkz : ¬ ((k : Int) < (nx : Int)) := by omega
      have KP := Lib.hid (show Calls Tryd.prog 22 #[.agg #[.int .i64 (dO num l me es).me, .int .i64 (dO num l me es).num, .slice A (dO num l me es).l.length c, .slice E (dO num l me es).es.length cE]] wo (PB wo true) from by
        have := pValid HO.out.one.dd (HT.out.on BW.out)
        rw [show (dO num l me es).ok = true from HOK.out] at this
        exact this)
      go_wp2_with (go_at_call 22; (with_reducible refine KP.out.mono ?_); rintro e w7 ⟨rfl, q7⟩)
      go_ret
      exact ⟨rfl, BW.out.trans (q7.mono BW.out.size)⟩
    | succ gk =>
      have hkz : (k : Int) < (nx : Int) := by omega
      obtain ⟨z, hz⟩ : ∃ z, xs[k]? = some z := ⟨_, List.getElem?_eq_getElem (by have := HNX.out; omega)⟩
      obtain ⟨xd, rfl, hxb, hcz⟩ := byte_at (HRX.out wo BW.out) hz (by omega)
      have HXB := Lib.hid hxb
      clear hz hxb
      have hz256 : z.toNat < 256 := z.toNat_lt
      generalize z.toNat = zn at *
      by_cases h128 : zn < 128
      · have f128 : (zn : Int) < 128 := by omega
        obtain ⟨a, ha, -, hm⟩ := mod_idx zn nl (by omega)
        obtain ⟨ad', u, hae, -, hx, hcell⟩ := (HR2.out wo BW.out).at_ ha
        obtain rfl := Option.some.inj hae
        obtain ⟨x, hxk⟩ : ∃ x, l[a]? = some x := ⟨_, List.getElem?_eq_getElem (by have := HNL.out; omega)⟩
        have hux : u = .int .i64 x := by simp [hxk, intV] at hx; exact hx.symm
        rw [hux] at hcell
        have x64 := Lib.hid (show In64 x from ⟨by have := HIDS.out x (List.mem_of_getElem? hxk); omega, by have := HIDS.out x (List.mem_of_getElem? hxk); omega⟩)
        have CH := Lib.hid (show Calls Tryd.prog 24 #[.agg #[.int .i64 (dO num l me es).me, .int .i64 (dO num l me es).num, .slice A (dO num l me es).l.length c, .slice E (dO num l me es).es.length cE], .int .i64 x] wo.drew (OutF wo.drew (dO num l me (hear x es))) from by
          have := pHeard x HO.out.one.drew.dd x64.out (HT.out.on BW.out.drew)
          rw [dO_hear HOK.out] at this
          exact this)
        have OK1 := Lib.hid (okD_hear (s := x) HOK.out)
        have RG1 := Lib.hid (HRG.out.hear x)
        have q1 : (a : Int) < (nl : Int) := by omega
        have wz1 : IntKind.i64.wrap (zn : Int) = (zn : Int) := IntWalk.i64_in _ (by omega)
        clear hx hux hae hxk h128
        have hnz : ¬ nl = 0 := by omega
        go_upto_region 14 with fail
        go_still_tail 14, (by kernel_rfl)
        change wpList _ _ _ _ _ wo.drew
        go_wp2_with (go_at_call 24; (with_reducible refine CH.out.mono ?_); rintro e w7 ⟨At, ct, Et, cEt, rfl, ddt, kAt, fEt, q7⟩; have b7 := blk4 (HO.out.one.box.drew.below q7 HO.out.one.lt))
        have T7 := Lib.hid ((HO.out.on (Below.refl _ _).drew).put q7 ddt kAt fEt)
        have A7 := Lib.hid True.intro
        clear b7 q7 ddt kAt fEt CH qz4 pz hcell hcz
        go_roundg gk
        case measure => omega
        case rel => exact ⟨k + 1, hear x es, R, At, ct, Et, cEt, by omega, by go_num, OK1.out, RG1.out, T7.out, A7.out⟩
      · have f128 : ¬ (zn : Int) < 128 := by omega
        clear h128
        have CT := Lib.hid (show Calls Tryd.prog 19 #[.agg #[.int .i64 (dO num l me es).me, .int .i64 (dO num l me es).num, .slice A (dO num l me es).l.length c, .slice E (dO num l me es).es.length cE]] wo (OutFA wo (dO num l me (tick es)) (alertsOf num me es)) from by
          have := pTick HO.out.one.dd (HT.out.on BW.out)
          rw [dO_tick HOK.out, dO_alr HOK.out] at this
          exact this)
        have OK1 := Lib.hid (okD_tick HOK.out)
        have RG1 := Lib.hid (HRG.out.tick num me)
        have LA := Lib.hid (show (alertsOf num me es).length ≤ 5 from by have := dO_len HOK.out; unfold alertsOf; rw [List.length_map]; exact Nat.le_trans (List.length_filter_le _ _) this)
        have HAL := Lib.hid (fun (i : Nat) (x : Alr) (hx : (alertsOf num me es)[i]? = some x) => HRG.out.alert hx)
        have HRL := Lib.hid HRG.out.len
        generalize alertsOf num me es = al at *
        obtain ⟨n, hn⟩ : ∃ n, n = al.length := ⟨_, rfl⟩
        have HN := Lib.hid hn
        have CT2 := Lib.hid (show Calls Tryd.prog 19 #[.agg #[.int .i64 (dO num l me es).me, .int .i64 (dO num l me es).num, .slice A (dO num l me es).l.length c, .slice E (dO num l me es).es.length cE]] wo (fun e w' => ∃ A' c' E' cE' X cX, e = .returned (.tuple #[.agg #[.int .i64 (dO num l me (tick es)).me, .int .i64 (dO num l me (tick es)).num, .slice A' (dO num l me (tick es)).l.length c', .slice E' (dO num l me (tick es)).es.length cE'], .slice X n cX]) ∧ DD w' (dO num l me (tick es)) A' c' E' cE' ∧ Fresh A' wo.heap.size ∧ Fresh E' wo.heap.size ∧ n ≤ cX ∧ Reads w' w'.heap.size 4 X n (alrsC al) ∧ Fresh X wo.heap.size ∧ Below wo.heap.size wo w') from by rw [hn]; exact CT.out)
        have hn5 : n ≤ 5 := by have := LA.out; omega
        clear hn CT
        go_upto_region 17 with (go_at_call 19; (with_reducible refine CT2.out.mono ?_); rintro e w7 ⟨At, ct, Et, cEt, X, cX, rfl, ddt, kAt, fEt, hcX, rX, fX, q7⟩; (have b7 := blk4 (HO.out.one.box.below q7 HO.out.one.lt)))
        have T7 := HO.out.put q7 ddt kAt fEt
        have R7 := reads_put (g := G) (d := dO num l me (tick es)) (A := At) (c := ct) (E := Et) (cE := cEt) rX (HO.out.one.fresh fX)
        have A7 := Lib.hid True.intro
        have oXr : Off X Gr := fX.off HO.out.arr.lt
        have hsz7 : (put4 w7 G (dO num l me (tick es)) At ct Et cEt).heap.size = w7.heap.size := put4_size
        clear b7 q7 ddt kAt fEt CT2 qz4 pz rX fX HO HA hcX
        unfold put4 at T7 R7 hsz7
        generalize hw : (((w7.setCell ⟨G, 0, none⟩ (.int .i64 (dO num l me (tick es)).me)).setCell ⟨G, 1, none⟩ (.int .i64 (dO num l me (tick es)).num)).setCell ⟨G, 2, none⟩ (.slice At (dO num l me (tick es)).l.length ct)).setCell ⟨G, 3, none⟩ (.slice Et (dO num l me (tick es)).es.length cEt) = w8 at *
        clear hw
        rw [← hsz7] at R7
        clear hsz7
        have T8 := Lib.hid T7
        have R8 := Lib.hid R7
        have OXR := Lib.hid oXr
        clear T7 R7 oXr
        go_upto_region 18 with fail
        go_loopg [13] n (fun g2 s13 wr => ∃ (j : Nat), j + g2 = n ∧ s13 = .int .i64 j ∧ Hid (OS w0 wr G Gr (dO num l me (tick es)) At ct Et cEt (mark R (al.take j))) ∧ Hid (Reads wr wr.heap.size 4 X n (alrsC al)))
        case atStart => exact ⟨0, by omega, rfl, T8.out, R8.out⟩
        case round =>
          obtain ⟨j, hjg, rfl, HO2, HR2'⟩ := hrel
          obtain ⟨wi, rfl⟩ : ∃ wo : World, wo = wr := ⟨_, rfl⟩
          cases gk with
          | zero =>
            have hjz : ¬ ((j : Int) < (n : Int)) := by omega
            have HF := Lib.hid (show mark R (al.take j) = mark R al by rw [List.take_of_length_le (by have := HN.out; omega)])
            go_wp2_with fail
            go_roundg gk
            case measure => omega
            case rel => exact ⟨k + 1, tick es, mark R al, At, ct, Et, cEt, by omega, by go_num, OK1.out, RG1.out, by rw [← HF.out]; exact HO2.out, A7.out⟩
          | succ g2 =>
            have hjz : (j : Int) < (n : Int) := by omega
            obtain ⟨x, hx⟩ : ∃ x, al[j]? = some x := ⟨_, List.getElem?_eq_getElem (by have := HN.out; omega)⟩
            obtain ⟨hr0, hr5, hv, ho, hmk⟩ := HAL.out j x hx
            have HSN := Lib.hid (mark_snoc (R := R) hx)
            obtain ⟨xd', rfl, -, -, y0, y1, y2, y3⟩ := alr_at HR2'.out hx
            obtain ⟨xv, xr, xo, xs'⟩ := x
            dsimp only at hr0 hr5 hv ho hmk y0 y1 y2 y3 HSN
            subst hv ho
            obtain ⟨r, rfl⟩ : ∃ r : Nat, xr = (r : Int) := ⟨xr.toNat, by omega⟩
            rw [show ((r : Int)).toNat = r by simp] at hmk HSN
            have hcr := (HO2.out.arr.cell r).trans (arrC_get hmk)
            have hfr := HO2.out.arr.frozen r
            have pv := blk2 (Z2.out.below HO2.out.one.bel Z2.out.lt)
            have d0 : ¬ (r : Int) < 0 := by omega
            have d5 : ¬ (5 : Int) ≤ (r : Int) := by omega
            have hv0 : (xv != xv) = false := by simp
            have ho0 : (xo != xo) = false := by simp
            clear hx hmk
            go_wp2_with fail
            go_quiet (fail)
            go_wp2_with fail
            have T9 := Lib.hid ((HO2.out.on (below_drewN' (Below.refl _ _) nq)).mark r)
            have R9 := Lib.hid ((reads_far (p := ⟨Gr, r, none⟩) (Reads.drewN HR2'.out nq) (fun ad e => OXR.out ad e) (.bool true)).more (show wi.heap.size ≤ ((wi.drewN nq).setCell ⟨Gr, r, none⟩ (.bool true)).heap.size by simp [World.setCell]))
            clear hcr hfr pv y0 y1 y2 y3
            go_roundg g2
            case measure => omega
            case rel => exact ⟨j + 1, by omega, by go_num, by rw [HSN.out]; exact T9.out, R9.out⟩
end Go.Proofs.YtihgbadglaogdaaDoor.Pb
