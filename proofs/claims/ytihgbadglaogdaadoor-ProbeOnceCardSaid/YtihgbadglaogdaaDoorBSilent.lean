/- Layer 5: the walk of ProbeSilent. -/
import Derived.Test.YtihgbadglaogdaaDoorBSil1
import Derived.BigQuiet
namespace Go.Proofs.YtihgbadglaogdaaDoor.Pb
set_option linter.unusedVariables false
open Go.RowKit
open Go.Proofs.YtihgbadglaogdaaDoor.W
open Go.Proofs.YtihgbadglaogdaaDoor.V
open Go.Proofs.YtihgbadglaogdaaDoor.O

theorem shL_len {l : List Int} {a b : Int} : (shL K l a b).length ≤ 5 := by unfold shL; exact Nat.le_trans idxF_le obsL_len
theorem mod_idx (s n : Nat) (hn : 0 < n) : ∃ a : Nat, a < n ∧ a = s % n ∧ (s : Int).tmod (n : Int) = (a : Int) :=
  ⟨s % n, Nat.mod_lt _ hn, rfl, by rw [IntWalk.rem_in _ _ (by omega), Int.natCast_emod]⟩
set_option maxRecDepth 1000000 in
set_option maxHeartbeats 4000000 in
theorem silent_walk (A2 : Option Addr) (c2 s1 s2 tk : Nat) (num : Int) (l : List Int) (w : World) 
    (hn : In64 num) (hr2 : Reads w w.heap.size 1 A2 l.length (l.map intV)) (hel2 : ∀ x ∈ l, In64 x) (hc2 : l.length ≤ c2) (hs1 : s1 < 256) (hs2 : s2 < 256) (htk : tk < 256) (ht : H.Tab w) :
    Calls Tryd.prog 7 #[.agg #[.int .i64 num, .slice A2 l.length c2], .int .u8 s1, .int .u8 s2, .int .u8 tk] w (PB w true) := by
  have hb0 : Below w.heap.size w (w.alloc (.cells #[.int .i64 num, .slice A2 l.length c2] 31)) := (Below.refl w.heap.size w).alloc (Nat.le_refl _) _
  have hz := Blk.new w 31 #[.int .i64 num, .slice A2 l.length c2]
  have HT := Lib.hid ht
  have AW := Lib.hid (fun W => awake_any W)
  have HRX := Lib.hid (fun W (hW : Below w.heap.size w W) => hr2.below hW)
  have KV := Lib.hid (fun W (hW : Below w.heap.size w W) => refValid_all num l A2 c2 w.heap.size W hn (hr2.below hW) hel2 hc2 hW.size)
  clear ht
  go_enter Tryd.func7, Tryd.ntmps7
  go_upto_region 1 with fail
  generalize hw0 : w.alloc (.cells #[.int .i64 num, .slice A2 l.length c2] 31) = w0 at *
  clear hw0
  have B0 := Lib.hid hb0
  have Z2 := Lib.hid hz
  have AW0 := Lib.hid (AW.out w0 (HT.out.on hb0))
  clear hb0 hz
  go_upto_region 3 with (go_at_call 9; (with_reducible refine AW0.out.mono ?_); rintro e w1 ⟨rfl, b1⟩)
  have p1 := blk2 (Z2.out.below b1 Z2.out.lt)
  have KV1 := Lib.hid (KV.out w1 (B0.out.trans (b1.mono B0.out.size)))
  cases hv : validV num l
  · rw [hv] at KV1
    go_wp2_with (go_at_call 27; (with_reducible refine KV1.out.mono ?_); rintro e w2 ⟨rfl, b2⟩)
    go_ret
    exact ⟨rfl, B0.out.trans ((W.bstep b1 b2).mono B0.out.size)⟩
  rw [hv] at KV1
  have hvm := (validV_iff.1 hv).2.2
  have hl1 := (validM_iff.1 hvm).1
  have hl16 := (validM_iff.1 hvm).2.1
  have hids := (validM_iff.1 hvm).2.2.2
  go_upto_region 5 with (go_at_call 27; (with_reducible refine KV1.out.mono ?_); rintro e w2 ⟨rfl, b2⟩)
  have b12 := W.bstep b1 b2
  have hbw2 := B0.out.trans (b12.mono B0.out.size)
  obtain ⟨a1, ha1, he1, hm1⟩ := mod_idx s1 l.length (by omega)
  obtain ⟨a2, ha2, he2, hm2⟩ := mod_idx s2 l.length (by omega)
  obtain ⟨ad, u1, rfl, hadb, hx1, hcell1⟩ := (HRX.out w2 hbw2).at_ ha1
  obtain ⟨ad', u2, hae, _, hx2, hcell2⟩ := (HRX.out w2 hbw2).at_ ha2
  obtain rfl := Option.some.inj hae
  obtain ⟨me, hme⟩ : ∃ x, l[a1]? = some x := ⟨_, List.getElem?_eq_getElem (by omega)⟩
  obtain ⟨gone, hgone⟩ : ∃ x, l[a2]? = some x := ⟨_, List.getElem?_eq_getElem (by omega)⟩
  have hu1 : u1 = .int .i64 me := by simp [hme, intV] at hx1; exact hx1.symm
  have hu2 : u2 = .int .i64 gone := by simp [hgone, intV] at hx2; exact hx2.symm
  rw [hu1] at hcell1
  rw [hu2] at hcell2
  have hmm := List.mem_of_getElem? hme
  have hgm := List.mem_of_getElem? hgone
  have m64 : In64 me := ⟨by have := hids me hmm; omega, by have := hids me hmm; omega⟩
  have hok := okN_of hv hmm
  have VV := Lib.hid (show VW w w.heap.size num l (some ad) c2 from ⟨hn, hr2, by omega, hel2, hc2⟩)
  have CN := Lib.hid (fun (W : World) (hW : Below w0.heap.size w0 W) => show Calls Tryd.prog 17 #[.agg #[.int .i64 num, .slice (some ad) l.length c2], .int .i64 me] W (OutFE W (dS num l me gone 0 0) 0) from by
    have := pNew (W := W) num me l (VV.out.below (B0.out.trans (hW.mono B0.out.size))) (B0.out.trans (hW.mono B0.out.size)).size m64 (HT.out.on (B0.out.trans (hW.mono B0.out.size)))
    rw [newS hok (gone := gone), show newErr num l me = 0 by unfold newErr; rw [hok]; rfl] at this
    exact this)
  have p2 := blk2 (Z2.out.below b12 Z2.out.lt)
  have HME := Lib.hid hmm
  have HGM := Lib.hid hgm
  have HOK := Lib.hid hok
  have HVM := Lib.hid hvm
  have HIDS := Lib.hid hids
  have HAD := Lib.hid hadb
  have HC2 := Lib.hid hc2
  obtain ⟨nl, hnl⟩ : ∃ n, n = l.length := ⟨_, rfl⟩
  have HNL := Lib.hid hnl
  have Z3 := Lib.hid (show Blk w0 w.heap.size 31 #[.int .i64 num, .slice (some ad) nl c2] by rw [hnl]; exact Z2.out)
  clear Z2
  have Z2 := Lib.hid Z3.out
  clear Z3
  rw [← hnl] at hm1 hm2 ha1 ha2 CN HRX p2 hl1 hl16
  have q1 : (a1 : Int) < (nl : Int) := by omega
  have q2 : (a2 : Int) < (nl : Int) := by omega
  have qz : ((nl : Int) == 0) = false := beqF (by omega)
  have wr1 : IntKind.i64.wrap (s1 : Int) = (s1 : Int) := IntWalk.i64_in _ (by omega)
  have wr2 : IntKind.i64.wrap (s2 : Int) = (s2 : Int) := IntWalk.i64_in _ (by omega)
  clear b1 b2 p1 KV KV1 AW AW0 hx1 hx2 hme hgone hu1 hu2 hmm hgm hok hvm hids hadb hnl he1 he2 hn hr2 hel2 hc2 VV hv hbw2 hae
  go_quiet (fail)
  have bq := below_drewN' b12
  have pq := fun n => blk2 (Z2.out.below (bq n) Z2.out.lt)
  clear p2 hcell1 hcell2
  have dS5 := Lib.hid (fun i k => dS_len (num := num) (me := me) (gone := gone) (l := l) (i := i) (k := k))
  have T1 := Lib.hid (fun i => tickS (gone := gone) HOK.out HVM.out i)
  have T2 := Lib.hid (fun i => alrS (gone := gone) HOK.out HVM.out i)
  have T3 := Lib.hid (fun i => gotS_len (num := num) (me := me) (gone := gone) (l := l) i)
  have HY := Lib.hid (fun (i k : Nat) (x : Int) (hx : l[k]? = some x) (hne : x ≠ gone) => hearS_yes (num := num) (me := me) (gone := gone) HOK.out HVM.out (i := i) hx hne)
  have HN := Lib.hid (fun (i k : Nat) (x : Int) (hx : l[k]? = some x) (he : x = gone) => hearS_no (num := num) (me := me) (gone := gone) (i := i) hx he)
  have HD0 := Lib.hid (show ∃ F : Nat → Nat → Dt, F = dS num l me gone from ⟨_, rfl⟩)
  obtain ⟨F, hF⟩ := HD0.out
  rw [← hF] at CN dS5 T1 T2 HY HN
  clear HD0 hF
  go_upto_region 7 with (go_at_call 17; (with_reducible refine (CN.out _ (bq _)).mono ?_); rintro e w3 ⟨An, cn, En, cEn, rfl, hdn, kAn, fEn, lEn, b3⟩)
  obtain ⟨c3, k3, hN, ddn⟩ := boxed (bq _) b3 hdn (boxC (F 0 0) An cn En cEn)
  have s3 := b3.size
  have N3 := Lib.hid (show One w0 (w3.alloc (.cells (boxC (F 0 0) An cn En cEn) 34)) w3.heap.size (F 0 0) An cn En cEn from ⟨c3, hN, ddn, kAn.off (Nat.le_refl _), lEn.off (Nat.le_refl _), by have := b12.size; simp at s3; omega⟩)
  have KAN := Lib.hid True.intro
  clear hdn kAn fEn lEn b3 hN ddn c3 k3 s3 pq bq CN
  dsimp only [boxC] at *
  generalize hw : w3.alloc (.cells #[.int .i64 (F 0 0).me, .int .i64 (F 0 0).num, .slice An (F 0 0).l.length cn, .slice En (F 0 0).es.length cEn] 34) = w4 at *
  have hgw : w3.heap.size < w4.heap.size := by rw [← hw]; simp
  clear hw
  generalize w3.heap.size = G at *
  have HGW := Lib.hid hgw
  clear hgw
  obtain ⟨t, htt, ht30, hmt⟩ : ∃ t : Nat, t = tk % 30 ∧ t < 30 ∧ (tk : Int).tmod 30 = (t : Int) := ⟨tk % 30, rfl, by omega, by rw [IntWalk.rem_in _ _ (by omega)]; omega⟩
  have wt8 : IntKind.u8.wrap (t : Int) = (t : Int) := by show ((t : Int) % 256) = _; omega
  have wt : IntKind.i64.wrap (t : Int) = (t : Int) := IntWalk.i64_in _ (by omega)
  clear htt
  go_upto_region 12 with fail
  clear hm1 hm2 ha1 ha2 q1 q2 wr1 wr2 hmt wt8 wt hs1 hs2 htk
  go_loopg [13, 15] t (fun gk s13 s15 wr => ∃ (i : Nat) (A : Option Addr) (c : Nat) (E : Option Addr) (cE : Nat), i + gk = t ∧ s15 = .int .i64 i ∧ Hid (One w0 wr G (F i 0) A c E cE) ∧ Hid True ∧ Hid (wr.ownsRow w4.heap.size 52 4 s13 (gotS num me gone i (newE K l me)).length (alrsC (gotS num me gone i (newE K l me)))) ∧ Hid (w4.heap.size ≤ wr.heap.size))
  case atStart => exact ⟨0, An, cn, En, cEn, by omega, rfl, N3.out, KAN.out, World.ownsRow_nil _ _ _ _, Nat.le_refl _⟩
  case round =>
    obtain ⟨i, A, c, E, cE, hig, rfl, HO, HA, HG, HS⟩ := hrel
    obtain ⟨wo, rfl⟩ : ∃ wo : World, wo = wr := ⟨_, rfl⟩
    cases gk with
    | zero =>
      have hkz : ¬ ((i : Int) < (t : Int)) := by omega
      obtain rfl : i = t := by omega
      have pz := blk2 (Z2.out.below HO.out.bel Z2.out.lt)
      have BW := Lib.hid (B0.out.trans (HO.out.bel.mono B0.out.size))
      by_cases hc : i < 10 ∨ me = gone
      · have e0 := got_none inj_K HVM.out (num := num) (t := i) hc
        rw [e0] at HG
        obtain ⟨X, cX, rfl, _, _, _⟩ := OwnA.open2 (show OwnA wo w4.heap.size u13 [] from HG.out)
        clear e0 HG
        by_cases h10 : i < 10
        · have h10i : (i : Int) < 10 := by omega
          clear hc h10
          go_wp2_with fail
          go_ret
          exact ⟨rfl, BW.out⟩
        · have h10i : ¬ (i : Int) < 10 := by omega
          have hmg : (me == gone) = true := beqT (hc.resolve_left h10)
          clear hc h10
          go_wp2_with fail
          go_ret
          exact ⟨rfl, BW.out⟩
      have h10 : 10 ≤ i := by omega
      have hne : me ≠ gone := fun e => hc (.inr e)
      have h10i : ¬ (i : Int) < 10 := by omega
      have hmg : (me == gone) = false := beqF hne
      have e0 := got_rings inj_K HVM.out (num := num) (t := i) HME.out HGM.out hne h10
      rw [e0] at HG
      have LSH := Lib.hid (shL_len (l := l) (a := me) (b := gone))
      have g64 : In64 gone := ⟨by have := HIDS.out gone HGM.out; omega, by have := HIDS.out gone HGM.out; omega⟩
      have KSH := Lib.hid (show Calls Tryd.prog 28 #[.slice (some ad) nl c2, .int .i64 me, .int .i64 gone] wo (OutI wo (shL K l me gone) (shL K l me gone).length) from by
        have hr := HRX.out wo BW.out
        rw [HNL.out] at hr ⊢
        exact (refShared_any me gone (some ad) c2 w.heap.size l wo ⟨hr, by have := HNL.out; omega, fun x hx => ⟨by have := HIDS.out x hx; omega, by have := HIDS.out x hx; omega⟩, HC2.out⟩ BW.out.size g64).mono fun _ _ h => h.to _ _ rfl rfl)
      generalize shL K l me gone = rs at *
      have HLR := Lib.hid (show (rs.map fun r => (⟨num, r, me, gone⟩ : Alr)).length = rs.length from List.length_map _)
      obtain ⟨n, hn⟩ : ∃ n, n = rs.length := ⟨_, rfl⟩
      have HNR := Lib.hid hn
      have hn5 : n ≤ 5 := by have := LSH.out; omega
      obtain ⟨X, cX, rfl, _, rX, _⟩ := OwnA.open2 (show OwnA wo w4.heap.size u13 (rs.map fun r => (⟨num, r, me, gone⟩ : Alr)) from HG.out)
      rw [HLR.out, ← hn] at rX ⊢
      rw [← hn] at KSH
      have RX := Lib.hid rX
      clear e0 HG rX hn hc hne h10 g64
      go_upto_region 28 with (go_at_call 28; (with_reducible refine KSH.out.mono ?_); rintro e w5 ⟨A5, c5, rfl, hc5, ho5, hr5, q5⟩)
      have R5 := Lib.hid hr5
      have X5 := Lib.hid ((RX.out.below q5).more q5.size)
      have BW5 := Lib.hid (BW.out.trans (q5.mono BW.out.size))
      have P5 := Lib.hid (Z2.out.below (HO.out.bel.trans (q5.mono HO.out.bel.size)) Z2.out.lt)
      clear hr5 ho5 pz q5 hc5
      go_loopg [19] n (fun gk s19 wr => ∃ (j q : Nat), j + gk = n ∧ s19 = .int .i64 j ∧ wr = w5.drewN q)
      case atStart => exact ⟨0, 0, by omega, rfl, rfl⟩
      case round =>
        obtain ⟨j, q, hjg, rfl, rfl⟩ := hrel
        cases gk with
        | zero =>
          have hjz : ¬ ((j : Int) < (n : Int)) := by omega
          go_wp2_with fail
          go_ret
          exact ⟨rfl, below_drewN' BW5.out _⟩
        | succ gk =>
          have hjz : (j : Int) < (n : Int) := by omega
          obtain ⟨r, hr⟩ : ∃ r, rs[j]? = some r := ⟨_, List.getElem?_eq_getElem (by have := HNR.out; omega)⟩
          have hra : (rs.map fun r => (⟨num, r, me, gone⟩ : Alr))[j]? = some ⟨num, r, me, gone⟩ := by rw [List.getElem?_map, hr]; rfl
          obtain ⟨xd, rfl, -, -, y0, y1, y2, y3⟩ := alr_at X5.out hra
          obtain ⟨yd, u', rfl, -, hx', hcell'⟩ := R5.out.at_ (k := j) (by omega)
          have hux : u' = .int .i64 r := by simp [hr, intV] at hx'; exact hx'.symm
          rw [hux] at hcell'
          have pv := blk2 P5.out
          have hq := neq_alr ⟨num, r, me, gone⟩ ⟨num, r, me, gone⟩
          rw [decide_eq_true rfl] at hq
          clear hr hra hx' hux
          dsimp only at *
          go_wp2_with fail
          go_quiet (fail)
          go_wp2_with fail
          go_roundg gk
          case measure => omega
          case rel => exact ⟨j + 1, _, by omega, by go_num, rfl⟩
    | succ gk =>
      have hkz : (i : Int) < (t : Int) := by omega
      go_upto_region 15 with fail
      go_loopg [16] nl (fun g2 s16 wz => ∃ (k : Nat) (A : Option Addr) (c : Nat) (E : Option Addr) (cE : Nat), k + g2 = nl ∧ s16 = .int .i64 k ∧ Hid (One w0 wz G (F i k) A c E cE) ∧ Hid True ∧ Hid (wz.ownsRow w4.heap.size 52 4 u13 (gotS num me gone i (newE K l me)).length (alrsC (gotS num me gone i (newE K l me)))) ∧ Hid (w4.heap.size ≤ wz.heap.size))
      case atStart => exact ⟨0, A, c, E, cE, by omega, rfl, HO, HA, HG, HS⟩
      case round =>
        obtain ⟨k, A3, c3, E3, cE3, hkg2, rfl, HO3, HA3, HG3, HS3⟩ := hrel
        obtain ⟨wz, rfl⟩ : ∃ wo : World, wo = wr := ⟨_, rfl⟩
        have pz := blk2 (Z2.out.below HO3.out.bel Z2.out.lt)
        have qz := blk4 HO3.out.box
        cases gk with
        | zero =>
          have hkz2 : ¬ ((k : Int) < (nl : Int)) := by omega
          have hkl : k = l.length := by have := HNL.out; omega
          rw [hkl] at HO3
          have CT := Lib.hid (show Calls Tryd.prog 19 #[.agg #[.int .i64 (F i k).me, .int .i64 (F i k).num, .slice A3 (F i k).l.length c3, .slice E3 (F i k).es.length cE3]] wz (OutFA wz (F (i + 1) 0) (F i l.length).alr) from by
            rw [hkl]
            have := pTick HO3.out.dd (HT.out.on (B0.out.trans (HO3.out.bel.mono B0.out.size)))
            rw [T1.out] at this
            exact this)
          have T2i := Lib.hid (T2.out i)
          have LA := Lib.hid (show (F i l.length).alr.length ≤ 5 from Nat.le_trans (alr_len _) (dS5.out i l.length))
          have LG := Lib.hid (T3.out i)
          clear hkl
          generalize (F i l.length).alr = al at *
          generalize hgi : gotS num me gone i (newE K l me) = gi at *
          clear hgi
          go_upto_region 21 with (go_at_call 19; (with_reducible refine CT.out.mono ?_); rintro e w7 ⟨At, ct, Et, cEt, X, cX, rfl, ddt, kAt, fEt, hcX, rX, fX, q7⟩; (have b7 := blk4 (HO3.out.box.below q7 HO3.out.lt)))
          have T7 := HO3.out.put q7 ddt (HO3.out.fresh kAt) (HO3.out.fresh fEt)
          have G7 := own_put4 (g := G) (d := F (i + 1) 0) (A := At) (c := ct) (E := Et) (cE := cEt) (own_below HG3.out q7) HGW.out
          have R7 := reads_put (g := G) (d := F (i + 1) 0) (A := At) (c := ct) (E := Et) (cE := cEt) rX (HO3.out.fresh fX)
          have S7 : w4.heap.size ≤ (put4 w7 G (F (i + 1) 0) At ct Et cEt).heap.size := by rw [put4_size]; have := q7.size; have := HS3.out; omega
          have HA7 := Lib.hid True.intro
          have hfr : ∀ b, u13.ownBlock = some b → w4.heap.size ≤ b ∧ b < wz.heap.size := fun b hb => HG3.out.lt b hb
          have hEo : ∀ b, u13.ownBlock = some b → Off Et b := fun b hb => fEt.off (hfr b hb).2
          have hAo : ∀ b, u13.ownBlock = some b → Off At b := fun b hb => kAt.off (hfr b hb).2
          have hwo : ∀ b, u13.ownBlock = some b → w0.heap.size ≤ b := fun b hb => by have := (hfr b hb).1; have := HGW.out; have := HO3.out.hg; omega
          have hGo : ∀ b, u13.ownBlock = some b → b ≠ G := fun b hb => by have := (hfr b hb).1; have := HGW.out; omega
          clear b7 q7 ddt kAt fEt CT qz pz rX fX hfr HO3 HA3 HG3 HS3 hcX
          unfold put4 at T7 G7 R7 S7
          generalize hw : (((w7.setCell ⟨G, 0, none⟩ (.int .i64 (F (i + 1) 0).me)).setCell ⟨G, 1, none⟩ (.int .i64 (F (i + 1) 0).num)).setCell ⟨G, 2, none⟩ (.slice At (F (i + 1) 0).l.length ct)).setCell ⟨G, 3, none⟩ (.slice Et (F (i + 1) 0).es.length cEt) = w8 at *
          clear hw
          have T8 := Lib.hid T7
          have G8 := Lib.hid G7
          have R8 := Lib.hid R7
          have S8 := Lib.hid S7
          have HEo := Lib.hid hEo
          have HAo := Lib.hid hAo
          have Hwo := Lib.hid hwo
          have HGo := Lib.hid hGo
          clear T7 G7 R7 S7 hEo hAo hwo hGo
          go_wp2_with (at_builtin; refine wp_append_alrs _ rfl (.tmp 87) (.tmp 88) rfl w4.heap.size _ gi al _ _ _ _ rfl G8.out rfl R8.out rfl (by have := LA.out; have := LG.out; omega) S8.out ?_; intro v9 w9 ho9 hb9 hg9)
          have T9 := Lib.hid (T8.out.grown hg9 Hwo.out HGo.out HAo.out HEo.out)
          have O9 := Lib.hid ho9
          have S9 := Lib.hid (Nat.le_trans S8.out hb9.size)
          clear ho9 hb9 hg9
          go_roundg gk
          case measure => omega
          case rel => exact ⟨i + 1, At, ct, Et, cEt, by omega, by go_num, T9.out, HA7.out, by rw [← T2i.out]; exact O9.out, S9.out⟩
        | succ g2 =>
          have hkz2 : (k : Int) < (nl : Int) := by omega
          obtain ⟨ad', u, hae, _, hx, hcell⟩ := (HRX.out wz (B0.out.trans (HO3.out.bel.mono B0.out.size))).at_ (k := k) (by omega)
          obtain rfl := Option.some.inj hae
          obtain ⟨x, hxk⟩ : ∃ x, l[k]? = some x := ⟨_, List.getElem?_eq_getElem (by have := HNL.out; omega)⟩
          have hux : u = .int .i64 x := by simp [hxk, intV] at hx; exact hx.symm
          rw [hux] at hcell
          have x64 := Lib.hid (show In64 x from ⟨by have := HIDS.out x (List.mem_of_getElem? hxk); omega, by have := HIDS.out x (List.mem_of_getElem? hxk); omega⟩)
          clear hx hux hae
          by_cases hxg : x = gone
          · have fx : (x != gone) = false := bneF hxg
            have HE := Lib.hid (HN.out i k x hxk hxg)
            clear hxg hxk
            go_wp2_with fail
            go_roundg g2
            case measure => omega
            case rel => exact ⟨k + 1, A3, c3, E3, cE3, by omega, by go_num, by rw [HE.out]; exact HO3.out, HA3.out, HG3.out, HS3.out⟩
          · have fx : (x != gone) = true := bneT hxg
            have CH := Lib.hid (show Calls Tryd.prog 24 #[.agg #[.int .i64 (F i k).me, .int .i64 (F i k).num, .slice A3 (F i k).l.length c3, .slice E3 (F i k).es.length cE3], .int .i64 x] wz.drew (OutF wz.drew (F i (k + 1))) from by
              have := pHeard x HO3.out.drew.dd x64.out (HT.out.on (B0.out.trans (HO3.out.drew.bel.mono B0.out.size)))
              rw [HY.out i k x hxk hxg] at this
              exact this)
            clear hxg hxk
            go_upto_region 18 with fail
            go_region_law (go_simp; go_at_call 24; (with_reducible refine CH.out.mono ?_); rintro e w7 ⟨At, ct, Et, cEt, rfl, ddt, kAt, fEt, q7⟩; have b7 := blk4 (HO3.out.box.drew.below q7 HO3.out.lt))
            all_goals
              have T7 := Lib.hid (HO3.out.drew.put q7 ddt (HO3.out.drew.fresh kAt) (HO3.out.drew.fresh fEt))
              have G7 := Lib.hid (own_put4 (g := G) (d := F i (k + 1)) (A := At) (c := ct) (E := Et) (cE := cEt) (own_below (show wz.drew.ownsRow _ _ _ _ _ _ from HG3.out) q7) HGW.out)
              have S7 := Lib.hid (show w4.heap.size ≤ (put4 w7 G (F i (k + 1)) At ct Et cEt).heap.size by rw [put4_size]; have h7 : wz.heap.size ≤ w7.heap.size := q7.size; have := HS3.out; omega)
              have A7 := Lib.hid True.intro
              clear b7 q7 ddt kAt fEt CH qz pz hcell
              go_wp2_with fail
              go_roundg g2
              case measure => omega
              case rel => exact ⟨k + 1, At, ct, Et, cEt, by omega, by go_num, T7.out, A7.out, G7.out, S7.out⟩
end Go.Proofs.YtihgbadglaogdaaDoor.Pb
