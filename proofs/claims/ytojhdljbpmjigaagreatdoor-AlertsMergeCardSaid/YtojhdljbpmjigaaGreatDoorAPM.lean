/- Package alerts: Merge. -/
import Derived.Test.YtojhdljbpmjigaaGreatDoorAPL
import Derived.Test.YtojhdljbpmjigaaGreatDoorARef6
namespace Go.Proofs.YtojhdljbpmjigaaGreatDoor.Al
set_option linter.unusedVariables false
set_option linter.unusedSimpArgs false
open Go.RowKit
open Go.Proofs.YtojhdljbpmjigaaGreatDoor.W
open Go.Proofs.YtojhdljbpmjigaaGreatDoor.V
open Go.Proofs.YtojhdljbpmjigaaGreatDoor.O
open Go.Proofs.YtojhdljbpmjigaaGreatDoor.Pb (Alr alrC alrsC len_alrsC alrsC_app alrsC_one alrsC_get alrsC_cell alrInfo step_append_alr reads_blk two_blk)

theorem alr_zero {w : World} {B n : Nat} {ad : Addr} {es : List Alr} {x : Alr} (h : Reads w B 4 (some ad) n (alrsC es)) (hx : es[0]? = some x) :
    w.cell? ad = some (.int .i64 x.view) ∧ w.cell? ⟨ad.block, ad.off + 1, none⟩ = some (.int .i64 x.ring) ∧ w.cell? ⟨ad.block, ad.off + 2, none⟩ = some (.int .i64 x.obs) ∧ w.cell? ⟨ad.block, ad.off + 3, none⟩ = some (.int .i64 x.subj) := by
  have := alr_at2 (k := 0) h hx
  have e : ad.add (0 * 4) = ad := by unfold Addr.add; rfl
  rw [e] at this
  exact this
set_option maxRecDepth 1000000 in
set_option maxHeartbeats 8000000 in
theorem alMerge_any (num : Int) (l : List Int) (A E F : Option Addr) (c cE cF B : Nat) (a b : List Alr) (w : World) (h : VW w B num l A c) (ha : AS w B a E cE) (hb : AS w B b F cF) (hB : B ≤ w.heap.size) (hla : a.length ≤ 1000) (hlb : b.length ≤ 1000) (ht : H.Tab w) :
    Calls Tryz.prog 6 #[.agg #[.int .i64 num, .slice A l.length c], .slice E a.length cE, .slice F b.length cF] w (OutMrg w (mrgS K num l a b) (mrgE K num l a b)) := by
  have hb0 := (Below.refl w.heap.size w).alloc (Nat.le_refl _) (.cells #[.int .i64 num, .slice A l.length c] 24)
  have hz := Blk.new w 24 #[.int .i64 num, .slice A l.length c]
  have KV := Lib.hid (fun W (hW : Below w.heap.size w W) => alValid_any num l A E c cE w.heap.size a W ((h.more hB).below hW) ((ha.more hB).below hW) hW.size (ht.on hW))
  have KU := Lib.hid (fun W (hW : Below w.heap.size w W) => alValid_any num l A F c cF w.heap.size b W ((h.more hB).below hW) ((hb.more hB).below hW) hW.size (ht.on hW))
  have RA := Lib.hid (fun W (hW : Below w.heap.size w W) => ((ha.more hB).below hW).rd)
  have RB := Lib.hid ((hb.more hB).rd)
  have capE := ha.cap
  have capF := hb.cap
  have EM := Lib.hid (El.merge ha.el hb.el)
  have LM := Lib.hid (show (mergeA a b).length ≤ 1099511627776 by have := (merge_len (a := a) (b := b)).2; omega)
  have N1 := Lib.hid (fun h w' e he hb => outMrg_no (w := w) (w' := w') (e := e) (num := num) (l := l) (a := a) (b := b) h he hb)
  have Y1 := Lib.hid (fun h X cX w' e he ho hb => outMrg_yes (w := w) (w' := w') (e := e) (X := X) (cX := cX) (num := num) (l := l) (a := a) (b := b) h he ho hb)
  obtain ⟨Q, hQ⟩ : ∃ Q, Q = OutMrg w (mrgS K num l a b) (mrgE K num l a b) := ⟨_, rfl⟩
  rw [← hQ] at N1 Y1 ⊢
  clear hQ
  obtain ⟨n, hn⟩ : ∃ n, n = l.length := ⟨_, rfl⟩
  obtain ⟨na, hna⟩ : ∃ m, m = a.length := ⟨_, rfl⟩
  obtain ⟨nb, hnb⟩ : ∃ m, m = b.length := ⟨_, rfl⟩
  have HNA := Lib.hid hna
  have HNB := Lib.hid hnb
  rw [← hn] at hb0 hz KV KU ⊢
  rw [← hna] at KV RA hla capE ⊢
  rw [← hnb] at KU RB hlb capF ⊢
  have B0 := Lib.hid hb0
  have Z1 := Lib.hid hz
  clear hb0 hz hn hna hnb h ha hb
  go_enter Tryz.func6, Tryz.ntmps6
  go_upto_region 1 with fail
  generalize w.alloc (.cells #[.int .i64 num, .slice A n c] 24) = w0 at *
  have FB := Lib.hid (fun W (hW : Below w0.heap.size w0 W) => (blk2 (Z1.out.below hW Z1.out.lt)))
  have p0 := FB.out _ (Below.refl _ _)
  cases hv : okS K num l a
  · have HN := Lib.hid (N1.out (by rw [hv]; rfl))
    rw [hv] at KV
    clear N1 Y1 hv
    go_wp2_with (go_at_call 16; (with_reducible refine (KV.out _ B0.out).mono ?_); rintro e w1 ⟨rfl, b1⟩)
    exact HN.out _ _ rfl (B0.out.trans (b1.mono B0.out.size))
  cases hu : okS K num l b
  · have HN := Lib.hid (N1.out (by rw [hv, hu]; rfl))
    rw [hv] at KV
    rw [hu] at KU
    clear N1 Y1 hv hu
    go_wp2_with (first
      | (go_at_call 16; (with_reducible refine (KV.out _ B0.out).mono ?_); rintro e w1 ⟨rfl, b1⟩; (have p1 := FB.out _ b1))
      | (go_at_call 16; (with_reducible refine (KU.out _ (B0.out.trans (b1.mono B0.out.size))).mono ?_); rintro e w2 ⟨rfl, b2⟩)
      | fail)
    exact HN.out _ _ rfl (B0.out.trans ((W.bstep b1 b2).mono B0.out.size))
  have HY := Lib.hid (Y1.out (by rw [hv, hu]; rfl))
  have OA := Lib.hid hv
  have OB := Lib.hid hu
  have HMD := Lib.hid (fun (U : List Alr) (k j : Nat) (hmi : MI a b U k j) (hk : a.length ≤ k) => hmi.done OA.out OB.out hk)
  have AA := Lib.hid (okS_iff.1 hv).2.2
  have AB := Lib.hid (okS_iff.1 hu).2.2
  have LN := Lib.hid (fun (x y : Alr) (hx : x ∈ a) (hy : y ∈ b) => less_ne (x := x) (y := y) ((okS_iff.1 OA.out).2.1 x hx) ((okS_iff.1 OB.out).2.1 y hy))
  rw [hv] at KV
  rw [hu] at KU
  clear N1 Y1 hv hu OA OB
  have hs0 := slice_hmA (k := 0) (ki := 0) E capE (Nat.zero_le _) rfl
  go_upto_region 5 with (first
    | (go_at_call 16; (with_reducible refine (KV.out _ B0.out).mono ?_); rintro e w1 ⟨rfl, b1⟩; (have p1 := FB.out _ b1))
    | (go_at_call 16; (with_reducible refine (KU.out _ (B0.out.trans (b1.mono B0.out.size))).mono ?_); rintro e w2 ⟨rfl, b2⟩)
    | fail)
  have W2 := Lib.hid (B0.out.trans ((W.bstep b1 b2).mono B0.out.size))
  clear p0 p1 b1 b2 KV KU FB Z1 B0 hs0
  go_loopg [2, 8, 10, 25] na (fun gk s2 s8 _ s25 wr => ∃ (k j m2 c2 : Nat) (B2 : Option Addr) (U : List Alr), k + gk = na ∧ s25 = .int .i64 k ∧ s2 = .slice B2 m2 c2 ∧ m2 ≤ c2 ∧ Hid (m2 + j = nb) ∧ Hid (Reads w w.heap.size 4 B2 m2 (alrsC (b.drop j))) ∧ Hid (UN wr w.heap.size s8 U) ∧ Hid (Below w.heap.size w wr) ∧ Hid (MI a b U k j) ∧ Hid (0 < na → ∀ g, s8.ownBlock = some g → g < wr.heap.size))
  case atStart => exact ⟨0, 0, nb, cF, F, [], by omega, rfl, rfl, capF, (show nb + 0 = nb by omega), RB.out, .inr ⟨rfl, E, rfl⟩, W2.out, MI.zero, (fun h0 g hg => by
    obtain ⟨ad, h1, h2, _⟩ := (RA.out _ W2.out).2 h0
    rw [h1] at hg
    have h3 : ad.block = g := Option.some.inj hg
    have := W2.out.size
    omega)⟩
  case round =>
    obtain ⟨k, j, m2, c2, B2, U, hkg, rfl, rfl, hmc, HJ, HR2, HU, HWR, HMI, HOB⟩ := hrel
    cases gk with
    | zero =>
      have hkz : ¬ ((k : Int) < (na : Int)) := by omega
      have HE := Lib.hid (HMD.out U k j HMI.out (by have := HNA.out; omega))
      have LU := Lib.hid (show U.length ≤ 2000 by have := HMI.out.len; have := HJ.out; omega)
      have LD := Lib.hid (show (b.drop j).length = m2 by rw [List.length_drop]; have := HJ.out; have := HNB.out; omega)
      have hm2 : m2 ≤ 1000 := by have := HJ.out; omega
      go_wp2_with (first
        | (at_builtin; refine wp_append_un _ rfl (.tmp 64) (.tmp 65) rfl w.heap.size _ U (b.drop j) _ m2 c2 B2 rfl HU.out rfl (HR2.out.below HWR.out) LD.out (by have := LU.out; omega) HWR.out.size ?_; intro v7 w7 hu7 hb7 hk7)
        | fail)
      rw [HE.out] at hu7
      obtain ⟨A7, c7, rfl, as7⟩ := hu7.out LM.out EM.out
      exact HY.out _ _ _ _ rfl as7 (HWR.out.trans hb7)
    | succ gi =>
      obtain ⟨wx, rfl⟩ : ∃ wx : World, wx = wr := ⟨_, rfl⟩
      have hkz : (k : Int) < (na : Int) := by omega
      obtain ⟨x, hx⟩ : ∃ x, a[k]? = some x := ⟨_, List.getElem?_eq_getElem (by have := HNA.out; omega)⟩
      obtain ⟨ad, rfl, -, -, y0, y1, y2, y3⟩ := alr_at (RA.out wx HWR.out) hx
      have HX := Lib.hid hx
      have hws := HWR.out.size
      have hzx := Blk.new wx 38 #[.int .i64 x.view, .int .i64 x.ring, .int .i64 x.obs, .int .i64 x.subj]
      have hbx := (Below.refl wx.heap.size wx).alloc (Nat.le_refl _) (.cells #[.int .i64 x.view, .int .i64 x.ring, .int .i64 x.obs, .int .i64 x.subj] 38)
      have hux := HU.out.on hbx
      clear hx
      go_wp2_with fail
      generalize wx.alloc (.cells #[.int .i64 x.view, .int .i64 x.ring, .int .i64 x.obs, .int .i64 x.subj] 38) = w5 at *
      have B5 := Lib.hid hbx
      have Z5 := Lib.hid hzx
      have W5 := Lib.hid (below2 HWR.out hbx)
      have hna0 : 0 < na := by omega
      have HO5 := Lib.hid (fun g (hg : u8.ownBlock = some g) => HOB.out hna0 g hg)
      have HUX := Lib.hid hux
      clear hbx hzx hux y0 y1 y2 y3 hws
      have HEND := Lib.hid (fun (U' : List Alr) (j' : Nat) (hq : MI a b U' k j') (q : b[j']? = some x) => MI.same hq AA.out AB.out HX.out q)
      have HENT := Lib.hid (fun (U' : List Alr) (j' : Nat) (hq : MI a b U' k j') (q : ∀ y, b[j']? = some y → lessA x y = true) => MI.takes hq AA.out AB.out HX.out q)
      have HINN := Lib.hid (fun (U' : List Alr) (j' : Nat) (y : Alr) (hq : MI a b U' k j') (q : b[j']? = some y) (q2 : lessA y x = true) => MI.inner hq AA.out AB.out HX.out q q2)
      go_loopg [2, 8] m2 (fun gj s2 s8 wi => ∃ (j' m3 c3 : Nat) (B3 : Option Addr) (U' : List Alr), m3 = gj ∧ s2 = .slice B3 m3 c3 ∧ m3 ≤ c3 ∧ Hid (m3 + j' = nb) ∧ Hid (Reads w w.heap.size 4 B3 m3 (alrsC (b.drop j'))) ∧ Hid (UN wi w.heap.size s8 U') ∧ Hid (Below w.heap.size w wi) ∧ Hid (MI a b U' k j') ∧ Hid (Blk wi wx.heap.size 38 #[.int .i64 x.view, .int .i64 x.ring, .int .i64 x.obs, .int .i64 x.subj]) ∧ Hid (s8.ownBlock ≠ some wx.heap.size) ∧ Hid (∀ g, s8.ownBlock = some g → g < wi.heap.size))
      case atStart => exact ⟨j, m2, c2, B2, U, rfl, rfl, hmc, HJ.out, HR2.out, HUX.out, W5.out, HMI.out, Z5.out, (fun h => by have := HO5.out _ h; omega), (fun g hg => by have := HO5.out _ hg; have := B5.out.size; omega)⟩
      case round =>
        clear HMI HUX HR2 HJ hmc
        obtain ⟨j', m3, c3, B3, U', hmg, rfl, hmc3, HJ3, HR3, HU3, HW, HM3, HZ, HNE, HLT⟩ := hrel
        have hWI := HW.out
        have HXB := Lib.hid (fun W (hW : Below wr.heap.size wr W) => blk4 (HZ.out.below hW HZ.out.lt))
        have hgx := HZ.out.lt
        have LU := Lib.hid (show U'.length ≤ 2000 by have := HM3.out.len; have := HJ3.out; omega)
        rcases Nat.eq_zero_or_pos m3 with h0 | h0
        · have hd : decide (0 < m3) = false := by simp; omega
          have HNX := Lib.hid (HENT.out U' j' HM3.out fun y hy => by
            have := (List.getElem?_eq_some_iff.1 hy).1
            have := HJ3.out
            have := HNB.out
            omega)
          clear h0 hmg
          go_wp2_with fail
          go_quiet (fail)
          go_wp2_with fail
          generalize hV1 : wr.drewN nq = V1 at *
          have bV1 : Below wr.heap.size wr V1 := by rw [← hV1]; exact below_drewN' (Below.refl _ _) _
          clear hV1
          go_quiet (fail)
          go_upto_region 12 with fail
          generalize hV2 : V1.drewN nq = V2 at *
          have bV2 : Below V1.heap.size V1 V2 := by rw [← hV2]; exact below_drewN' (Below.refl _ _) _
          clear hV2
          have V2W := Lib.hid (below2 (below2 hWI bV1) bV2)
          have hv2 := V2W.out.size
          have hvz := Below.size (below2 bV1 bV2)
          have px := HXB.out V2 (below2 bV1 bV2)
          have HU4 := Lib.hid (UN.on (UN.on HU3.out bV1) bV2)
          go_wp2_with (first
            | (at_builtin; go_loud (refine wp_append_un1 _ rfl (.tmp 59) (.tmp 61) rfl w.heap.size _ U' x _ _ _ rfl (HU4.out.on ((Below.refl _ _).alloc (Nat.le_refl _) _)) rfl (reads_blk _ _ _) (by have := LU.out; omega) (by simp; omega) ?_; intro v9 w9 hu9 hb9 hk9))
            | fail)
          go_roundg gi
          case measure => omega
          case rel => exact ⟨k + 1, j', m3, c3, B3, U' ++ [x], by omega, by go_num, rfl, hmc3, HJ3.out, HR3.out, hu9, (V2W.out.alloc hv2 _).trans hb9, HNX.out, fun _ => hk9.k3 fun g hg => by have := HLT.out g hg; simp; omega⟩
        · obtain ⟨bd, rfl, _⟩ := HR3.out.2 h0
          have hd : decide (0 < m3) = true := by simp; omega
          obtain ⟨y, hy⟩ : ∃ y, b[j']? = some y := ⟨_, List.getElem?_eq_getElem (by have := HJ3.out; have := HNB.out; omega)⟩
          have hy0 : (b.drop j')[0]? = some y := by rw [List.getElem?_drop]; exact hy
          have HY0 := Lib.hid hy0
          have HYJ := Lib.hid hy
          have HY1 := Lib.hid (fun W (hW : Below wr.heap.size wr W) => alr_zero (HR3.out.below (below2 hWI hW)) HY0.out)
          have KL := Lib.hid (fun W => alLess_any y x W)
          have LD := Lib.hid (show (b.drop j').length = m3 by rw [List.length_drop]; have := HJ3.out; have := HNB.out; omega)
          obtain ⟨B4, hs4, hr4⟩ := slice_fromA (n := m3) (c := c3) (k := 1) (ki := 1) HR3.out LD.out hmc3 h0 rfl
          rw [List.drop_drop] at hr4
          have HR4 := Lib.hid hr4
          have HJ4 := Lib.hid (show (m3 - 1) + (j' + 1) = nb by have := HJ3.out; omega)
          have hmc4 : m3 - 1 ≤ c3 - 1 := by omega
          have hm4 : m3 - 1 < m3 := by omega
          generalize m3 - 1 = m4 at *
          generalize c3 - 1 = c4 at *
          subst hmg
          clear hy hy0 hr4 LD
          dsimp only [alrV] at KL
          cases hle : lessA y x
          · rw [hle] at KL
            have HLE := Lib.hid hle
            clear hle
            go_wp2_with fail
            refine wp_region_held_drew (S := (fun wx => Below wr.heap.size wr wx)) (by kernel_rfl) ?_ (fun hHeld => ?_)
            · exact (Below.refl _ _).drew
            refine wpAnyH_take (i := 0) (v := ?_) (by first | (simp only [List.getElem?_toArray, List.getElem?_cons_succ, List.getElem?_cons_zero]; done) | (simp only [List.getElem?_toArray, List.getElem?_cons_succ, List.getElem?_cons_zero]; rfl)) (by kernel_rfl) (by kernel_rfl) (by kernel_rfl) (by exact fun _ _ _ h => h) (Or.inl ⟨by rfl, ?_⟩) hHeld ?_
            rotate_left 1
            · intro wq hSw
              go_simp
              all_goals with_reducible rfl
            try simp only [Act.put, List.setIfInBounds_toArray, List.set_cons_zero, List.set_cons_succ]
            refine wpAnyH_take (i := 1) (v := ?_) (by first | (simp only [List.getElem?_toArray, List.getElem?_cons_succ, List.getElem?_cons_zero]; done) | (simp only [List.getElem?_toArray, List.getElem?_cons_succ, List.getElem?_cons_zero]; rfl)) (by kernel_rfl) (by kernel_rfl) (by kernel_rfl) (by exact fun _ _ _ h => h) (Or.inl ⟨by rfl, ?_⟩) hHeld ?_
            rotate_left 1
            · intro wq hSw
              go_simp
              all_goals with_reducible rfl
            try simp only [Act.put, List.setIfInBounds_toArray, List.set_cons_zero, List.set_cons_succ]
            refine wpAnyH_take (i := 2) (v := ?_) (by first | (simp only [List.getElem?_toArray, List.getElem?_cons_succ, List.getElem?_cons_zero]; done) | (simp only [List.getElem?_toArray, List.getElem?_cons_succ, List.getElem?_cons_zero]; rfl)) (by kernel_rfl) (by kernel_rfl) (by kernel_rfl) (by exact fun _ _ _ h => h) (Or.inl ⟨by rfl, ?_⟩) hHeld ?_
            rotate_left 1
            · intro wq hSw
              go_simp
              all_goals with_reducible rfl
            try simp only [Act.put, List.setIfInBounds_toArray, List.set_cons_zero, List.set_cons_succ]
            refine wpAnyH_take (i := 3) (v := ?_) (by first | (simp only [List.getElem?_toArray, List.getElem?_cons_succ, List.getElem?_cons_zero]; done) | (simp only [List.getElem?_toArray, List.getElem?_cons_succ, List.getElem?_cons_zero]; rfl)) (by kernel_rfl) (by kernel_rfl) (by kernel_rfl) (by exact fun _ _ _ h => h) (Or.inl ⟨by rfl, ?_⟩) hHeld ?_
            rotate_left 1
            · intro wq hSw
              go_simp
              all_goals with_reducible rfl
            try simp only [Act.put, List.setIfInBounds_toArray, List.set_cons_zero, List.set_cons_succ]
            refine wpAnyH_take (i := 4) (v := ?_) (by first | (simp only [List.getElem?_toArray, List.getElem?_cons_succ, List.getElem?_cons_zero]; done) | (simp only [List.getElem?_toArray, List.getElem?_cons_succ, List.getElem?_cons_zero]; rfl)) (by kernel_rfl) (by kernel_rfl) (by kernel_rfl) (by exact fun _ _ _ h => h) (Or.inl ⟨by rfl, ?_⟩) hHeld ?_
            rotate_left 1
            · intro wq hSw
              go_simp
              all_goals with_reducible rfl
            try simp only [Act.put, List.setIfInBounds_toArray, List.set_cons_zero, List.set_cons_succ]
            refine wpAnyH_take (i := 5) (v := ?_) (by first | (simp only [List.getElem?_toArray, List.getElem?_cons_succ, List.getElem?_cons_zero]; done) | (simp only [List.getElem?_toArray, List.getElem?_cons_succ, List.getElem?_cons_zero]; rfl)) (by kernel_rfl) (by kernel_rfl) (by kernel_rfl) (by exact fun _ _ _ h => h) (Or.inl ⟨by rfl, ?_⟩) hHeld ?_
            rotate_left 1
            · intro wq hSw
              go_simp
              all_goals with_reducible rfl
            try simp only [Act.put, List.setIfInBounds_toArray, List.set_cons_zero, List.set_cons_succ]
            refine wpAnyH_take (i := 6) (v := ?_) (by first | (simp only [List.getElem?_toArray, List.getElem?_cons_succ, List.getElem?_cons_zero]; done) | (simp only [List.getElem?_toArray, List.getElem?_cons_succ, List.getElem?_cons_zero]; rfl)) (by kernel_rfl) (by kernel_rfl) (by kernel_rfl) (by exact fun _ _ _ h => h) (Or.inl ⟨by rfl, ?_⟩) hHeld ?_
            rotate_left 1
            · intro wq hSw
              obtain ⟨f0, f1, f2, f3⟩ := HY1.out _ hSw
              go_simp
              all_goals with_reducible rfl
            try simp only [Act.put, List.setIfInBounds_toArray, List.set_cons_zero, List.set_cons_succ]
            refine wpAnyH_take (i := 7) (v := ?_) (by first | (simp only [List.getElem?_toArray, List.getElem?_cons_succ, List.getElem?_cons_zero]; done) | (simp only [List.getElem?_toArray, List.getElem?_cons_succ, List.getElem?_cons_zero]; rfl)) (by kernel_rfl) (by kernel_rfl) (by kernel_rfl) (by exact fun _ _ _ h => h) (Or.inl ⟨by rfl, ?_⟩) hHeld ?_
            rotate_left 1
            · intro wq hSw
              obtain ⟨g0, g1, g2, g3⟩ := HXB.out _ hSw
              go_simp
              all_goals with_reducible rfl
            try simp only [Act.put, List.setIfInBounds_toArray, List.set_cons_zero, List.set_cons_succ]
            refine wpAnyH_ready (rs := [8]) (by kernel_rfl) (by simp) ?_
            refine AllReadyH.cons (by first | (simp only [List.getElem?_toArray, List.getElem?_cons_succ, List.getElem?_cons_zero]; done) | (simp only [List.getElem?_toArray, List.getElem?_cons_succ, List.getElem?_cons_zero]; rfl)) (fun K hK => ?_) AllReadyH.nil
            go_simp
            go_at_call 17
            with_reducible refine (KL.out _).mono ?_
            rintro e v1 ⟨rfl, q8⟩
            have hq8 := below2 hHeld q8
            go_wp2_with fail
            refine hK.out _ _ ?_ (fun hHeld => ?_)
            · exact hq8
            clear hK K
            try simp only [Act.put, List.setIfInBounds_toArray, List.set_cons_zero, List.set_cons_succ]
            refine wpAnyH_take (i := 9) (v := ?_) (by first | (simp only [List.getElem?_toArray, List.getElem?_cons_succ, List.getElem?_cons_zero]; done) | (simp only [List.getElem?_toArray, List.getElem?_cons_succ, List.getElem?_cons_zero]; rfl)) (by kernel_rfl) (by kernel_rfl) (by kernel_rfl) (by exact fun _ _ _ h => h) (Or.inl ⟨by rfl, ?_⟩) hHeld ?_
            rotate_left 1
            · intro wq hSw
              go_simp
              all_goals with_reducible rfl
            try simp only [Act.put, List.setIfInBounds_toArray, List.set_cons_zero, List.set_cons_succ]
            refine wpAnyH_done (by kernel_rfl) ?_ _
            go_wp2_with fail
            have py := HY1.out v1 hHeld
            have px0 := HXB.out v1 hHeld
            have QE := eql_alr y x
            by_cases hyx : y = x
            · have HNX := Lib.hid (HEND.out U' j' HM3.out (by rw [← hyx]; exact HYJ.out))
              rw [decide_eq_true hyx] at QE
              clear hyx HEND HENT HINN
              go_quiet (fail)
              go_upto_region 12 with fail
              generalize hV2 : v1.drewN nq = V2 at *
              clear px0 py
              have bV2 : Below v1.heap.size v1 V2 := by rw [← hV2]; exact below_drewN' (Below.refl _ _) _
              clear hV2
              have V2W := Lib.hid (below2 (below2 hWI hHeld) bV2)
              have hv2 := V2W.out.size
              have hvz := Below.size (below2 hHeld bV2)
              have px := HXB.out V2 (below2 hHeld bV2)
              have HU4 := Lib.hid (UN.on (UN.on HU3.out hHeld) bV2)
              go_wp2_with (first
                | (at_builtin; go_loud (refine wp_append_un1 _ rfl (.tmp 59) (.tmp 61) rfl w.heap.size _ U' x _ _ _ rfl (HU4.out.on ((Below.refl _ _).alloc (Nat.le_refl _) _)) rfl (reads_blk _ _ _) (by have := LU.out; omega) (by simp; omega) ?_; intro v9 w9 hu9 hb9 hk9))
                | fail)
              go_roundg gi
              case measure => omega
              case rel => exact ⟨k + 1, j' + 1, m4, c4, B4, U' ++ [x], by omega, by go_num, rfl, hmc4, HJ4.out, HR4.out, hu9, (V2W.out.alloc hv2 _).trans hb9, HNX.out, fun _ => hk9.k3 fun g hg => by have := HLT.out g hg; simp; omega⟩
            · have HNX := Lib.hid (HENT.out U' j' HM3.out fun y' hy' => by
                have h1 := HYJ.out
                rw [hy'] at h1
                cases h1
                exact LN.out x y (List.mem_of_getElem? HX.out) (List.mem_of_getElem? HYJ.out) HLE.out hyx)
              rw [decide_eq_false hyx] at QE
              clear hyx HEND HENT HINN
              go_quiet (fail)
              go_upto_region 12 with fail
              generalize hV2 : v1.drewN nq = V2 at *
              clear px0 py
              have bV2 : Below v1.heap.size v1 V2 := by rw [← hV2]; exact below_drewN' (Below.refl _ _) _
              clear hV2
              have V2W := Lib.hid (below2 (below2 hWI hHeld) bV2)
              have hv2 := V2W.out.size
              have hvz := Below.size (below2 hHeld bV2)
              have px := HXB.out V2 (below2 hHeld bV2)
              have HU4 := Lib.hid (UN.on (UN.on HU3.out hHeld) bV2)
              go_wp2_with (first
                | (at_builtin; go_loud (refine wp_append_un1 _ rfl (.tmp 59) (.tmp 61) rfl w.heap.size _ U' x _ _ _ rfl (HU4.out.on ((Below.refl _ _).alloc (Nat.le_refl _) _)) rfl (reads_blk _ _ _) (by have := LU.out; omega) (by simp; omega) ?_; intro v9 w9 hu9 hb9 hk9))
                | fail)
              go_roundg gi
              case measure => omega
              case rel => exact ⟨k + 1, j', m3, c3, some bd, U' ++ [x], by omega, by go_num, rfl, hmc3, HJ3.out, HR3.out, hu9, (V2W.out.alloc hv2 _).trans hb9, HNX.out, fun _ => hk9.k3 fun g hg => by have := HLT.out g hg; simp; omega⟩
          · rw [hle] at KL
            have HNX := Lib.hid (HINN.out U' j' y HM3.out HYJ.out hle)
            clear hle HEND HENT HINN
            go_wp2_with fail
            refine wp_region_held_drew (S := (fun wx => Below wr.heap.size wr wx)) (by kernel_rfl) ?_ (fun hHeld => ?_)
            · exact (Below.refl _ _).drew
            refine wpAnyH_take (i := 0) (v := ?_) (by first | (simp only [List.getElem?_toArray, List.getElem?_cons_succ, List.getElem?_cons_zero]; done) | (simp only [List.getElem?_toArray, List.getElem?_cons_succ, List.getElem?_cons_zero]; rfl)) (by kernel_rfl) (by kernel_rfl) (by kernel_rfl) (by exact fun _ _ _ h => h) (Or.inl ⟨by rfl, ?_⟩) hHeld ?_
            rotate_left 1
            · intro wq hSw
              go_simp
              all_goals with_reducible rfl
            try simp only [Act.put, List.setIfInBounds_toArray, List.set_cons_zero, List.set_cons_succ]
            refine wpAnyH_take (i := 1) (v := ?_) (by first | (simp only [List.getElem?_toArray, List.getElem?_cons_succ, List.getElem?_cons_zero]; done) | (simp only [List.getElem?_toArray, List.getElem?_cons_succ, List.getElem?_cons_zero]; rfl)) (by kernel_rfl) (by kernel_rfl) (by kernel_rfl) (by exact fun _ _ _ h => h) (Or.inl ⟨by rfl, ?_⟩) hHeld ?_
            rotate_left 1
            · intro wq hSw
              go_simp
              all_goals with_reducible rfl
            try simp only [Act.put, List.setIfInBounds_toArray, List.set_cons_zero, List.set_cons_succ]
            refine wpAnyH_take (i := 2) (v := ?_) (by first | (simp only [List.getElem?_toArray, List.getElem?_cons_succ, List.getElem?_cons_zero]; done) | (simp only [List.getElem?_toArray, List.getElem?_cons_succ, List.getElem?_cons_zero]; rfl)) (by kernel_rfl) (by kernel_rfl) (by kernel_rfl) (by exact fun _ _ _ h => h) (Or.inl ⟨by rfl, ?_⟩) hHeld ?_
            rotate_left 1
            · intro wq hSw
              go_simp
              all_goals with_reducible rfl
            try simp only [Act.put, List.setIfInBounds_toArray, List.set_cons_zero, List.set_cons_succ]
            refine wpAnyH_take (i := 3) (v := ?_) (by first | (simp only [List.getElem?_toArray, List.getElem?_cons_succ, List.getElem?_cons_zero]; done) | (simp only [List.getElem?_toArray, List.getElem?_cons_succ, List.getElem?_cons_zero]; rfl)) (by kernel_rfl) (by kernel_rfl) (by kernel_rfl) (by exact fun _ _ _ h => h) (Or.inl ⟨by rfl, ?_⟩) hHeld ?_
            rotate_left 1
            · intro wq hSw
              go_simp
              all_goals with_reducible rfl
            try simp only [Act.put, List.setIfInBounds_toArray, List.set_cons_zero, List.set_cons_succ]
            refine wpAnyH_take (i := 4) (v := ?_) (by first | (simp only [List.getElem?_toArray, List.getElem?_cons_succ, List.getElem?_cons_zero]; done) | (simp only [List.getElem?_toArray, List.getElem?_cons_succ, List.getElem?_cons_zero]; rfl)) (by kernel_rfl) (by kernel_rfl) (by kernel_rfl) (by exact fun _ _ _ h => h) (Or.inl ⟨by rfl, ?_⟩) hHeld ?_
            rotate_left 1
            · intro wq hSw
              go_simp
              all_goals with_reducible rfl
            try simp only [Act.put, List.setIfInBounds_toArray, List.set_cons_zero, List.set_cons_succ]
            refine wpAnyH_take (i := 5) (v := ?_) (by first | (simp only [List.getElem?_toArray, List.getElem?_cons_succ, List.getElem?_cons_zero]; done) | (simp only [List.getElem?_toArray, List.getElem?_cons_succ, List.getElem?_cons_zero]; rfl)) (by kernel_rfl) (by kernel_rfl) (by kernel_rfl) (by exact fun _ _ _ h => h) (Or.inl ⟨by rfl, ?_⟩) hHeld ?_
            rotate_left 1
            · intro wq hSw
              go_simp
              all_goals with_reducible rfl
            try simp only [Act.put, List.setIfInBounds_toArray, List.set_cons_zero, List.set_cons_succ]
            refine wpAnyH_take (i := 6) (v := ?_) (by first | (simp only [List.getElem?_toArray, List.getElem?_cons_succ, List.getElem?_cons_zero]; done) | (simp only [List.getElem?_toArray, List.getElem?_cons_succ, List.getElem?_cons_zero]; rfl)) (by kernel_rfl) (by kernel_rfl) (by kernel_rfl) (by exact fun _ _ _ h => h) (Or.inl ⟨by rfl, ?_⟩) hHeld ?_
            rotate_left 1
            · intro wq hSw
              obtain ⟨f0, f1, f2, f3⟩ := HY1.out _ hSw
              go_simp
              all_goals with_reducible rfl
            try simp only [Act.put, List.setIfInBounds_toArray, List.set_cons_zero, List.set_cons_succ]
            refine wpAnyH_take (i := 7) (v := ?_) (by first | (simp only [List.getElem?_toArray, List.getElem?_cons_succ, List.getElem?_cons_zero]; done) | (simp only [List.getElem?_toArray, List.getElem?_cons_succ, List.getElem?_cons_zero]; rfl)) (by kernel_rfl) (by kernel_rfl) (by kernel_rfl) (by exact fun _ _ _ h => h) (Or.inl ⟨by rfl, ?_⟩) hHeld ?_
            rotate_left 1
            · intro wq hSw
              obtain ⟨g0, g1, g2, g3⟩ := HXB.out _ hSw
              go_simp
              all_goals with_reducible rfl
            try simp only [Act.put, List.setIfInBounds_toArray, List.set_cons_zero, List.set_cons_succ]
            refine wpAnyH_ready (rs := [8]) (by kernel_rfl) (by simp) ?_
            refine AllReadyH.cons (by first | (simp only [List.getElem?_toArray, List.getElem?_cons_succ, List.getElem?_cons_zero]; done) | (simp only [List.getElem?_toArray, List.getElem?_cons_succ, List.getElem?_cons_zero]; rfl)) (fun K hK => ?_) AllReadyH.nil
            go_simp
            go_at_call 17
            with_reducible refine (KL.out _).mono ?_
            rintro e v1 ⟨rfl, q8⟩
            have hq8 := below2 hHeld q8
            go_wp2_with fail
            refine hK.out _ _ ?_ (fun hHeld => ?_)
            · exact hq8
            clear hK K
            try simp only [Act.put, List.setIfInBounds_toArray, List.set_cons_zero, List.set_cons_succ]
            refine wpAnyH_take (i := 9) (v := ?_) (by first | (simp only [List.getElem?_toArray, List.getElem?_cons_succ, List.getElem?_cons_zero]; done) | (simp only [List.getElem?_toArray, List.getElem?_cons_succ, List.getElem?_cons_zero]; rfl)) (by kernel_rfl) (by kernel_rfl) (by kernel_rfl) (by exact fun _ _ _ h => h) (Or.inl ⟨by rfl, ?_⟩) hHeld ?_
            rotate_left 1
            · intro wq hSw
              go_simp
              all_goals with_reducible rfl
            try simp only [Act.put, List.setIfInBounds_toArray, List.set_cons_zero, List.set_cons_succ]
            refine wpAnyH_done (by kernel_rfl) ?_ _
            have py := HY1.out v1 hHeld
            have W1 := Lib.hid (below2 hWI hHeld)
            have hv1 := W1.out.size
            have HU4 := Lib.hid (UN.on HU3.out hHeld)
            go_wp2_with (first
              | (at_builtin; go_loud (refine wp_append_un1 _ rfl (.tmp 39) (.tmp 43) rfl w.heap.size _ U' y _ _ _ rfl (HU4.out.on ((Below.refl _ _).alloc (Nat.le_refl _) _)) rfl (reads_blk _ _ _) (by have := LU.out; omega) (by simp; omega) ?_; intro v9 w9 hu9 hb9 hk9))
              | fail)
            go_roundg m4
            case measure => omega
            case rel => exact ⟨j' + 1, m4, c4, B4, U' ++ [y], rfl, rfl, hmc4, HJ4.out, HR4.out, hu9, (W1.out.alloc hv1 _).trans hb9, HNX.out, hk9.k1 _ _ _ ((HZ.out.below hHeld hgx).alloc _) HNE.out, (fun h => by
              rcases hk9.k2 _ h with h1 | h1
              · exact HNE.out h1
              · have := hHeld.size; simp at h1; omega), (fun g hg => hk9.k3 (fun g hg => by have := HLT.out g hg; have := hHeld.size; simp; omega) g hg)⟩
end Go.Proofs.YtojhdljbpmjigaaGreatDoor.Al
