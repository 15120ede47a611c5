/- Layer 7: the walk of CutCrash. -/
import Derived.Test.YtipipjbpjpdcbaaDoorCCrash0
namespace Go.Proofs.YtipipjbpjpdcbaaDoor.Ct
set_option linter.unusedVariables false
set_option linter.unusedSimpArgs false
open Go.RowKit
open Go.Proofs.YtipipjbpjpdcbaaDoor.W
open Go.Proofs.YtipipjbpjpdcbaaDoor.V
open Go.Proofs.YtipipjbpjpdcbaaDoor.O
open Go.Proofs.YtipipjbpjpdcbaaDoor.Pb (Alr alrC alrsC len_alrsC step_append_alr reads_blk)
open Go.Proofs.YtipipjbpjpdcbaaDoor.Al

set_option maxRecDepth 1000000 in
set_option maxHeartbeats 16000000 in
theorem lawCrash_of (C : CutC) (num : Int) (l : List Int) (A : Option Addr) (c cr : Nat) (w : World) (h : VW w w.heap.size num l A c) (hcr : cr < 65536) (ht : H.Tab w) :
    Calls Tryd.prog 5 #[.agg #[.int .i64 num, .slice A l.length c], .int .u16 (cr : Int)] w (PB w true) := by
  have hb0 := (Below.refl w.heap.size w).alloc (Nat.le_refl _) (.cells #[.int .i64 num, .slice A l.length c] 24)
  have hz := Blk.new w 24 #[.int .i64 num, .slice A l.length c]
  have HT := Lib.hid (fun W (hW : Below w.heap.size w W) => ht.on hW)
  have AW := Lib.hid (fun W (hW : Below w.heap.size w W) => awake_of C W (HT.out W hW))
  have KV := Lib.hid (fun W (hW : Below w.heap.size w W) => refValid_any num l A c w.heap.size W (h.below hW) hW.size)
  have VV := Lib.hid (fun W (hW : Below w.heap.size w W) => (h.below hW).more hW.size)
  have KO := Lib.hid (fun (x : Int) (hx : In64 x) W (hW : Below w.heap.size w W) => (refObservers_any x A c w.heap.size l W ⟨((h.below hW)).rd, h.l40, h.el, h.cap⟩ hW.size hx).mono fun _ _ h => h.to (obsL K l x) (obsL K l x).length rfl rfl)
  have RL := Lib.hid (fun W (hW : Below w.heap.size w W) => (h.below hW).rd)
  have EL := Lib.hid h.el
  have n64 := h.num64
  dsimp only [vwV] at KV
  obtain ⟨n, hn⟩ : ∃ n, n = l.length := ⟨_, rfl⟩
  have HNN := Lib.hid hn
  rw [← hn] at hb0 hz KV KO RL ⊢
  have B0 := Lib.hid hb0
  have Z1 := Lib.hid hz
  clear hb0 hz hn h ht
  go_enter Tryd.func5, Tryd.ntmps5
  go_upto_region 1 with fail
  generalize w.alloc (.cells #[.int .i64 num, .slice A n c] 24) = w0 at *
  have FB := Lib.hid (fun W (hW : Below w0.heap.size w0 W) => (blk2 (Z1.out.below hW Z1.out.lt)))
  go_upto_region 3 with (first
    | (go_at_call 9; (with_reducible refine (AW.out _ B0.out).mono ?_); rintro e w1 ⟨rfl, q1⟩)
    | fail)
  have V1 := Lib.hid q1
  have W1 := Lib.hid (below2 B0.out q1)
  have p1 := FB.out _ V1.out
  clear q1 AW
  cases hv : validV num l
  · rw [hv] at KV
    clear hv
    go_wp2_with (first
      | (go_at_call 19; (with_reducible refine (KV.out _ W1.out).mono ?_); rintro e w2 ⟨rfl, q2⟩)
      | fail)
    go_ret
    exact ⟨rfl, below2 W1.out q2⟩
  have HV := Lib.hid hv
  rw [hv] at KV
  have hl16 : n ≤ 16 := by rw [HNN.out]; exact (validM_iff.1 (validV_iff.1 hv).2.2).2.1
  clear hv
  go_upto_region 5 with (first
    | (go_at_call 19; (with_reducible refine (KV.out _ W1.out).mono ?_); rintro e w2 ⟨rfl, q2⟩)
    | fail)
  have V2 := Lib.hid (below2 V1.out q2)
  have W2 := Lib.hid (below2 W1.out q2)
  clear p1 q2 KV
  have p2 := FB.out _ V2.out
  go_wp2_with fail
  go_loopg [5, 6] n (fun gk s5 s6 wr => ∃ (k : Nat) (P : List Int), k + gk = n ∧ s6 = .int .i64 k ∧ Hid (P.Sublist (l.take k)) ∧ Hid (wr.ownsRow w2.heap.size 3 1 s5 P.length (P.map intV)) ∧ Hid (Below w2.heap.size w2 wr))
  case atStart => exact ⟨0, [], by omega, rfl, List.Sublist.refl _, World.ownsRow_nil _ _ _ _, Below.refl _ _⟩
  case round =>
    obtain ⟨k, P, hkg, rfl, HP, HO, HW⟩ := hrel
    have hws := HW.out.size
    have WR := Lib.hid (below2 W2.out HW.out)
    have VR := Lib.hid (below2 V2.out HW.out)
    have pr := FB.out _ VR.out
    cases gk with
    | zero =>
      have hkz : ¬ (k : Int) < (n : Int) := by omega
      have HPL := Lib.hid (show P.Sublist l from HP.out.trans (List.take_sublist _ _))
      have HAS := Lib.hid (show Asc P from List.Pairwise.sublist HPL.out (validM_iff.1 (validV_iff.1 HV.out).2.2).2.2.1)
      obtain ⟨A5, c5, rfl, hc5, hr5⟩ := own_out HO.out
      obtain ⟨np, hnp⟩ : ∃ q, q = P.length := ⟨_, rfl⟩
      have HNP := Lib.hid hnp
      have hnp16 : np ≤ 16 := by have := HPL.out.length_le; have := HNN.out; omega
      rw [← hnp] at hr5 hc5 ⊢
      have RG := Lib.hid (fun W' (hW : Below wr.heap.size wr W') => hr5.below hW)
      have HC5 := Lib.hid hc5
      have EP := Lib.hid (fun x (hx : x ∈ P) => EL.out x (HPL.out.subset hx))
      clear hr5 hnp HO HP
      go_wp2_with fail
      go_loopg [7, 8, 9, 10, 11, 12] np (fun gk s7 s8 s9 _ _ _ wq => ∃ (i : Nat) (S : List Alr) (Z : Option Addr) (cZ nS : Nat) (en : Bool), i + gk = np ∧ s9 = .int .i64 i ∧ s8 = .bool en ∧ s7 = .slice Z nS cZ ∧ Hid (nS = S.length) ∧ nS ≤ 5 * i ∧ Hid (CF num l P (P.take i) S) ∧ Hid (en = true → ∀ y ∈ P.take i, 2 ≤ cntA S y) ∧ Hid (AS wq wq.heap.size S Z cZ) ∧ Hid (Below wr.heap.size wr wq))
      case atStart => exact ⟨0, [], none, 0, 0, true, by omega, rfl, rfl, rfl, rfl, by omega, CF.start HV.out, (fun _ y hy => by simp at hy), AS.nil, Below.refl _ _⟩
      case round =>
        obtain ⟨i, S, Z, cZ, nS, en, hig, rfl, rfl, rfl, HNS, hSi, HCF, HEN, HA, HB⟩ := hrel
        obtain ⟨wq, rfl⟩ : ∃ q, q = wr := ⟨_, rfl⟩
        have Wq := Lib.hid (below2 WR.out HB.out)
        have Vq := Lib.hid (below2 VR.out HB.out)
        have pq := FB.out _ Vq.out
        cases gk with
        | zero =>
          have hiz : ¬ (i : Int) < (np : Int) := by omega
          have HPI := Lib.hid (show P.take i = P from List.take_of_length_le (by have := HNP.out; omega))
          rw [HPI.out] at HCF HEN
          have LG := Lib.hid (fun W' (hW : Below wq.heap.size wq W') => show LS W' W'.heap.size P A5 c5 from ⟨by rw [← HNP.out]; exact ((RG.out wq HB.out).more HB.out.size |>.below hW).more hW.size, by rw [← HNP.out]; omega, EP.out, by rw [← HNP.out]; exact HC5.out⟩)
          cases en
          case false =>
            go_wp2_with fail
            go_ret
            exact ⟨rfl, Wq.out⟩
          case true =>
            have KA1 := Lib.hid (fun W' (hW : Below wq.heap.size wq W') => refApplicable_any num l P A A5 c c5 W'.heap.size W' (VV.out W' (below2 Wq.out hW)) (LG.out W' hW) (Nat.le_refl _))
            rw [← HNN.out, ← HNP.out] at KA1
            by_cases h0 : (next num l P).2 = 0
            · rw [decide_eq_true h0] at KA1
              obtain ⟨fS, fU⟩ := HCF.out.full HAS.out (HEN.out rfl)
              have hPne : P ≠ [] := fun e => next_empty (num := num) (l := l) (by rw [← e]; exact h0)
              have hR : propA K num l S = some P := by
                have := propA_ok (num := num) (l := l) (s := S) (by rw [fS]; exact hPne) fU (by rw [fS]; exact h0)
                rw [this, fS]
              have KP := Lib.hid (fun W' (hW : Below wq.heap.size wq W') => C.prop num l A Z c cZ W'.heap.size S W' (VV.out W' (below2 Wq.out hW)) (AS.onC HA.out hW) (Nat.le_refl _) (by have := HNS.out; omega) (HT.out W' (below2 Wq.out hW)))
              rw [hR, ← HNN.out, ← HNS.out] at KP
              dsimp only [Option.getD_some, Option.isSome_some] at KP
              rw [← HNP.out] at KP
              have QP := Lib.hid (fun V X Y x y h h' => same7_at V P X Y np x y HNP.out (by omega) h h')
              have RP := Lib.hid (fun W' (hW : Below wq.heap.size wq W') => show Reads W' W'.heap.size 1 A5 np (P.map intV) by have := (LG.out W' hW).rd; rwa [← HNP.out] at this)
              clear fS fU hPne hR h0
              go_wp2_with (first
                | (go_at_call 21; (with_reducible refine (KA1.out _ (Below.refl _ _)).mono ?_); rintro e w7 ⟨rfl, q7⟩; have p7 := FB.out _ (below2 Vq.out q7))
                | (go_at_call 13; (with_reducible refine (KP.out _ q7).mono ?_); rintro e w8 ⟨A8, c8, rfl, hc8, hr8, q8⟩; have b8 := below2 q7 q8)
                | (go_at_call 15; (with_reducible refine (QP.out _ A8 A5 c8 c5 hr8 (RP.out _ b8)).mono ?_); rintro e w9 ⟨rfl, q9⟩)
                | fail)
              go_ret
              exact ⟨rfl, below2 (below2 Wq.out b8) q9⟩
            · rw [decide_eq_false h0] at KA1
              go_wp2_with (first
                | (go_at_call 21; (with_reducible refine (KA1.out _ (Below.refl _ _)).mono ?_); rintro e w7 ⟨rfl, q7⟩)
                | fail)
              go_ret
              exact ⟨rfl, below2 Wq.out q7⟩
        | succ gi =>
          have hiz : (i : Int) < (np : Int) := by omega
          obtain ⟨gd, ux, rfl, -, hux, hxc⟩ := (RG.out wq HB.out).at_ (k := i) (by omega)
          obtain ⟨x, hx⟩ : ∃ x, P[i]? = some x := ⟨_, List.getElem?_eq_getElem (by have := HNP.out; omega)⟩
          have huxx : ux = .int .i64 x := by rw [List.getElem?_map, hx] at hux; exact (Option.some.inj hux).symm
          rw [huxx] at hxc
          have hgdb : gd.block < wq.heap.size := by
            have h1 : gd.block < wr.heap.size := by
              obtain ⟨ad', e, h2, -⟩ := (RG.out wr (Below.refl _ _)).2 (by omega)
              cases e
              exact h2
            exact Nat.lt_of_lt_of_le h1 HB.out.size
          have HXC := Lib.hid (fun W' (hW : Below wq.heap.size wq W') => (hW.cell (p := gd.add i) (by rw [block_of_add]; exact hgdb)).trans hxc)
          have hxm := List.mem_of_getElem? hx
          have x64 := EP.out x hxm
          have HTK := Lib.hid (show P.take (i + 1) = P.take i ++ [x] by rw [List.take_add_one, hx]; rfl)
          have hxP : x ∉ P.take i := fun h => by
            have h1 := List.Pairwise.sublist (List.take_sublist (i + 1) P) HAS.out
            rw [HTK.out] at h1
            exact absurd ((List.pairwise_append.1 h1).2.2 x h x (List.mem_singleton.2 rfl)) (Int.lt_irrefl x)
          have HCI := Lib.hid (HCF.out.into hxP)
          have KX := Lib.hid (KO.out x x64)
          have OZ := Lib.hid (fun (r : Nat) (z : Int) (hr : r < 5) (hz : (obsL K l x)[r]? = some z) => obs_ok (num := num) HV.out hr hz)
          have ho5 : (obsL K l x).length ≤ 5 := by
            rcases obs_cases l x with e | e
            · rw [e]; simp
            · omega
          obtain ⟨o, hoo⟩ : ∃ o, o = obsL K l x := ⟨_, rfl⟩
          have HOO := Lib.hid hoo
          rw [← hoo] at KX OZ ho5
          obtain ⟨no, hno⟩ : ∃ q, q = o.length := ⟨_, rfl⟩
          have HNO := Lib.hid hno
          rw [← hno] at KX ho5
          clear hux huxx hx hoo hno
          go_upto_region 16 with fail
          go_cut [10] from 47 to 53 (fun s10 wz => ∃ X cX, s10 = .slice X no cX ∧ Hid (Reads wz wz.heap.size 1 X no (o.map intV)) ∧ Hid (Below wq.heap.size wq wz))
          case first =>
            go_region_law (first
              | ((try go_simp); go_at_call 22; (with_reducible refine (KX.out _ (by first | exact Wq.out | exact Wq.out.drew)).mono ?_); rintro e w7 ⟨X7, c7, rfl, hc7, -, hr7, q7⟩)
              | fail)
            all_goals
              have k7 : Below wq.heap.size wq w7 := by first | exact q7 | exact bdrewC q7
              go_wp2_with fail
              go_meet
              first
                | exact ⟨X7, c7, rfl, hr7, k7⟩
                | exact ⟨X7, c7, rfl, (hr7.below (Below.refl _ _).drew).more ((Below.refl _ _).drew).size, k7.drew⟩
          case rest =>
            obtain ⟨X, cX, rfl, HRX, HBX⟩ := hcut
            obtain ⟨w7, rfl⟩ : ∃ q, q = wc := ⟨_, rfl⟩
            have V7 := Lib.hid (below2 Vq.out HBX.out)
            have RX := Lib.hid (fun W' (hW : Below w7.heap.size w7 W') => (HRX.out).below hW)
            have A7 := Lib.hid (AS.onC HA.out HBX.out)
            clear pq hxc KX
            go_wp2_with fail
            go_loopg [7, 11, 12] no (fun gk s7 s11 s12 wt => ∃ (j : Nat) (S' : List Alr) (Z' : Option Addr) (cZ' nS' m : Nat), j + gk = no ∧ s12 = .int .i64 j ∧ s11 = .int .i64 m ∧ s7 = .slice Z' nS' cZ' ∧ Hid (nS' = S'.length) ∧ nS' ≤ 5 * i + j ∧ m ≤ j ∧ Hid (m = (List.range j).countP fun r : Nat => decide (o.getD r 0 ∉ P)) ∧ Hid (CI num l P (P.take i) x j S') ∧ Hid (AS wt wt.heap.size S' Z' cZ') ∧ Hid (Below w7.heap.size w7 wt))
            case atStart => exact ⟨0, S, Z, cZ, nS, 0, by omega, rfl, rfl, rfl, HNS.out, by omega, by omega, rfl, HCI.out, A7.out, Below.refl _ _⟩
            case round =>
              obtain ⟨j, S', Z', cZ', nS', m, hjg, rfl, rfl, rfl, HNS', hSj, hmj, HM, HC, HA', HB'⟩ := hrel
              obtain ⟨wt, rfl⟩ : ∃ q, q = wr := ⟨_, rfl⟩
              have Bt := Lib.hid (below2 HBX.out HB'.out)
              have Vt := Lib.hid (below2 V7.out HB'.out)
              have Wt := Lib.hid (below2 Wq.out Bt.out)
              have pt := FB.out _ Vt.out
              have hxt := HXC.out wt Bt.out
              cases gk with
              | zero =>
                have hjz : ¬ (j : Int) < (no : Int) := by omega
                have hjn : j = no := by omega
                subst hjn
                have HC2 := Lib.hid (show CI num l P (P.take i) x (obsL K l x).length S' by rw [← HOO.out, ← HNO.out]; exact HC.out)
                have HCF2 := Lib.hid (show CF num l P (P.take (i + 1)) S' by rw [HTK.out]; exact HC2.out.out)
                have HM2 := HCF.out.more HC2.out (by rw [← HOO.out, ← HNO.out]; exact ho5) (show m = _ by rw [← HOO.out, ← HNO.out]; exact HM.out) HEN.out
                rw [← HTK.out] at HM2
                have HMM := Lib.hid HM2
                clear HM2 hxt pt
                cases en
                case false =>
                  go_wp2_with fail
                  go_roundg gi
                  case measure => omega
                  case rel => exact ⟨i + 1, S', Z', cZ', nS', false, by omega, by go_num, rfl, rfl, HNS'.out, by omega, HCF2.out, (fun h => by cases h), HA'.out, below2 HB.out Bt.out⟩
                case true =>
                  by_cases hm2 : 2 ≤ m
                  · have hmi : (2 : Int) ≤ (m : Int) := by omega
                    go_wp2_with fail
                    go_roundg gi
                    case measure => omega
                    case rel => exact ⟨i + 1, S', Z', cZ', nS', true, by omega, by go_num, rfl, rfl, HNS'.out, by omega, HCF2.out, (fun _ => HMM.out (by simp [hm2])), HA'.out, below2 HB.out Bt.out⟩
                  · have hmi : ¬ (2 : Int) ≤ (m : Int) := by omega
                    go_wp2_with fail
                    go_roundg gi
                    case measure => omega
                    case rel => exact ⟨i + 1, S', Z', cZ', nS', false, by omega, by go_num, rfl, rfl, HNS'.out, by omega, HCF2.out, (fun h => by cases h), HA'.out, below2 HB.out Bt.out⟩
              | succ gj =>
                have hjz : (j : Int) < (no : Int) := by omega
                have hj5 : j < 5 := by omega
                obtain ⟨xd, uo, rfl, hxd, huo, hoc⟩ := (RX.out wt HB'.out).at_ (k := j) (by omega)
                obtain ⟨y, hy⟩ : ∃ y, o[j]? = some y := ⟨_, List.getElem?_eq_getElem (by have := HNO.out; omega)⟩
                have huy : uo = .int .i64 y := by rw [List.getElem?_map, hy] at huo; exact (Option.some.inj huo).symm
                rw [huy] at hoc
                have HOK := Lib.hid (OZ.out j y hj5 hy)
                have hgd : o.getD j 0 = y := by rw [List.getD_eq_getElem?_getD, hy]; rfl
                have HGD := Lib.hid hgd
                have HUP := Lib.hid (show (List.range (j + 1)).countP (fun r : Nat => decide (o.getD r 0 ∉ P)) = m + (if y ∈ P then 0 else 1) by rw [cnt_up, hgd, ← HM.out])
                have KCt := Lib.hid (fun W' (hW : Below wt.heap.size wt W') => show Calls Tryd.prog 23 #[.slice (some gd) np c5, .int .i64 y] W' (fun e w' => e = .returned (.bool (hasB P y)) ∧ W' = w') by
                  have := refContains_any (some gd) c5 wr.heap.size P y W' (by rw [← HNP.out]; exact RG.out W' (below2 HB.out (below2 Bt.out hW))) (by rw [← HNP.out]; omega)
                  rwa [← HNP.out] at this)
                clear huo huy hy hgd
                have KC1 := Lib.hid (KCt.out wt (Below.refl _ _))
                by_cases hyP : y ∈ P
                · have HC2 := Lib.hid (HC.out.skip (show (obsL K l x).getD j 0 ∈ P by rw [← HOO.out, HGD.out]; exact hyP))
                  have HM2 := Lib.hid (show m = (List.range (j + 1)).countP (fun r : Nat => decide (o.getD r 0 ∉ P)) by rw [HUP.out, if_pos hyP]; rfl)
                  rw [hasB_iff.2 hyP] at KC1
                  clear hyP
                  go_wp2_with (first
                    | (go_at_call 23; (with_reducible refine KC1.out.mono ?_); rintro e w8 ⟨rfl, rfl⟩)
                    | fail)
                  go_roundg gj
                  case measure => omega
                  case rel => exact ⟨j + 1, S', Z', cZ', nS', m, by omega, by go_num, rfl, rfl, HNS'.out, by omega, by omega, HM2.out, HC2.out, HA'.out, HB'.out⟩
                · have hb : hasB P y = false := by
                    cases h : hasB P y
                    · rfl
                    · exact absurd (hasB_iff.1 h) hyP
                  have HC2 := Lib.hid (HC.out.put (o := y) hxm hxP HOK.out (show (obsL K l x).getD j 0 ∉ P by rw [← HOO.out, HGD.out]; exact hyP))
                  have HM2 := Lib.hid (show m + 1 = (List.range (j + 1)).countP (fun r : Nat => decide (o.getD r 0 ∉ P)) by rw [HUP.out, if_neg hyP])
                  rw [hb] at KC1
                  have ELN := Lib.hid (El.putA (okA_elC n64 HOK.out) HA'.out.el)
                  have LNS := Lib.hid (show (putA S' ⟨num, (j : Int), y, x⟩).length ≤ nS' + 1 by have := (putA_len (s := S') (a := ⟨num, (j : Int), y, x⟩)).2; have := HNS'.out; omega)
                  have KPut := Lib.hid (fun W' (hW : Below wt.heap.size wt W') => show Calls Tryd.prog 24 #[.slice Z' nS' cZ', .agg #[.int .i64 num, .int .i64 j, .int .i64 y, .int .i64 x]] W' (OwnS W' (putA S' ⟨num, (j : Int), y, x⟩)) by
                    have := refPut_any Z' cZ' W'.heap.size S' ⟨num, (j : Int), y, x⟩ W' (AS.onC HA'.out hW) (Nat.le_refl _) (by have := HNS'.out; omega)
                    rwa [← HNS'.out] at this)
                  clear hyP hb KCt
                  go_upto_region 22 with (first
                    | (go_at_call 23; (with_reducible refine KC1.out.mono ?_); rintro e w8 ⟨rfl, rfl⟩)
                    | fail)
                  go_region_law (first
                    | ((try go_simp); go_at_call 24; (with_reducible refine (KPut.out _ (by first | exact Below.refl _ _ | exact (Below.refl _ _).drew)).mono ?_); rintro e w9 ⟨v9, rfl, ho9, q9⟩)
                    | fail)
                  all_goals
                    obtain ⟨Z9, c9, rfl, as9⟩ := AS.of_own ho9 (by have := LNS.out; omega) ELN.out
                    have k9 : Below wt.heap.size wt w9 := by first | exact q9 | exact bdrewC q9
                    have A9 := Lib.hid as9
                    have K9 := Lib.hid k9
                    clear ho9 q9 as9 k9
                    go_wp2_with fail
                    go_roundg gj
                    case measure => omega
                    case rel =>
                      first
                        | exact ⟨j + 1, putA S' ⟨num, (j : Int), y, x⟩, Z9, c9, _, m + 1, by omega, by go_num, by go_num, rfl, rfl, by have := LNS.out; omega, by omega, HM2.out, HC2.out, A9.out, below2 HB'.out K9.out⟩
                        | exact ⟨j + 1, putA S' ⟨num, (j : Int), y, x⟩, Z9, c9, _, m + 1, by omega, by go_num, by go_num, rfl, rfl, by have := LNS.out; omega, by omega, HM2.out, HC2.out, AS.onC A9.out (Below.refl _ _).drew, (below2 HB'.out K9.out).drew⟩
    | succ gi =>
      have hkz : (k : Int) < (n : Int) := by omega
      have hk16 : k < 16 := by omega
      obtain ⟨ad, u, rfl, -, hxu, hcell⟩ := (RL.out wr WR.out).at_ (k := k) (by omega)
      obtain ⟨x, hx⟩ : ∃ x, l[k]? = some x := ⟨_, List.getElem?_eq_getElem (by have := HNN.out; omega)⟩
      have hux : u = .int .i64 x := by rw [List.getElem?_map, hx] at hxu; exact (Option.some.inj hxu).symm
      rw [hux] at hcell
      have LP := Lib.hid (show P.length ≤ 16 by have := HP.out.length_le; rw [List.length_take] at this; omega)
      have HP0 := Lib.hid (show P.Sublist (l.take (k + 1)) from HP.out.trans (by rw [List.take_add_one]; exact List.sublist_append_left _ _))
      have HP1 := Lib.hid (show (P ++ [x]).Sublist (l.take (k + 1)) from by rw [List.take_add_one, hx]; exact HP.out.append (List.Sublist.refl _))
      clear hux hxu hx
      have wk64 : IntKind.u64.wrap (k : Int) = (k : Int) := by rw [IntKind.wrap_u64]; omega
      go_upto_if 32 with fail
      generalize ((((cr : Int) / 2 ^ k).tmod 2 == 1) : Bool) = bb
      cases bb
      · go_wp2_with fail
        go_roundg gi
        case measure => omega
        case rel => exact ⟨k + 1, P, by omega, by go_num, HP0.out, HO.out, HW.out⟩
      · go_wp2_with (first
          | (at_builtin; refine wp_append_intsO _ rfl (.tmp 33) (.tmp 39) rfl w2.heap.size _ P [x] _ _ _ _ rfl (World.ownsRow.alloc HO.out _) rfl (reads_one _ _) (by have := LP.out; simp; omega) (by simp; omega) ?_; intro v6 w6 ho6 hb6)
          | fail)
        have HO6 := Lib.hid ho6
        have V6 := Lib.hid ((HW.out.alloc hws _).trans hb6)
        clear ho6 hb6
        go_roundg gi
        case measure => omega
        case rel => exact ⟨k + 1, P ++ [x], by omega, by go_num, HP1.out, HO6.out, V6.out⟩
end Go.Proofs.YtipipjbpjpdcbaaDoor.Ct
