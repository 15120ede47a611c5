/- Layer 7: the walk of CutFull. -/
import Derived.Test.YtipipjbpjpdcbaaDoorCFull0
namespace Go.Proofs.YtipipjbpjpdcbaaDoor.Ct
set_option linter.unusedVariables false
set_option linter.unusedSimpArgs false
open Go.RowKit
open Go.Proofs.YtipipjbpjpdcbaaDoor.W
open Go.Proofs.YtipipjbpjpdcbaaDoor.V
open Go.Proofs.YtipipjbpjpdcbaaDoor.O
open Go.Proofs.YtipipjbpjpdcbaaDoor.Pb (Alr alrC alrsC len_alrsC step_append_alr reads_blk)
open Go.Proofs.YtipipjbpjpdcbaaDoor.Al

theorem okA_o5 {num : Int} {l : List Int} {a : Alr} (h : okA K num l a = true) : validV num l = true ∧ (obsL K l a.subj).length = 5 := by
  obtain ⟨h1, _, _, _, h5⟩ := okA_iff.1 h
  refine ⟨h1, ?_⟩
  rcases obs_cases l a.subj with e | e
  · rw [e] at h5; simp at h5
  · exact e
set_option maxRecDepth 1000000 in
set_option maxHeartbeats 16000000 in
theorem lawFull_of (C : CutC) (num : Int) (l : List Int) (A L : Option Addr) (c cL : Nat) (xs : List Nat) (w : World) (h : VW w w.heap.size num l A c) (hs : US w w.heap.size xs L cL) (ht : H.Tab w) :
    Calls Tryd.prog 7 #[.agg #[.int .i64 num, .slice A l.length c], .slice L xs.length cL] w (PB w true) := by
  have hb0 := (Below.refl w.heap.size w).alloc (Nat.le_refl _) (.cells #[.int .i64 num, .slice A l.length c] 24)
  have hz := Blk.new w 24 #[.int .i64 num, .slice A l.length c]
  have HT := Lib.hid (fun W (hW : Below w.heap.size w W) => ht.on hW)
  have AW := Lib.hid (fun W (hW : Below w.heap.size w W) => awake_of C W (HT.out W hW))
  have KV := Lib.hid (fun W (hW : Below w.heap.size w W) => refValid_any num l A c w.heap.size W (h.below hW) hW.size)
  have KS := Lib.hid (fun (hv : validV num l = true) W (hW : Below w.heap.size w W) => pairsF_any num l A L c cL w.heap.size xs W (h.below hW) (hs.below hW) hW.size hv)
  have VV := Lib.hid (fun W (hW : Below w.heap.size w W) => (h.below hW).more hW.size)
  have KO := Lib.hid (fun (x : Int) (hx : In64 x) W (hW : Below w.heap.size w W) => (refObservers_any x A c w.heap.size l W ⟨((h.below hW)).rd, h.l40, h.el, h.cap⟩ hW.size hx).mono fun _ _ h => h.to (obsL K l x) (obsL K l x).length rfl rfl)
  have n64 := h.num64
  dsimp only [vwV] at KV
  obtain ⟨n, hn⟩ : ∃ n, n = l.length := ⟨_, rfl⟩
  obtain ⟨nx, hnx⟩ : ∃ n, n = xs.length := ⟨_, rfl⟩
  have HNN := Lib.hid hn
  rw [← hn] at hb0 hz KV KS KO ⊢
  rw [← hnx] at KS ⊢
  have B0 := Lib.hid hb0
  have Z1 := Lib.hid hz
  clear hb0 hz hn hnx h hs ht
  go_enter Tryd.func7, Tryd.ntmps7
  go_upto_region 1 with fail
  generalize w.alloc (.cells #[.int .i64 num, .slice A n c] 24) = w0 at *
  have FB := Lib.hid (fun W (hW : Below w0.heap.size w0 W) => (blk2 (Z1.out.below hW Z1.out.lt)))
  go_upto_region 3 with (first
    | (go_at_call 9; (with_reducible refine (AW.out _ B0.out).mono ?_); rintro e w1 ⟨rfl, q1⟩)
    | fail)
  have V1 := Lib.hid q1
  have W1 := Lib.hid (below2 B0.out q1)
  have p1 := FB.out _ V1.out
  clear q1 AW
  cases hv : validV num l
  · rw [hv] at KV
    clear KS hv
    go_wp2_with (first
      | (go_at_call 19; (with_reducible refine (KV.out _ W1.out).mono ?_); rintro e w2 ⟨rfl, q2⟩)
      | fail)
    go_ret
    exact ⟨rfl, below2 W1.out q2⟩
  have HV := Lib.hid hv
  rw [hv] at KV
  clear hv
  by_cases hx : 20 < nx
  · have hxi : (20 : Int) < (nx : Int) := by omega
    clear KS
    go_wp2_with (first
      | (go_at_call 19; (with_reducible refine (KV.out _ W1.out).mono ?_); rintro e w2 ⟨rfl, q2⟩)
      | fail)
    go_ret
    exact ⟨rfl, below2 W1.out q2⟩
  have hxi : decide ((20 : Int) < (nx : Int)) = false := by simp; omega
  have KS1 := Lib.hid (fun W hW => KS.out HV.out W hW)
  generalize pairsF num l xs = F at *
  unfold OutPf at KS1
  obtain ⟨nf, hnf⟩ : ∃ q, q = F.length := ⟨_, rfl⟩
  have HNF := Lib.hid hnf
  rw [← hnf] at KS1
  clear KS hnf
  go_upto_region 6 with (first
    | (go_at_call 19; (with_reducible refine (KV.out _ W1.out).mono ?_); rintro e w2 ⟨rfl, q2⟩; have W2 := below2 W1.out q2; have p2 := FB.out _ (below2 V1.out q2))
    | (go_at_call 25; (with_reducible refine (KS1.out _ W2).mono ?_); rintro e w3 ⟨X3, c3, rfl, as3, hok, hlen, q3⟩)
    | fail)
  have W3 := Lib.hid (below2 W2 q3)
  have V3 := Lib.hid (below2 (below2 V1.out q2) q3)
  have RP := Lib.hid (fun W (hW : Below w3.heap.size w3 W) => as3.rd.below hW)
  rw [← HNF.out] at RP
  have EP := Lib.hid as3.el
  have OP := Lib.hid hok
  have hnf20 : nf ≤ 20 := by omega
  clear p1 p2 as3 hok q2 q3 W2 KV KS1 hlen
  go_wp2_with fail
  go_loopg [6, 7, 8, 9, 10] nf (fun gk s6 s7 s8 _ _ wr => ∃ (k : Nat) (W : List Int) (S : List Alr) (Y Z : Option Addr) (cY cZ nW nS : Nat), k + gk = nf ∧ s8 = .int .i64 k ∧ s6 = .slice Y nW cY ∧ s7 = .slice Z nS cZ ∧ Hid (nW = W.length) ∧ Hid (nS = S.length) ∧ nW ≤ k ∧ nS ≤ 5 * k ∧ Hid (GF num l W S) ∧ Hid (LS wr wr.heap.size W Y cY) ∧ Hid (AS wr wr.heap.size S Z cZ) ∧ Hid (Below w3.heap.size w3 wr))
  case atStart => exact ⟨0, [], [], none, none, 0, 0, 0, 0, by omega, rfl, rfl, rfl, rfl, rfl, by omega, by omega, GF.start HV.out, ⟨Reads.none_, by simp, (fun x hx => by cases hx), Nat.le_refl _⟩, AS.nil, Below.refl _ _⟩
  case round =>
    obtain ⟨k, W, S, Y, Z, cY, cZ, nW, nS, hkg, rfl, rfl, rfl, HNW, HNS, hWk, hSk, HG, HL, HA, HW⟩ := hrel
    have WR := Lib.hid (below2 W3.out HW.out)
    have VR := Lib.hid (below2 V3.out HW.out)
    cases gk with
    | zero =>
      have hkz : ¬ ((k : Int) < (nf : Int)) := by omega
      obtain ⟨fS, fU⟩ := HG.out.full
      have hS1000 : S.length ≤ 1000 := by have := HNS.out; omega
      have KP := Lib.hid (C.prop num l A Z c cZ wr.heap.size S wr (VV.out wr WR.out) HA.out (Nat.le_refl _) hS1000 (HT.out wr WR.out))
      have KT := Lib.hid (fun W' (hW : Below wr.heap.size wr W') => C.stab num l A Z c cZ W'.heap.size S W' (VV.out W' (below2 WR.out hW)) (AS.onC HA.out hW) (Nat.le_refl _) hS1000 (HT.out W' (below2 WR.out hW)))
      have KU := Lib.hid (fun W' (hW : Below wr.heap.size wr W') => C.unst num l A Z c cZ W'.heap.size S W' (VV.out W' (below2 WR.out hW)) (AS.onC HA.out hW) (Nat.le_refl _) hS1000 (HT.out W' (below2 WR.out hW)))
      have KA := Lib.hid (fun (q : List Int) (Y : Option Addr) (d : Nat) W' (hW : Below w.heap.size w W') (hq : LS W' W'.heap.size q Y d) => refApplicable_any num l q A Y c d W'.heap.size W' (VV.out W' hW) hq (Nat.le_refl _))
      have PA1 := Lib.hid (fun c (hc : propA K num l S = some c) => propA_some hc)
      have PA2 := Lib.hid (fun h1 h2 h3 => propA_ok (num := num) (l := l) (s := S) h1 h2 h3)
      have PA4 := Lib.hid (fun c (hc : propA K num l S = some c) => propA_mem hc)
      rw [fS] at PA1 PA2 PA4 KT
      rw [fU] at PA2 KU
      rw [← HNN.out, ← HNS.out] at KP KT KU
      rw [← HNN.out] at KA
      have KT := Lib.hid (fun W' hW => (KT.out W' hW).mono fun _ _ h => outInt_n h nW HNW.out)
      have KU := Lib.hid (fun W' hW => (KU.out W' hW).mono fun _ _ h => outInt_n h 0 rfl)
      have QW := Lib.hid (fun V X Y x y h h' => same7_at V W X Y nW x y HNW.out (by omega) h h')
      have pr := FB.out _ VR.out
      have LW := Lib.hid (fun W' (hW : Below wr.heap.size wr W') => (show LS W' W'.heap.size W Y cY from (HL.out.below hW).more hW.size))
      have RW := Lib.hid (fun W' (hW : Below wr.heap.size wr W') => show Reads W' W'.heap.size 1 Y nW (W.map intV) by have := (LW.out W' hW).rd; rwa [← HNW.out] at this)
      generalize propA K num l S = R at *
      obtain ⟨nr, hnr⟩ : ∃ q, q = (R.getD []).length := ⟨_, rfl⟩
      rw [← hnr] at KP
      have KA1 := Lib.hid (fun W' (hW : Below wr.heap.size wr W') => KA.out W Y cY W' (below2 WR.out hW) (LW.out W' hW))
      rw [← HNW.out] at KA1
      by_cases h0 : (next num l W).2 = 0
      · have hWne : W ≠ [] := fun e => next_empty (num := num) (l := l) (by rw [← e]; exact h0)
        have hR := PA2.out hWne rfl h0
        subst hR
        have hnw : nr = nW := by rw [hnr, HNW.out]; rfl
        subst hnw
        rw [decide_eq_true h0] at KA1
        have KP1 := Lib.hid (show Calls Tryd.prog 13 _ wr (OutLB wr W nr true) from KP.out)
        clear KP KA PA1 PA2 PA4 hnr h0 hWne fS fU
        go_wp2_with (first
          | (go_at_call 13; (with_reducible refine KP1.out.mono ?_); rintro e w6 ⟨A6, c6, rfl, hc6, hr6, q6⟩; have p6 := FB.out _ (below2 VR.out q6))
          | (go_at_call 21; (with_reducible refine (KA1.out _ q6).mono ?_); rintro e w7 ⟨rfl, q7⟩; have b7 := below2 q6 q7; have hr7 := (hr6.below q7).more q7.size; have p7 := FB.out _ (below2 VR.out b7))
          | (go_at_call 15; (with_reducible refine (QW.out _ A6 Y c6 cY hr7 (RW.out _ b7)).mono ?_); rintro e w8 ⟨rfl, q8⟩; have b8 := below2 b7 q8; have p8 := FB.out _ (below2 VR.out b8))
          | (go_at_call 18; (with_reducible refine (KT.out _ b8).mono ?_); rintro e w9 ⟨A9, c9, rfl, hc9, hr9, q9⟩; have b9 := below2 b8 q9; have p9 := FB.out _ (below2 VR.out b9))
          | (go_at_call 15; (with_reducible refine (QW.out _ A9 Y c9 cY hr9 (RW.out _ b9)).mono ?_); rintro e w10 ⟨rfl, q10⟩; have b10 := below2 b9 q10; have p10 := FB.out _ (below2 VR.out b10))
          | (go_at_call 16; (with_reducible refine (KU.out _ b10).mono ?_); rintro e w11 ⟨A11, c11, rfl, hc11, hr11, q11⟩; have b11 := below2 b10 q11)
          | fail)
        go_ret
        exact ⟨rfl, below2 WR.out b11⟩
      · rw [decide_eq_false h0] at KA1
        cases hR : R with
        | none =>
          rw [hR] at KP hnr
          have hn0 : nr = 0 := hnr
          subst hn0
          have KP1 := Lib.hid (show Calls Tryd.prog 13 _ wr (OutLB wr [] 0 false) from KP.out)
          clear KP KA PA1 PA2 PA4 h0 fS fU hR hnr
          go_wp2_with (first
            | (go_at_call 13; (with_reducible refine KP1.out.mono ?_); rintro e w6 ⟨A6, c6, rfl, hc6, hr6, q6⟩; have p6 := FB.out _ (below2 VR.out q6))
            | (go_at_call 21; (with_reducible refine (KA1.out _ q6).mono ?_); rintro e w7 ⟨rfl, q7⟩; have b7 := below2 q6 q7)
            | fail)
          go_ret
          exact ⟨rfl, below2 WR.out b7⟩
        | some cc =>
          rw [hR] at KP hnr
          obtain ⟨hc0, hcs⟩ := PA1.out cc hR
          have hmem := PA4.out cc hR
          have HNC := Lib.hid (show nr = cc.length from hnr)
          have hnr5 : nr ≤ 100000 := by
            have h1 := HNC.out
            have h2 := HNW.out
            have h3 : cc.length ≤ W.length := by
              rcases hcs with e | e
              · rw [e]; exact Nat.le_refl _
              · omega
            omega
          have KP1 := Lib.hid (show Calls Tryd.prog 13 _ wr (OutLB wr cc nr true) from KP.out)
          have KA2 := Lib.hid (fun (Y : Option Addr) (d : Nat) W' (hW : Below wr.heap.size wr W') (hq : LS W' W'.heap.size cc Y d) => KA.out cc Y d W' (below2 WR.out hW) hq)
          rw [decide_eq_true hc0, ← HNC.out] at KA2
          have LC := Lib.hid (fun (Y : Option Addr) (d : Nat) W' (hr : Reads W' W'.heap.size 1 Y nr (cc.map intV)) (hd : nr ≤ d) => show LS W' W'.heap.size cc Y d from ⟨by rw [← HNC.out]; exact hr, by rw [← HNC.out]; omega, fun x hx => HL.out.el x (hmem x hx), by rw [← HNC.out]; exact hd⟩)
          clear KP KA PA1 PA2 PA4 h0 fS fU hR hcs hc0 hmem hnr
          go_wp2_with (first
            | (go_at_call 13; (with_reducible refine KP1.out.mono ?_); rintro e w6 ⟨A6, c6, rfl, hc6, hr6, q6⟩; have p6 := FB.out _ (below2 VR.out q6))
            | (go_at_call 21; (with_reducible refine (KA1.out _ q6).mono ?_); rintro e w7 ⟨rfl, q7⟩; have b7 := below2 q6 q7; have hr7 := (hr6.below q7).more q7.size; have p7 := FB.out _ (below2 VR.out b7))
            | (go_at_call 21; (with_reducible refine (KA2.out A6 c6 _ b7 (LC.out A6 c6 _ hr7 hc6)).mono ?_); rintro e w8 ⟨rfl, q8⟩)
            | fail)
          go_ret
          exact ⟨rfl, below2 (below2 WR.out b7) q8⟩
    | succ gi =>
      have hkz : (k : Int) < (nf : Int) := by omega
      obtain ⟨a, ha⟩ : ∃ a, F[k]? = some a := ⟨_, List.getElem?_eq_getElem (by have := HNF.out; omega)⟩
      have ham := List.mem_of_getElem? ha
      obtain ⟨hv5, ho5⟩ := okA_o5 (OP.out a ham)
      have HP3 := Lib.hid (fun W' (hW : Below wr.heap.size wr W') => alr_at (RP.out W' (below2 HW.out hW)) ha)
      obtain ⟨ad, rfl, -, -, -, -, -, x3⟩ := HP3.out wr (Below.refl _ _)
      have HX3 := Lib.hid (fun W' (hW : Below wr.heap.size wr W') => show W'.cell? ⟨(ad.add (k * 4)).block, (ad.add (k * 4)).off + 3, none⟩ = some (.int .i64 a.subj) from by
        obtain ⟨ad', e, -, -, -, -, -, y3⟩ := HP3.out W' hW
        cases e
        exact y3)
      have x64 := (EP.out a ham).2.2.2
      obtain ⟨x, hxs⟩ : ∃ x, x = a.subj := ⟨_, rfl⟩
      rw [← hxs] at x3 HX3 x64 ho5
      have HI := Lib.hid (HG.out.into x)
      have HAS := Lib.hid (HG.out.asc' x)
      have KX := Lib.hid (KO.out x x64)
      have OZ := Lib.hid (fun (r : Nat) (z : Int) (hr : r < 5) (hz : (obsL K l x)[r]? = some z) => obs_ok (num := num) HV.out hr hz)
      have KC := Lib.hid (show Calls Tryd.prog 23 #[.slice Y nW cY, .int .i64 x] wr (fun e w' => e = .returned (.bool (hasB W x)) ∧ wr = w') by
        have := refContains_any Y cY wr.heap.size W x wr HL.out.rd HL.out.l40
        rwa [← HNW.out] at this)
      have KI := Lib.hid (show Calls Tryd.prog 27 #[.slice Y nW cY, .int .i64 x] wr (OwnI wr (ins x W)) by
        have := refInsert_any Y cY W x wr HL.out.rd HL.out.l40
        rwa [← HNW.out] at this)
      clear HP3 ha ham hv5 hxs
      obtain ⟨U, hU⟩ : ∃ U, U = (if hasB W x then W else ins x W) := ⟨_, rfl⟩
      have HU := Lib.hid hU
      rw [← hU] at HI HAS
      clear hU
      go_upto_if 39 with (first
        | (go_at_call 23; (with_reducible refine KC.out.mono ?_); rintro e w6 ⟨rfl, rfl⟩)
        | fail)
      go_cut [6] from 38 to 46 (fun s6 wx => ∃ (Y' : Option Addr) (cY' nU : Nat), s6 = .slice Y' nU cY' ∧ nU ≤ k + 1 ∧ Hid (nU = U.length) ∧ Hid (LS wx wx.heap.size U Y' cY') ∧ Hid (Below wr.heap.size wr wx))
      case first =>
        cases hb : hasB W x
        case true =>
          have HUW := Lib.hid (show U = W by rw [HU.out, hb]; rfl)
          go_wp2_with fail
          go_meet
          exact ⟨Y, cY, nW, rfl, by omega, by rw [HUW.out]; exact HNW.out, by rw [HUW.out]; exact HL.out, Below.refl _ _⟩
        case false =>
          have HUW := Lib.hid (show U = ins x W by rw [HU.out, hb]; rfl)
          go_wp2_with (first
            | (go_at_call 27; (with_reducible refine KI.out.mono ?_); rintro e w7 ⟨v7, rfl, ho7, q7⟩)
            | fail)
          obtain ⟨A7, c7, rfl, hc7, hr7⟩ := own_out ho7
          go_meet
          exact ⟨A7, c7, (ins x W).length, rfl, by rw [len_ins]; have := HNW.out; omega, by rw [HUW.out]; exact rfl, by
            rw [HUW.out]
            exact ⟨hr7, by rw [len_ins]; have := HNW.out; omega, (fun y hy => by
              rcases mem_ins.1 hy with e | e
              · rw [e]; exact x64
              · exact HL.out.el y e), hc7⟩, q7⟩
      case rest =>
        obtain ⟨Y', cY', nU, rfl, hnU, HNU, HLU, HBU⟩ := hcut
        obtain ⟨w6, rfl⟩ : ∃ q, q = wc := ⟨_, rfl⟩
        have V6 := Lib.hid (below2 VR.out HBU.out)
        have W6 := Lib.hid (below2 WR.out HBU.out)
        have A6 := Lib.hid (AS.onC HA.out HBU.out)
        have p6 := FB.out _ V6.out
        have x6 := HX3.out _ HBU.out
        have HX6 := Lib.hid (fun W' (hW : Below w6.heap.size w6 W') => HX3.out W' (below2 HBU.out hW))
        clear x3 HX3 KC KI HL HA HU
        generalize obsL K l x = o at *
        go_upto_region 13 with fail
        go_cut [9] from 47 to 54 (fun s9 wz => ∃ X cX, s9 = .slice X 5 cX ∧ Hid (Reads wz wz.heap.size 1 X 5 (o.map intV)) ∧ Hid (Below w6.heap.size w6 wz))
        case first =>
          rw [ho5] at KX
          go_region_law (first
            | ((try go_simp); go_at_call 22; (with_reducible refine (KX.out _ (by first | exact W6.out | exact W6.out.drew)).mono ?_); rintro e w7 ⟨X7, c7, rfl, hc7, -, hr7, q7⟩)
            | fail)
          all_goals
            have k7 : Below w6.heap.size w6 w7 := by first | exact q7 | exact bdrewC q7
            go_wp2_with fail
            go_meet
            first
              | exact ⟨X7, c7, rfl, hr7, k7⟩
              | exact ⟨X7, c7, rfl, (hr7.below (Below.refl _ _).drew).more ((Below.refl _ _).drew).size, k7.drew⟩
        case rest =>
          obtain ⟨X, cX, rfl, HRX, HBX⟩ := hcut
          obtain ⟨w7, rfl⟩ : ∃ q, q = wc := ⟨_, rfl⟩
          have V7 := Lib.hid (below2 V6.out HBX.out)
          have W7 := Lib.hid (below2 W6.out HBX.out)
          have A7 := Lib.hid (AS.onC A6.out HBX.out)
          have RX := Lib.hid (fun W' (hW : Below w7.heap.size w7 W') => (HRX.out).below hW)
          have HX7 := Lib.hid (fun W' (hW : Below w7.heap.size w7 W') => HX6.out W' (below2 HBX.out hW))
          clear p6 x6 A6 KX
          go_wp2_with fail
          go_loopg [7, 10] 5 (fun gj s7 s10 wq => ∃ (j : Nat) (S' : List Alr) (Z' : Option Addr) (cZ' nS' : Nat), j + gj = 5 ∧ s10 = .int .i64 j ∧ s7 = .slice Z' nS' cZ' ∧ Hid (nS' = S'.length) ∧ nS' ≤ 5 * k + j ∧ Hid (GI num l U x j S') ∧ Hid (AS wq wq.heap.size S' Z' cZ') ∧ Hid (Below w7.heap.size w7 wq))
          case atStart => exact ⟨0, S, Z, cZ, nS, by omega, rfl, rfl, HNS.out, by omega, HI.out, A7.out, Below.refl _ _⟩
          case round =>
            obtain ⟨j, S', Z', cZ', nS', hjg, rfl, rfl, HNS', hSj, HGI, HAj, HBj⟩ := hrel
            obtain ⟨wq, rfl⟩ : ∃ q, q = wr := ⟨_, rfl⟩
            have Bq := Lib.hid (below2 (below2 HBU.out HBX.out) HBj.out)
            have Vq := Lib.hid (below2 V7.out HBj.out)
            cases gk with
            | zero =>
              have hjz : ¬ (j : Int) < 5 := by omega
              have hj5 : j = 5 := by omega
              subst hj5
              have HGF := Lib.hid (HGI.out.out HAS.out.1)
              have LUq := Lib.hid (show LS wq wq.heap.size U Y' cY' from (HLU.out.below (below2 HBX.out HBj.out)).more (below2 HBX.out HBj.out).size)
              go_wp2_with fail
              go_roundg gi
              case measure => omega
              case rel => exact ⟨k + 1, U, S', Y', Z', cY', cZ', nU, nS', by omega, by go_num, rfl, rfl, HNU.out, HNS'.out, by omega, by omega, HGF.out, LUq.out, HAj.out, below2 HW.out Bq.out⟩
            | succ gj =>
              have hjz : (j : Int) < 5 := by omega
              have hj5 : j < 5 := by omega
              obtain ⟨xd, uo, rfl, hxd, huo, hoc⟩ := (RX.out wq HBj.out).at_ (k := j) hj5
              obtain ⟨y, hy⟩ : ∃ y, o[j]? = some y := ⟨_, List.getElem?_eq_getElem (by omega)⟩
              have huy : uo = .int .i64 y := by rw [List.getElem?_map, hy] at huo; exact (Option.some.inj huo).symm
              rw [huy] at hoc
              have HOK := Lib.hid (OZ.out j y hj5 hy)
              have HG2 := Lib.hid (HGI.out.put HAS.out.2 HOK.out)
              have hxq := HX7.out wq HBj.out
              have pq := FB.out _ Vq.out
              have ELN := Lib.hid (El.putA (okA_elC n64 HOK.out) HAj.out.el)
              have LNS := Lib.hid (show (putA S' ⟨num, (j : Int), y, x⟩).length ≤ nS' + 1 by have := (putA_len (s := S') (a := ⟨num, (j : Int), y, x⟩)).2; have := HNS'.out; omega)
              have KPut := Lib.hid (fun W' (hW : Below wq.heap.size wq W') => show Calls Tryd.prog 24 #[.slice Z' nS' cZ', .agg #[.int .i64 num, .int .i64 j, .int .i64 y, .int .i64 x]] W' (OwnS W' (putA S' ⟨num, (j : Int), y, x⟩)) by
                have := refPut_any Z' cZ' W'.heap.size S' ⟨num, (j : Int), y, x⟩ W' (AS.onC HAj.out hW) (Nat.le_refl _) (by have := HNS'.out; omega)
                rwa [← HNS'.out] at this)
              clear huo huy hy
              go_upto_region 17 with fail
              go_region_law (first
                | ((try go_simp); go_at_call 24; (with_reducible refine (KPut.out _ (by first | exact Below.refl _ _ | exact (Below.refl _ _).drew)).mono ?_); rintro e w9 ⟨v9, rfl, ho9, q9⟩)
                | fail)
              all_goals
                obtain ⟨Z9, c9, rfl, as9⟩ := AS.of_own ho9 (by have := LNS.out; omega) ELN.out
                have k9 : Below wq.heap.size wq w9 := by first | exact q9 | exact bdrewC q9
                have A9 := Lib.hid as9
                have K9 := Lib.hid k9
                clear ho9 q9 as9 k9
                go_wp2_with fail
                go_roundg gj
                case measure => omega
                case rel =>
                  first
                    | exact ⟨j + 1, putA S' ⟨num, (j : Int), y, x⟩, Z9, c9, _, by omega, by go_num, rfl, rfl, by have := LNS.out; omega, HG2.out, A9.out, below2 HBj.out K9.out⟩
                    | exact ⟨j + 1, putA S' ⟨num, (j : Int), y, x⟩, Z9, c9, _, by omega, by go_num, rfl, rfl, by have := LNS.out; omega, HG2.out, AS.onC A9.out (Below.refl _ _).drew, (below2 HBj.out K9.out).drew⟩
end Go.Proofs.YtipipjbpjpdcbaaDoor.Ct
