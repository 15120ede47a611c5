/- Layer 7: the walk of CutNoise. -/
import Derived.Test.YtipipjbpjpdcbaaDoorCHolds
import Derived.Test.YtipipjbpjpdcbaaDoorCTells
namespace Go.Proofs.YtipipjbpjpdcbaaDoor.Ct
set_option linter.unusedVariables false
set_option linter.unusedSimpArgs false
open Go.RowKit
open Go.Proofs.YtipipjbpjpdcbaaDoor.W
open Go.Proofs.YtipipjbpjpdcbaaDoor.V
open Go.Proofs.YtipipjbpjpdcbaaDoor.O
open Go.Proofs.YtipipjbpjpdcbaaDoor.Pb (Alr alrC alrsC len_alrsC step_append_alr reads_blk)
open Go.Proofs.YtipipjbpjpdcbaaDoor.Al

theorem pairO_ok {num x : Int} {l : List Int} {r : Nat} (hv : validV num l = true) (hr : r < 5) {a : Alr} (ha : a ∈ pairO num x r (obsL K l x)) : okA K num l a = true := by
  unfold pairO at ha
  split at ha
  · cases ha
  · rename_i z hz
    rw [List.mem_singleton.1 ha]
    exact obs_ok hv hr hz
theorem pair1_ok {num : Int} {l : List Int} {xv : Nat} (hv : validV num l = true) {a : Alr} (ha : a ∈ pair1 num l xv) : okA K num l a = true := by
  have hr : xv % 8 % 5 < 5 := Nat.mod_lt _ (by decide)
  unfold pair1 at ha
  split at ha
  · exact pairO_ok hv hr ha
  · split at ha
    · cases ha
    · exact pairO_ok hv hr ha
theorem pairsF_ok {num : Int} {l : List Int} {xs : List Nat} (hv : validV num l = true) {a : Alr} (ha : a ∈ pairsF num l xs) : okA K num l a = true := by
  unfold pairsF at ha
  obtain ⟨x, _, h⟩ := List.mem_flatMap.1 ha
  exact pair1_ok hv h
theorem setF_ok {num : Int} {l : List Int} {xs : List Nat} (hv : validV num l = true) : okS K num l (setF num l xs) = true ∧ ∀ a, a ∈ setF num l xs ↔ a ∈ pairsF num l xs := by
  obtain ⟨h1, h2⟩ := okS_merge (K := K) (num := num) (l := l) (b := pairsF num l xs) (a := []) (okS_nil hv) fun x hx => pairsF_ok hv hx
  exact ⟨h1, fun a => by unfold setF; rw [h2]; simp⟩
theorem propA_noise {num : Int} {l : List Int} {s : List Alr} {p : Alr} (hs : okS K num l s = true) (hp : okA K num l p = true) (h0 : cntA s p.subj = 0) : propA K num l (putA s p) = propA K num l s := by
  unfold propA
  rw [noise hs hp h0 true, noise hs hp h0 false]
theorem at_zero {w : World} {B n : Nat} {ad : Addr} {es : List Alr} {x : Alr} (h : Reads w B 4 (some ad) n (alrsC es)) (hx : es[0]? = some x) :
    ad.block < B ∧ w.cell? ad = some (.int .i64 x.view) ∧ w.cell? ⟨ad.block, ad.off + 1, none⟩ = some (.int .i64 x.ring) ∧ w.cell? ⟨ad.block, ad.off + 2, none⟩ = some (.int .i64 x.obs) ∧ w.cell? ⟨ad.block, ad.off + 3, none⟩ = some (.int .i64 x.subj) := by
  obtain ⟨ad', e, hb, _, h0, h1, h2, h3⟩ := alr_at h hx
  cases e
  have e0 : ad.add (0 * 4) = ad := by simp [Addr.add]
  rw [e0] at h0 h1 h2 h3
  exact ⟨hb, h0, h1, h2, h3⟩
theorem US.one {w : World} {x : Nat} (hx : x < 65536) (t : TypeId) : US (w.alloc (.cells #[u16V x] t)) (w.heap.size + 1) [x] (some ⟨w.heap.size, 0, none⟩) 1 :=
  ⟨reads_blk w #[u16V x] t, by show 1 ≤ _; omega, fun y hy => by rw [List.mem_singleton.1 hy]; exact hx, Nat.le_refl _⟩
set_option maxRecDepth 1000000 in
set_option maxHeartbeats 16000000 in
theorem lawNoise_of (C : CutC) (num : Int) (l : List Int) (A L : Option Addr) (c cL x : Nat) (xs : List Nat) (w : World) (h : VW w w.heap.size num l A c) (hs : US w w.heap.size xs L cL) (hx16 : x < 65536) (ht : H.Tab w) :
    Calls Tryd.prog 6 #[.agg #[.int .i64 num, .slice A l.length c], .slice L xs.length cL, .int .u16 (x : Int)] w (PB w true) := by
  have hb0 := (Below.refl w.heap.size w).alloc (Nat.le_refl _) (.cells #[.int .i64 num, .slice A l.length c] 24)
  have hz := Blk.new w 24 #[.int .i64 num, .slice A l.length c]
  have HT := Lib.hid (fun W (hW : Below w.heap.size w W) => ht.on hW)
  have AW := Lib.hid (fun W (hW : Below w.heap.size w W) => awake_of C W (HT.out W hW))
  have KV := Lib.hid (fun W (hW : Below w.heap.size w W) => refValid_any num l A c w.heap.size W (h.below hW) hW.size)
  have KS := Lib.hid (fun (hv : validV num l = true) (hm : xs.length ≤ 1000) W (hW : Below w.heap.size w W) => set_any num l A L c cL w.heap.size xs W (h.below hW) (hs.below hW) hW.size hv hm)
  have KQ := Lib.hid (fun (hv : validV num l = true) (G : Option Addr) (cG : Nat) W (hW : Below w.heap.size w W) (hu : US W W.heap.size [x] G cG) => pairsF_any num l A G c cG W.heap.size [x] W ((h.below hW).more hW.size) hu (Nat.le_refl _) hv)
  have SL := Lib.hid (show (setF num l xs).length ≤ xs.length from setF_len pairsF_len)
  have VV := Lib.hid (fun W (hW : Below w.heap.size w W) => (h.below hW).more hW.size)
  rw [show ([x] : List Nat).length = 1 from rfl] at KQ
  dsimp only [vwV] at KV
  obtain ⟨n, hn⟩ : ∃ n, n = l.length := ⟨_, rfl⟩
  obtain ⟨nx, hnx⟩ : ∃ n, n = xs.length := ⟨_, rfl⟩
  have HNN := Lib.hid hn
  have HNX := Lib.hid hnx
  rw [← hn] at hb0 hz KV KS KQ ⊢
  rw [← hnx] at KS ⊢
  have B0 := Lib.hid hb0
  have Z1 := Lib.hid hz
  clear hb0 hz hn hnx h hs ht
  go_enter Tryd.func6, Tryd.ntmps6
  go_upto_region 1 with fail
  generalize w.alloc (.cells #[.int .i64 num, .slice A n c] 24) = w0 at *
  have FB := Lib.hid (fun W (hW : Below w0.heap.size w0 W) => (blk2 (Z1.out.below hW Z1.out.lt)))
  go_upto_region 3 with (first
    | (go_at_call 9; (with_reducible refine (AW.out _ B0.out).mono ?_); rintro e w1 ⟨rfl, q1⟩)
    | fail)
  have V1 := Lib.hid q1
  have W1 := Lib.hid (below2 B0.out q1)
  have p1 := FB.out _ V1.out
  clear q1 AW
  cases hv : validV num l
  · rw [hv] at KV
    clear KS KQ hv
    go_wp2_with (first
      | (go_at_call 19; (with_reducible refine (KV.out _ W1.out).mono ?_); rintro e w2 ⟨rfl, q2⟩)
      | fail)
    go_ret
    exact ⟨rfl, below2 W1.out q2⟩
  have HV := Lib.hid hv
  rw [hv] at KV
  clear hv
  by_cases hx : 100 < nx
  · have hxi : (100 : Int) < (nx : Int) := by omega
    clear KS KQ
    go_wp2_with (first
      | (go_at_call 19; (with_reducible refine (KV.out _ W1.out).mono ?_); rintro e w2 ⟨rfl, q2⟩)
      | fail)
    go_ret
    exact ⟨rfl, below2 W1.out q2⟩
  have hxi : decide ((100 : Int) < (nx : Int)) = false := by simp; omega
  have KS1 := Lib.hid (fun W hW => KS.out HV.out (by have := HNX.out; omega) W hW)
  have KQ1 := Lib.hid (KQ.out HV.out)
  have S1000 := Lib.hid (show (setF num l xs).length ≤ 100 by have := SL.out; have := HNX.out; omega)
  have KP := Lib.hid (fun (s : List Alr) (hl : s.length ≤ 1000) E cE W (hW : Below w.heap.size w W) (hE : AS W W.heap.size s E cE) => C.prop num l A E c cE W.heap.size s W (VV.out W hW) hE (Nat.le_refl _) hl (HT.out W hW))
  have SOK := Lib.hid (setF_ok (xs := xs) HV.out).1
  have POK := Lib.hid (fun a (ha : a ∈ pairsF num l [x]) => pairsF_ok HV.out ha)
  have PL := Lib.hid (show (pairsF num l [x]).length ≤ 1 from pairsF_len)
  generalize setF num l xs = S at *
  generalize pairsF num l [x] = P at *
  obtain ⟨nS, hnS⟩ : ∃ q, q = S.length := ⟨_, rfl⟩
  obtain ⟨np, hnp⟩ : ∃ q, q = P.length := ⟨_, rfl⟩
  have HNS := Lib.hid hnS
  have HNP := Lib.hid hnp
  unfold OutAS at KS1
  unfold OutPf at KQ1
  rw [← HNN.out] at KP
  rw [← hnS] at KS1
  rw [← hnp] at KQ1
  clear hnS hnp KS KQ
  have HU1 := Lib.hid (fun (W : World) => US.one (w := W) hx16 42)
  go_upto_region 7 with (first
    | (go_at_call 19; (with_reducible refine (KV.out _ W1.out).mono ?_); rintro e w2 ⟨rfl, q2⟩; (have c2 := below2 W1.out q2); (have d2 := below2 V1.out q2); (have p2 := FB.out _ d2))
    | (go_at_call 20; (with_reducible refine (KS1.out _ c2).mono ?_); rintro e w3 ⟨X3, c3, rfl, as3, q3⟩; (have u3 := below2 c2 q3); (have d3 := below2 d2 q3); (have p3 := FB.out _ d3))
    | (go_at_call 25; go_loud (with_reducible refine (KQ1.out _ _ _ (u3.alloc u3.size _) ((HU1.out w3).more (by simp))).mono ?_); rintro e w4 ⟨X4, c4, rfl, as4, hok4, hl4, q4⟩)
    | fail)
  have B34 := Lib.hid (show Below w3.heap.size w3 w4 from below2 ((Below.refl _ _).alloc (Nat.le_refl _) _) q4)
  have V4 := Lib.hid (below2 d3 B34.out)
  have W4 := Lib.hid (below2 u3 B34.out)
  have A4 := Lib.hid as4
  have S4 := Lib.hid ((as3.below B34.out).more B34.out.size)
  have p4 := FB.out _ V4.out
  have hnp1 : np ≤ 1 := by rw [HNP.out]; exact PL.out
  clear q2 c2 d2 p2 q3 u3 d3 p3 as3 as4 hok4 hl4 q4 KS1 KQ1 KV HU1 p1
  rcases Nat.eq_zero_or_pos np with h0 | h0
  · subst h0
    go_wp2_with fail
    go_ret
    exact ⟨rfl, W4.out⟩
  obtain rfl : np = 1 := by omega
  obtain ⟨p, hp⟩ : ∃ p, P[0]? = some p := ⟨_, List.getElem?_eq_getElem (by have := HNP.out; omega)⟩
  have hpm : p ∈ P := List.mem_of_getElem? hp
  have HOKP := Lib.hid (POK.out p hpm)
  have EP := Lib.hid (A4.out.el p hpm)
  have R4 := A4.out.rd
  rw [← HNP.out] at R4
  obtain ⟨ad, rfl, -⟩ := alr_at R4 hp
  have PC := Lib.hid (fun W (hW : Below w4.heap.size w4 W) => (at_zero (R4.below hW) hp).2)
  obtain ⟨y0, y1, y2, y3⟩ := PC.out w4 (Below.refl _ _)
  obtain ⟨cn, hcn⟩ : ∃ q, q = cntA S p.subj := ⟨_, rfl⟩
  have KC := Lib.hid (show Calls Tryd.prog 26 #[.slice X3 nS c3, .int .i64 p.subj] w4 (fun e w' => e = .returned (.int .i64 (cn : Int)) ∧ w4 = w') by
    have := refCount_any X3 c3 w4.heap.size S p.subj w4 S4.out
    rwa [← HNS.out, ← hcn] at this)
  rcases Nat.eq_zero_or_pos cn with hz | hz
  rotate_left 1
  · have g1 : (0 : Int) < (cn : Int) := by omega
    clear hz hp R4
    go_wp2_with (first
      | (go_at_call 26; (with_reducible refine KC.out.mono ?_); rintro e w5 ⟨rfl, rfl⟩)
      | fail)
    go_ret
    exact ⟨rfl, W4.out⟩
  have g1 : ¬ (0 : Int) < (cn : Int) := by omega
  have HPE := Lib.hid (propA_noise SOK.out HOKP.out (by rw [← hcn, hz]))
  have LP := Lib.hid (show ((propA K num l S).getD []).length ≤ 100000 from by
    cases hR : propA K num l S with
    | none => simp
    | some cc =>
      have h1 := (propA_some hR).2
      have h2 := susp_len (num := num) (l := l) (s := S) (high := true) (by have := S1000.out; omega)
      show cc.length ≤ 100000
      rcases h1 with e | e
      · rw [e]; exact h2
      · omega)
  obtain ⟨nQ, hnQ⟩ : ∃ q, q = (putA S p).length := ⟨_, rfl⟩
  have hQ5 : nQ ≤ 101 := by have := (putA_len (s := S) (a := p)).2; have := S1000.out; omega
  have KP1 := Lib.hid (fun W (hW : Below w.heap.size w W) (hE : AS W W.heap.size S X3 c3) => by
    have q := KP.out S (by have := S1000.out; omega) X3 c3 W hW hE
    rw [← HNS.out] at q
    exact q)
  have KP2 := Lib.hid (fun E cE W (hW : Below w.heap.size w W) (hE : AS W W.heap.size (putA S p) E cE) => by
    have q := KP.out (putA S p) (by rw [← hnQ]; omega) E cE W hW hE
    rw [← hnQ, HPE.out] at q
    exact q)
  have KU := Lib.hid (fun W (hE : AS W W.heap.size S X3 c3) => by
    have q := refPut_any X3 c3 W.heap.size S p W hE (Nat.le_refl _) (by have := S1000.out; omega)
    rw [← HNS.out] at q
    exact q)
  have EQ := Lib.hid (fun W (hE : AS W W.heap.size S X3 c3) => show ∀ y ∈ putA S p, El y from El.putA EP.out hE.el)
  obtain ⟨b, hb⟩ : ∃ b, b = (propA K num l S).isSome := ⟨_, rfl⟩
  rw [← hb] at KP1 KP2
  generalize (propA K num l S).getD [] = PR at *
  obtain ⟨nP, hnP⟩ : ∃ q, q = PR.length := ⟨_, rfl⟩
  rw [← hnP] at KP1 KP2 LP
  have HNQ := Lib.hid hnQ
  have QP := Lib.hid (fun W X Y x y h h' => same7_at W PR X Y nP x y hnP LP.out h h')
  have SS := Lib.hid (fun W (hW : Below w4.heap.size w4 W) => (S4.out.below hW).more hW.size)
  have FP := Lib.hid (fun W (hW : Below w4.heap.size w4 W) => And.intro (FB.out W (below2 V4.out hW)) (PC.out W hW))
  obtain ⟨pv, pr, po, ps⟩ := p
  dsimp only [alrV] at *
  clear hz hp hpm hb hnP hnQ KP HPE R4 HOKP
  go_upto_region 10 with (first
    | (go_at_call 26; (with_reducible refine KC.out.mono ?_); rintro e w5 ⟨rfl, rfl⟩)
    | (go_at_call 13; (with_reducible refine (KP1.out _ W4.out S4.out).mono ?_); rintro e w6 ⟨A6, c6, rfl, hc6, hr6, q6⟩)
    | fail)
  have Q6 := Lib.hid q6
  have V6 := Lib.hid (below2 V4.out q6)
  have W6 := Lib.hid (below2 W4.out q6)
  have R6 := Lib.hid (fun W (hW : Below w6.heap.size w6 W) => ((hr6.below hW).more hW.size))
  have hbb : (b == b) = true := by simp
  clear y0 y1 y2 y3 p4 q6 hr6 hc6 KC KP1
  have d6 : Below w6.heap.size w6 w6.drew := (Below.refl _ _).drew
  have i6 : Below w6.heap.size w6 w6 := Below.refl _ _
  go_cut [11, 12] from 49 to 57 (fun s11 s12 wx => ∃ X cX, s11 = .slice X nP cX ∧ s12 = .bool b ∧ Hid (Reads wx wx.heap.size 1 X nP (PR.map intV)) ∧ Hid (Below w6.heap.size w6 wx))
  case first =>
    go_region_held3 (fun W' => ((W'.cell? ⟨w.heap.size, 0, none⟩ = some (.int .i64 num) ∧ W'.cell? ⟨w.heap.size, 1, none⟩ = some (.slice A n c)) ∧ W'.cell? ad = some (.int .i64 pv) ∧ W'.cell? ⟨ad.block, ad.off + 1, none⟩ = some (.int .i64 pr) ∧ W'.cell? ⟨ad.block, ad.off + 2, none⟩ = some (.int .i64 po) ∧ W'.cell? ⟨ad.block, ad.off + 3, none⟩ = some (.int .i64 ps))) (first | exact s8 | exact s7 | exact FP.out _ (below2 Q6.out d6) | exact FP.out _ Q6.out) (first
      | (go_at_call 24; (with_reducible refine (KU.out _ (SS.out _ (by first | exact below2 Q6.out d6 | exact Q6.out))).mono ?_); rintro e w7 ⟨v7, rfl, ho7, q7⟩; obtain ⟨X7, c7, rfl, as7⟩ := AS.of_own ho7 (by rw [← HNQ.out]; omega) (EQ.out _ S4.out); rw [← HNQ.out]; have b7 : Below w6.heap.size w6 w7 := (by first | exact q7 | exact bdrewC q7); have s7 := FP.out _ (below2 Q6.out b7))
      | (go_at_call 13; (with_reducible refine (KP2.out _ _ _ (below2 W6.out b7) as7).mono ?_); rintro e w8 ⟨A8, c8, rfl, hc8, hr8, q8⟩; have b8 := below2 b7 q8; have s8 := FP.out _ (below2 Q6.out b8))
      | fail)
    all_goals
      go_wp2_with fail
      go_meet
      exact ⟨A8, c8, rfl, rfl, hr8, b8⟩
  case rest =>
    obtain ⟨X, cX, rfl, rfl, HX, HB⟩ := hcut
    go_wp2_with (first
      | (go_at_call 15; (with_reducible refine (QP.out _ _ _ _ _ (R6.out _ HB.out) HX.out).mono ?_); rintro e w9 ⟨rfl, q9⟩)
      | fail)
    go_ret
    exact ⟨rfl, below2 (below2 W6.out HB.out) q9⟩
end Go.Proofs.YtipipjbpjpdcbaaDoor.Ct
