/- Layer 7: the walk of CutTells. -/
import Derived.Test.YtipipjbpjpdcbaaDoorCAw1
namespace Go.Proofs.YtipipjbpjpdcbaaDoor.Ct
set_option linter.unusedVariables false
set_option linter.unusedSimpArgs false
open Go.RowKit
open Go.Proofs.YtipipjbpjpdcbaaDoor.W
open Go.Proofs.YtipipjbpjpdcbaaDoor.V
open Go.Proofs.YtipipjbpjpdcbaaDoor.O
open Go.Proofs.YtipipjbpjpdcbaaDoor.Pb (Alr alrC alrsC len_alrsC step_append_alr reads_blk)
open Go.Proofs.YtipipjbpjpdcbaaDoor.Al

set_option maxRecDepth 1000000 in
set_option maxHeartbeats 2000000 in
theorem small7_any (num : Int) (A E : Option Addr) (n c m cE : Nat) (w : World) :
    Calls Tryd.prog 10 #[.agg #[.int .i64 num, .slice A n c], .slice E m cE] w (PB w (decide (n ≤ 60) && decide (m ≤ 150))) := by
  have hb := (Below.refl w.heap.size w).alloc (Nat.le_refl _) (.cells #[.int .i64 num, .slice A n c] 24)
  have HB := Lib.hid hb
  obtain ⟨t, ht0⟩ : ∃ t, t = (decide (n ≤ 60) && decide (m ≤ 150)) := ⟨_, rfl⟩
  rw [← ht0]
  by_cases h1 : n ≤ 60
  · by_cases h2 : m ≤ 150
    · have ht := Lib.hid (show t = true by rw [ht0]; simp [h1, h2])
      have d1 : decide ((n : Int) ≤ 60) = true := by simp; omega
      have d2 : decide ((m : Int) ≤ 150) = true := by simp; omega
      clear ht0 h1 h2 hb
      go_enter Tryd.func10, Tryd.ntmps10
      go_wp2_with fail
      all_goals try (exfalso; simp at d1 d2; omega)
      go_ret
      exact ⟨by rw [ht.out]; rfl, HB.out⟩
    · have ht := Lib.hid (show t = false by rw [ht0]; simp [h2])
      have d1 : decide ((n : Int) ≤ 60) = true := by simp; omega
      have d2 : decide ((m : Int) ≤ 150) = false := by simp; omega
      clear ht0 h1 h2 hb
      go_enter Tryd.func10, Tryd.ntmps10
      go_wp2_with fail
      all_goals try (exfalso; simp at d1 d2; omega)
      go_ret
      exact ⟨by rw [ht.out]; rfl, HB.out⟩
  · have ht := Lib.hid (show t = false by rw [ht0]; simp [h1])
    have d1 : decide ((n : Int) ≤ 60) = false := by simp; omega
    clear ht0 h1 hb
    go_enter Tryd.func10, Tryd.ntmps10
    go_wp2_with fail
    all_goals try (exfalso; simp at d1; omega)
    go_ret
    exact ⟨by rw [ht.out]; rfl, HB.out⟩

theorem same7_at (W : World) (xs : List Int) (X Y : Option Addr) (n x y : Nat) (hn : n = xs.length) (hl : n ≤ 100000) (h : Reads W W.heap.size 1 X n (xs.map intV)) (h' : Reads W W.heap.size 1 Y n (xs.map intV)) :
    Calls Tryd.prog 15 #[.slice X n x, .slice Y n y] W (PB W true) := by
  subst hn
  refine (law7same_any X Y x y _ _ xs xs W h h' (by omega) (by omega)).mono fun e w' h => ?_
  obtain ⟨h1, k, rfl⟩ := h
  exact ⟨by rw [h1]; simp, below_drewN' (Below.refl _ _) _⟩
set_option maxRecDepth 1000000 in
set_option maxHeartbeats 16000000 in
theorem lawTells_of (C : CutC) (num : Int) (l : List Int) (A E : Option Addr) (c cE : Nat) (s : List Alr) (w : World) (h : VW w w.heap.size num l A c) (hs : AS w w.heap.size s E cE) (ht : H.Tab w) :
    Calls Tryd.prog 3 #[.agg #[.int .i64 num, .slice A l.length c], .slice E s.length cE] w (PB w true) := by
  have hb0 := (Below.refl w.heap.size w).alloc (Nat.le_refl _) (.cells #[.int .i64 num, .slice A l.length c] 24)
  have hz := Blk.new w 24 #[.int .i64 num, .slice A l.length c]
  have HT := Lib.hid (fun W (hW : Below w.heap.size w W) => ht.on hW)
  have AW := Lib.hid (fun W (hW : Below w.heap.size w W) => awake_of C W (HT.out W hW))
  have SA := Lib.hid (fun W => small7_any num A E l.length c s.length cE W)
  have VV := Lib.hid (fun W (hW : Below w.heap.size w W) => h.below hW)
  have SS := Lib.hid (fun W (hW : Below w.heap.size w W) => hs.below hW)
  obtain ⟨n, hn⟩ : ∃ n, n = l.length := ⟨_, rfl⟩
  obtain ⟨ns, hns⟩ : ∃ n, n = s.length := ⟨_, rfl⟩
  have HNN := Lib.hid hn
  have HNS := Lib.hid hns
  obtain ⟨sa, hsa⟩ : ∃ t, t = (decide (l.length ≤ 60) && decide (s.length ≤ 150)) := ⟨_, rfl⟩
  have HSA := Lib.hid hsa
  rw [← hsa, ← hn, ← hns] at SA
  rw [← hn] at hb0 hz ⊢
  rw [← hns] at ⊢
  have B0 := Lib.hid hb0
  have Z1 := Lib.hid hz
  clear hb0 hz hn hns hsa h hs ht
  go_enter Tryd.func3, Tryd.ntmps3
  go_upto_region 1 with fail
  generalize w.alloc (.cells #[.int .i64 num, .slice A n c] 24) = w0 at *
  have FB := Lib.hid (fun W (hW : Below w0.heap.size w0 W) => (blk2 (Z1.out.below hW Z1.out.lt)))
  go_upto_region 3 with (first
    | (go_at_call 9; (with_reducible refine (AW.out _ B0.out).mono ?_); rintro e w1 ⟨rfl, q1⟩)
    | fail)
  have V1 := Lib.hid q1
  have W1 := Lib.hid (below2 B0.out q1)
  have p1 := FB.out _ V1.out
  clear q1 AW
  cases hv : sa
  · rw [hv] at SA
    go_wp2_with (first
      | (go_at_call 10; (with_reducible refine (SA.out _).mono ?_); rintro e w2 ⟨rfl, q2⟩)
      | fail)
    go_ret
    exact ⟨rfl, below2 W1.out q2⟩
  rw [hv] at SA HSA
  have hs150 : s.length ≤ 150 := by
    have h1 := HSA.out
    have h2 : (decide (l.length ≤ 60) && decide (s.length ≤ 150)) = true := h1.symm
    simp at h2
    exact h2.2
  have KC := Lib.hid (fun W (hW : Below w.heap.size w W) => C.counts num l A E c cE w.heap.size s W (VV.out W hW) (SS.out W hW) hW.size (by omega) (HT.out W hW))
  have KP := Lib.hid (fun W (hW : Below w.heap.size w W) => C.prop num l A E c cE w.heap.size s W (VV.out W hW) (SS.out W hW) hW.size (by omega) (HT.out W hW))
  have KU := Lib.hid (fun W (hW : Below w.heap.size w W) => C.unst num l A E c cE w.heap.size s W (VV.out W hW) (SS.out W hW) hW.size (by omega) (HT.out W hW))
  have KS := Lib.hid (fun W (hW : Below w.heap.size w W) => C.stab num l A E c cE w.heap.size s W (VV.out W hW) (SS.out W hW) hW.size (by omega) (HT.out W hW))
  have RC := Lib.hid (fun W (hW : Below w.heap.size w W) => refCounts_any num l A E c cE w.heap.size s W (VV.out W hW) (SS.out W hW) hW.size (by omega))
  have RP := Lib.hid (fun W (hW : Below w.heap.size w W) => refPropose_any num l A E c cE w.heap.size s W (VV.out W hW) (SS.out W hW) hW.size (by omega))
  have RU := Lib.hid (fun W (hW : Below w.heap.size w W) => refSuspects_any num l A E c cE w.heap.size s false W (VV.out W hW) (SS.out W hW) hW.size (by omega))
  have RS := Lib.hid (fun W (hW : Below w.heap.size w W) => refSuspects_any num l A E c cE w.heap.size s true W (VV.out W hW) (SS.out W hW) hW.size (by omega))
  have L1 := Lib.hid (susp_len (num := num) (l := l) (s := s) (high := true) (by omega))
  have L0 := Lib.hid (susp_len (num := num) (l := l) (s := s) (high := false) (by omega))
  have LT := Lib.hid (tal_len (num := num) (l := l) (s := s) (by omega))
  have LP := Lib.hid (show ((propA K num l s).getD []).length ≤ 100000 from by
    cases hR : propA K num l s with
    | none => simp
    | some cc =>
      have h1 := (propA_some hR).2
      have h2 := L1.out
      show cc.length ≤ 100000
      rcases h1 with e | e
      · rw [e]; exact h2
      · omega)
  obtain ⟨b, hb⟩ : ∃ b, b = (propA K num l s).isSome := ⟨_, rfl⟩
  rw [← hb] at KP RP
  clear hb hs150
  generalize (propA K num l s).getD [] = P at *
  generalize susp K num l s true = ST at *
  generalize susp K num l s false = SF at *
  generalize tallies K num l s = T at *
  rw [← HNN.out, ← HNS.out] at KC KP KU KS RC RP RU RS
  obtain ⟨nt, hnt⟩ : ∃ q, q = T.length := ⟨_, rfl⟩
  have HNT := Lib.hid hnt
  rw [← hnt] at KC RC
  have hnt5 : nt ≤ 100000 := by rw [hnt]; exact LT.out
  clear hnt
  obtain ⟨nP, hnP⟩ : ∃ q, q = P.length := ⟨_, rfl⟩
  obtain ⟨n1, hn1⟩ : ∃ q, q = ST.length := ⟨_, rfl⟩
  obtain ⟨n0, hn0⟩ : ∃ q, q = SF.length := ⟨_, rfl⟩
  rw [← hnP] at KP RP LP
  rw [← hn1] at L1
  rw [← hn0] at L0
  have KU := Lib.hid (fun W hW => (KU.out W hW).mono fun _ _ h => outInt_n h n0 hn0)
  have KS := Lib.hid (fun W hW => (KS.out W hW).mono fun _ _ h => outInt_n h n1 hn1)
  have RU := Lib.hid (fun W hW => (RU.out W hW).mono fun _ _ h => outInt_n h n0 hn0)
  have RS := Lib.hid (fun W hW => (RS.out W hW).mono fun _ _ h => outInt_n h n1 hn1)
  have QP := Lib.hid (fun W X Y x y h h' => same7_at W P X Y nP x y hnP LP.out h h')
  have Q1 := Lib.hid (fun W X Y x y h h' => same7_at W ST X Y n1 x y hn1 L1.out h h')
  have Q0 := Lib.hid (fun W X Y x y h h' => same7_at W SF X Y n0 x y hn0 L0.out h h')
  clear hnP hn1 hn0
  go_upto_region 5 with (first
    | (go_at_call 10; (with_reducible refine (SA.out _).mono ?_); rintro e w2 ⟨rfl, q2⟩)
    | fail)
  have V2 := Lib.hid (below2 V1.out q2)
  have W2 := Lib.hid (below2 W1.out q2)
  have p2 := FB.out _ V2.out
  clear q2 p1 SA
  go_cut [5, 6] from 18 to 23 (fun s5 s6 wx => ∃ X cX Y cY, s5 = .slice X nt cX ∧ s6 = .slice Y nt cY ∧ Hid (Reads wx wx.heap.size 3 X nt (tlysC T)) ∧ Hid (Reads wx wx.heap.size 3 Y nt (tlysC T)) ∧ Hid (Below w2.heap.size w2 wx))
  case first =>
    go_region_held3 (fun W' => (W'.cell? ⟨w.heap.size, 0, none⟩ = some (.int .i64 num) ∧ W'.cell? ⟨w.heap.size, 1, none⟩ = some (.slice A n c))) (first | exact s4 | exact s3 | exact FB.out _ V2.out.drew | exact FB.out _ V2.out) (first
      | (go_at_call 11; (with_reducible refine (KC.out _ (by first | exact below2 W2.out b4 | exact W2.out.drew | exact W2.out)).mono ?_); rintro e w3 ⟨X3, c3, rfl, t3, q3⟩; have b3 : Below w2.heap.size w2 w3 := (by first | exact q3 | exact bdrewC q3 | exact below2 b4 q3); have s3 := FB.out _ (below2 V2.out b3))
      | (go_at_call 12; (with_reducible refine (RC.out _ (by first | exact below2 W2.out b3 | exact W2.out.drew | exact W2.out)).mono ?_); rintro e w4 ⟨X4, c4, rfl, t4, q4⟩; have b4 : Below w2.heap.size w2 w4 := (by first | exact q4 | exact bdrewC q4 | exact below2 b3 q4); have s4 := FB.out _ (below2 V2.out b4))
      | fail)
    all_goals
      have k34 : Below w3.heap.size w3 w4 := by first | exact q4 | exact bdrewC q4
      have r3 : Reads w4 w4.heap.size 3 X3 nt (tlysC T) := by have := (t3.step k34).rd; rwa [← HNT.out] at this
      have r4 : Reads w4 w4.heap.size 3 X4 nt (tlysC T) := by have := t4.rd; rwa [← HNT.out] at this
      go_wp2_with fail
      go_meet
      exact ⟨X3, c3, X4, c4, rfl, rfl, r3, r4, b4⟩
  case rest =>
    obtain ⟨X, cX, Y, cY, rfl, rfl, HX, HY, HB⟩ := hcut
    obtain ⟨w5, rfl⟩ : ∃ x, x = wc := ⟨_, rfl⟩
    have V5 := Lib.hid (below2 V2.out HB.out)
    have W5 := Lib.hid (below2 W2.out HB.out)
    have p5 := FB.out _ V5.out
    clear p2 KC RC
    go_wp2_with fail
    go_loopg [7] nt (fun gk s7 wr => ∃ k q : Nat, k + gk = nt ∧ s7 = .int .i64 k ∧ wr = w5.drewN q)
    case atStart => exact ⟨0, 0, by omega, rfl, rfl⟩
    case round =>
      obtain ⟨k, q, hkg, rfl, rfl⟩ := hrel
      cases gk with
      | zero =>
        have hkz : ¬ ((k : Int) < (nt : Int)) := by omega
        obtain ⟨w6, hw6⟩ : ∃ x, x = w5.drewN q := ⟨_, rfl⟩
        have V6 := Lib.hid (show Below w0.heap.size w0 w6 by rw [hw6]; exact below_drewN' V5.out q)
        have W6 := Lib.hid (show Below w.heap.size w w6 by rw [hw6]; exact below_drewN' W5.out q)
        rw [← hw6]
        clear hw6 p5
        have p6 := FB.out _ V6.out
        have hbb : (b == b) = true := by simp
        go_upto_region 15 with (first
          | (go_at_call 13; (with_reducible refine (KP.out _ W6.out).mono ?_); rintro e w7 ⟨A7, c7, rfl, hc7, hr7, q7⟩; have W7 := below2 W6.out q7; have p7 := FB.out _ (below2 V6.out q7))
          | (go_at_call 14; (with_reducible refine (RP.out _ W7).mono ?_); rintro e w8 ⟨A8, c8, rfl, hc8, hr8, q8⟩)
          | fail)
        have V8 := Lib.hid (below2 (below2 V6.out q7) q8)
        have W8 := Lib.hid (below2 W7 q8)
        have R7 := Lib.hid (fun W (hW : Below w8.heap.size w8 W) => ((((hr7.below q8).more q8.size).below hW).more hW.size))
        have R8 := Lib.hid (fun W (hW : Below w8.heap.size w8 W) => ((hr8.below hW).more hW.size))
        clear p6 p7 hr7 hr8 q7 q8 W7 hc7 hc8 KP RP
        have d8 : Below w8.heap.size w8 w8.drew := (Below.refl _ _).drew
        have i8 : Below w8.heap.size w8 w8 := Below.refl _ _
        go_region_held3 (fun W' => (W'.cell? ⟨w.heap.size, 0, none⟩ = some (.int .i64 num) ∧ W'.cell? ⟨w.heap.size, 1, none⟩ = some (.slice A n c))) (first | exact s15 | exact s14 | exact s13 | exact s12 | exact s11 | exact s10 | exact s9 | exact FB.out _ V8.out.drew | exact FB.out _ V8.out) (first
          | (go_at_call 15; (with_reducible refine (QP.out _ A7 A8 c7 c8 (R7.out _ (by first | exact d8 | exact i8)) (R8.out _ (by first | exact d8 | exact i8))).mono ?_); rintro e w9 ⟨rfl, q9⟩; have b9 : Below w8.heap.size w8 w9 := (by first | exact q9 | exact bdrewC q9); have s9 := FB.out _ (below2 V8.out b9))
          | (go_at_call 16; (with_reducible refine (KU.out _ (below2 W8.out b9)).mono ?_); rintro e w10 ⟨A10, c10, rfl, hc10, hr10, q10⟩; have b10 := below2 b9 q10; have s10 := FB.out _ (below2 V8.out b10))
          | (go_at_call 17; (with_reducible refine (RU.out _ (below2 W8.out b10)).mono ?_); rintro e w11 ⟨A11, c11, rfl, hc11, hr11, q11⟩; have b11 := below2 b10 q11; have s11 := FB.out _ (below2 V8.out b11))
          | (go_at_call 15; (with_reducible refine (Q0.out _ A10 A11 c10 c11 ((hr10.below q11).more q11.size) hr11).mono ?_); rintro e w12 ⟨rfl, q12⟩; have b12 := below2 b11 q12; have s12 := FB.out _ (below2 V8.out b12))
          | (go_at_call 18; (with_reducible refine (KS.out _ (below2 W8.out b12)).mono ?_); rintro e w13 ⟨A13, c13, rfl, hc13, hr13, q13⟩; have b13 := below2 b12 q13; have s13 := FB.out _ (below2 V8.out b13))
          | (go_at_call 17; (with_reducible refine (RS.out _ (below2 W8.out b13)).mono ?_); rintro e w14 ⟨A14, c14, rfl, hc14, hr14, q14⟩; have b14 := below2 b13 q14; have s14 := FB.out _ (below2 V8.out b14))
          | (go_at_call 15; (with_reducible refine (Q1.out _ A13 A14 c13 c14 ((hr13.below q14).more q14.size) hr14).mono ?_); rintro e w15 ⟨rfl, q15⟩; have b15 := below2 b14 q15; have s15 := FB.out _ (below2 V8.out b15))
          | fail)
        all_goals
          go_wp2_with fail
          go_ret
          exact ⟨rfl, below2 W8.out b15⟩
      | succ gi =>
        have hkz : (k : Int) < (nt : Int) := by omega
        obtain ⟨x, hx⟩ : ∃ x, T[k]? = some x := ⟨_, List.getElem?_eq_getElem (by have := HNT.out; omega)⟩
        obtain ⟨ad, rfl, -, -, x0, x1, x2⟩ := tly_at HX.out hx
        obtain ⟨bd, rfl, -, -, y0, y1, y2⟩ := tly_at HY.out hx
        clear hx
        go_wp2_with fail
        go_quiet (fail)
        go_wp2_with fail
        go_roundg gi
        case measure => omega
        case rel => exact ⟨k + 1, q + nq, by omega, by go_num, by first | rfl | rw [World.drewN_drewN]⟩
end Go.Proofs.YtipipjbpjpdcbaaDoor.Ct
