/- Layer 6: the walk of AlertsUnion. -/
import Derived.Test.YtojhdljbpmjigaaDoorACount
namespace Go.Proofs.YtojhdljbpmjigaaDoor.Al
set_option linter.unusedVariables false
open Go.RowKit
open Go.Proofs.YtojhdljbpmjigaaDoor.W
open Go.Proofs.YtojhdljbpmjigaaDoor.V
open Go.Proofs.YtojhdljbpmjigaaDoor.O
open Go.Proofs.YtojhdljbpmjigaaDoor.Pb (Alr alrC alrsC two_blk)

theorem mrg_ok {K : Int → Int → Nat} {num : Int} {l : List Int} {a b : List Alr} (ha : okS K num l a = true) (hb : okS K num l b = true) : mrgS K num l a b = mergeA a b ∧ mrgE K num l a b = 0 ∧ okS K num l (mergeA a b) = true := by
  refine ⟨?_, ?_, (okS_merge ha (okS_iff.1 hb).2.1).1⟩
  · unfold mrgS; rw [ha, hb]; rfl
  · unfold mrgE; rw [ha, hb]; rfl
def OutMN (w : World) (O : List Alr) (e : Ending) (w' : World) : Prop := ∃ A c, e = .returned (.tuple #[.slice A O.length c, .int .i64 0]) ∧ AS w' w'.heap.size O A c ∧ Below w.heap.size w w'
theorem mrg_len {a b : List Alr} {n : Nat} (h : (mergeA a b).length = n) : a.length ≤ n ∧ n ≤ a.length + b.length := by
  subst h; exact merge_len
set_option maxRecDepth 1000000 in
set_option maxHeartbeats 8000000 in
theorem lawUnion_any (num : Int) (l : List Int) (A L1 L2 L3 : Option Addr) (c cL1 cL2 cL3 : Nat) (xs ys zs : List Nat) (w : World) (h : VW w w.heap.size num l A c) (hs1 : US w w.heap.size xs L1 cL1) (hs2 : US w w.heap.size ys L2 cL2) (hs3 : US w w.heap.size zs L3 cL3) (ht : H.Tab w) :
    Calls Tryd.prog 6 #[.agg #[.int .i64 num, .slice A l.length c], .slice L1 xs.length cL1, .slice L2 ys.length cL2, .slice L3 zs.length cL3] w (PB w true) := by
  have hb0 := (Below.refl w.heap.size w).alloc (Nat.le_refl _) (.cells #[.int .i64 num, .slice A l.length c] 24)
  have hz := Blk.new w 24 #[.int .i64 num, .slice A l.length c]
  have AW := Lib.hid (fun W (hW : Below w.heap.size w W) => awake_any W (ht.on hW))
  have KV := Lib.hid (fun W (hW : Below w.heap.size w W) => refValid_any num l A c w.heap.size W (h.below hW) hW.size)
  by_cases hv : validV num l = true
  case neg =>
    have hv' : validV num l = false := by simpa using hv
    rw [hv'] at KV
    dsimp only [vwV] at KV
    have B0 := Lib.hid hb0
    have Z1 := Lib.hid hz
    clear hb0 hz h hs1 hs2 hs3 ht hv hv'
    generalize l.length = nl at *
    generalize xs.length = n1 at *
    generalize ys.length = n2 at *
    generalize zs.length = n3 at *
    go_enter Tryd.func6, Tryd.ntmps6
    go_upto_region 1 with fail
    generalize w.alloc (.cells #[.int .i64 num, .slice A nl c] 24) = w0 at *
    have FB := Lib.hid (fun W (hW : Below w0.heap.size w0 W) => blk2 (Z1.out.below hW Z1.out.lt))
    go_wp2_with (first
      | (go_at_call 9; (with_reducible refine (AW.out _ B0.out).mono ?_); rintro e w1 ⟨rfl, b1⟩; (have p1 := FB.out _ b1); (have c1 := below2s B0.out b1))
      | (go_at_call 24; (with_reducible refine (KV.out _ c1).mono ?_); rintro e w2 ⟨rfl, b2⟩)
      | fail)
    go_ret
    exact ⟨rfl, below2s c1 b2⟩
  have HV := Lib.hid hv
  have KP1 := Lib.hid (fun W (hW : Below w.heap.size w W) => pairs_any num l A L1 c cL1 w.heap.size xs W (h.below hW) (hs1.below hW) hW.size hv)
  have KP2 := Lib.hid (fun W (hW : Below w.heap.size w W) => pairs_any num l A L2 c cL2 w.heap.size ys W (h.below hW) (hs2.below hW) hW.size hv)
  have KP3 := Lib.hid (fun W (hW : Below w.heap.size w W) => pairs_any num l A L3 c cL3 w.heap.size zs W (h.below hW) (hs3.below hW) hW.size hv)
  have KG := Lib.hid (fun P X cX W (hW : Below w.heap.size w W) (hO : AS W W.heap.size P X cX) (hP : ∀ x ∈ P, okA K num l x = true) (hm : P.length ≤ 1000) => gather_any num l A X c cX W.heap.size P W ((h.below hW).more hW.size) hO (Nat.le_refl _) hv hP hm (ht.on hW))
  have KM := Lib.hid (fun S1 S2 X1 X2 k1 k2 W (hW : Below w.heap.size w W) (hS1 : AS W W.heap.size S1 X1 k1) (hS2 : AS W W.heap.size S2 X2 k2) (ok1 : okS K num l S1 = true) (ok2 : okS K num l S2 = true) (h1 : S1.length ≤ 1000) (h2 : S2.length ≤ 1000) (O : List Alr) (hO : O = mergeA S1 S2) => by
    have := alMerge_any num l A X1 X2 c k1 k2 W.heap.size S1 S2 W ((h.below hW).more hW.size) hS1 hS2 (Nat.le_refl _) h1 h2 (ht.on hW)
    rw [(mrg_ok ok1 ok2).1, (mrg_ok ok1 ok2).2.1, ← hO] at this
    exact this)
  rw [hv] at KV
  dsimp only [vwV] at KV
  have B0 := Lib.hid hb0
  have Z1 := Lib.hid hz
  clear hb0 hz h hs1 hs2 hs3 ht hv
  generalize hnl : l.length = nl at *
  generalize xs.length = n1 at *
  generalize ys.length = n2 at *
  generalize zs.length = n3 at *
  clear hnl
  by_cases h1 : n1 ≤ 40
  case neg =>
    have d1 : decide ((40 : Int) < (n1 : Int)) = true := by simp; omega
    have e1 : 40 < n1 := by omega
    clear KP1 KP2 KP3 KG KM h1
    go_enter Tryd.func6, Tryd.ntmps6
    go_upto_region 1 with fail
    generalize w.alloc (.cells #[.int .i64 num, .slice A nl c] 24) = w0 at *
    have FB := Lib.hid (fun W (hW : Below w0.heap.size w0 W) => blk2 (Z1.out.below hW Z1.out.lt))
    go_wp2_with (first
      | (go_at_call 9; (with_reducible refine (AW.out _ B0.out).mono ?_); rintro e w1 ⟨rfl, b1⟩; (have p1 := FB.out _ b1); (have c1 := below2s B0.out b1))
      | (go_at_call 24; (with_reducible refine (KV.out _ c1).mono ?_); rintro e w2 ⟨rfl, b2⟩)
      | fail)
    go_ret
    exact ⟨rfl, below2s c1 b2⟩
  have d1 : decide ((40 : Int) < (n1 : Int)) = false := by simp; omega
  have e1 : ¬ 40 < n1 := by omega
  by_cases h2 : n2 ≤ 40
  case neg =>
    have d2 : decide ((40 : Int) < (n2 : Int)) = true := by simp; omega
    have e2 : 40 < n2 := by omega
    clear KP1 KP2 KP3 KG KM h2
    go_enter Tryd.func6, Tryd.ntmps6
    go_upto_region 1 with fail
    generalize w.alloc (.cells #[.int .i64 num, .slice A nl c] 24) = w0 at *
    have FB := Lib.hid (fun W (hW : Below w0.heap.size w0 W) => blk2 (Z1.out.below hW Z1.out.lt))
    go_wp2_with (first
      | (go_at_call 9; (with_reducible refine (AW.out _ B0.out).mono ?_); rintro e w1 ⟨rfl, b1⟩; (have p1 := FB.out _ b1); (have c1 := below2s B0.out b1))
      | (go_at_call 24; (with_reducible refine (KV.out _ c1).mono ?_); rintro e w2 ⟨rfl, b2⟩)
      | fail)
    go_ret
    exact ⟨rfl, below2s c1 b2⟩
  have d2 : decide ((40 : Int) < (n2 : Int)) = false := by simp; omega
  have e2 : ¬ 40 < n2 := by omega
  by_cases h3 : n3 ≤ 40
  case neg =>
    have d3 : decide ((40 : Int) < (n3 : Int)) = true := by simp; omega
    have e3 : 40 < n3 := by omega
    clear KP1 KP2 KP3 KG KM h3
    go_enter Tryd.func6, Tryd.ntmps6
    go_upto_region 1 with fail
    generalize w.alloc (.cells #[.int .i64 num, .slice A nl c] 24) = w0 at *
    have FB := Lib.hid (fun W (hW : Below w0.heap.size w0 W) => blk2 (Z1.out.below hW Z1.out.lt))
    go_wp2_with (first
      | (go_at_call 9; (with_reducible refine (AW.out _ B0.out).mono ?_); rintro e w1 ⟨rfl, b1⟩; (have p1 := FB.out _ b1); (have c1 := below2s B0.out b1))
      | (go_at_call 24; (with_reducible refine (KV.out _ c1).mono ?_); rintro e w2 ⟨rfl, b2⟩)
      | fail)
    go_ret
    exact ⟨rfl, below2s c1 b2⟩
  have d3 : decide ((40 : Int) < (n3 : Int)) = false := by simp; omega
  have e3 : ¬ 40 < n3 := by omega
  go_enter Tryd.func6, Tryd.ntmps6
  go_upto_region 1 with fail
  generalize w.alloc (.cells #[.int .i64 num, .slice A nl c] 24) = w0 at *
  have FB := Lib.hid (fun W (hW : Below w0.heap.size w0 W) => blk2 (Z1.out.below hW Z1.out.lt))
  go_upto_region 5 with (first
    | (go_at_call 9; (with_reducible refine (AW.out _ B0.out).mono ?_); rintro e w1 ⟨rfl, b1⟩; (have p1 := FB.out _ b1); (have c1 := below2s B0.out b1))
    | (go_at_call 24; (with_reducible refine (KV.out _ c1).mono ?_); rintro e w2 ⟨rfl, b2⟩)
    | fail)
  have W2 := Lib.hid (below2s c1 b2)
  have V2 := Lib.hid (below2s b1 b2)
  clear p1 b1 c1 b2 AW KV
  have p2 := FB.out _ V2.out
  go_cut [9, 10] from 47 to 55 (fun s5 s6 wx => s6 = .bool true ∧ Hid (Got num l n1 w2 wx s5))
  case first =>
    go_region_held3 (fun W' => (W'.cell? ⟨w.heap.size, 0, none⟩ = some (.int .i64 num) ∧ W'.cell? ⟨w.heap.size, 1, none⟩ = some (.slice A nl c))) (first | exact s4 | exact s3 | exact FB.out _ V2.out.drew | exact FB.out _ V2.out) (first
      | (go_at_call 25; (with_reducible refine (KP1.out _ (below2s W2.out (by first | exact (Below.refl _ _).drew | exact Below.refl _ _))).mono ?_); rintro e w3 ⟨P, X3, k3, rfl, as3, hP, hPn, q3⟩; have b3 : Below w2.heap.size w2 w3 := below2s (by first | exact (Below.refl _ _).drew | exact Below.refl _ _) q3; have s3 := FB.out _ (below2s V2.out b3))
      | (go_at_call 26; (with_reducible refine (KG.out P X3 k3 _ (below2s W2.out (by first | exact b3 | exact b3.drew)) (by first | exact as3 | exact AS.on as3 (Below.refl _ _).drew) hP (by omega)).mono ?_); rintro e w4 ⟨X4, k4, rfl, as4, q4⟩; have b4 : Below w2.heap.size w2 w4 := below2s (by first | exact b3 | exact b3.drew) q4; have s4 := FB.out _ (below2s V2.out b4))
      | fail)
    all_goals
      have G4 := got_of HV.out hP hPn b4 as4
      go_wp2_with fail
      go_meet
      first
        | exact ⟨rfl, G4⟩
        | exact ⟨rfl, G4.drew⟩
  case rest =>
    obtain ⟨rfl, G1⟩ := hcut
    obtain ⟨wg1, rfl⟩ : ∃ x, x = wc := ⟨_, rfl⟩
    obtain ⟨S1, Y1, q1, rfl, ok1, hl1, as1, bg1⟩ := G1.out
    have WG1 := Lib.hid (below2s W2.out bg1)
    have VG1 := Lib.hid (below2s V2.out bg1)
    have AG1 := Lib.hid as1
    have OK1 := Lib.hid ok1
    have BG1 := Lib.hid bg1
    clear p2 G1 ok1 as1 bg1
    go_upto_region 6 with fail
    have p2 := FB.out _ VG1.out
    go_cut [11, 12] from 55 to 63 (fun s5 s6 wx => s6 = .bool true ∧ Hid (Got num l n2 wg1 wx s5))
    case first =>
      go_region_held3 (fun W' => (W'.cell? ⟨w.heap.size, 0, none⟩ = some (.int .i64 num) ∧ W'.cell? ⟨w.heap.size, 1, none⟩ = some (.slice A nl c))) (first | exact s4 | exact s3 | exact FB.out _ VG1.out.drew | exact FB.out _ VG1.out) (first
        | (go_at_call 25; (with_reducible refine (KP2.out _ (below2s WG1.out (by first | exact (Below.refl _ _).drew | exact Below.refl _ _))).mono ?_); rintro e w3 ⟨P, X3, k3, rfl, as3, hP, hPn, q3⟩; have b3 : Below wg1.heap.size wg1 w3 := below2s (by first | exact (Below.refl _ _).drew | exact Below.refl _ _) q3; have s3 := FB.out _ (below2s VG1.out b3))
        | (go_at_call 26; (with_reducible refine (KG.out P X3 k3 _ (below2s WG1.out (by first | exact b3 | exact b3.drew)) (by first | exact as3 | exact AS.on as3 (Below.refl _ _).drew) hP (by omega)).mono ?_); rintro e w4 ⟨X4, k4, rfl, as4, q4⟩; have b4 : Below wg1.heap.size wg1 w4 := below2s (by first | exact b3 | exact b3.drew) q4; have s4 := FB.out _ (below2s VG1.out b4))
        | fail)
      all_goals
        have G4 := got_of HV.out hP hPn b4 as4
        go_wp2_with fail
        go_meet
        first
          | exact ⟨rfl, G4⟩
          | exact ⟨rfl, G4.drew⟩
    case rest =>
      obtain ⟨rfl, G2⟩ := hcut
      obtain ⟨wg2, rfl⟩ : ∃ x, x = wc := ⟨_, rfl⟩
      obtain ⟨S2, Y2, q2, rfl, ok2, hl2, as2, bg2⟩ := G2.out
      have WG2 := Lib.hid (below2s WG1.out bg2)
      have VG2 := Lib.hid (below2s VG1.out bg2)
      have AG2 := Lib.hid as2
      have OK2 := Lib.hid ok2
      have BG2 := Lib.hid bg2
      clear p2 G2 ok2 as2 bg2
      go_upto_region 7 with fail
      have p2 := FB.out _ VG2.out
      go_cut [13, 14] from 63 to 71 (fun s5 s6 wx => s6 = .bool true ∧ Hid (Got num l n3 wg2 wx s5))
      case first =>
        go_region_held3 (fun W' => (W'.cell? ⟨w.heap.size, 0, none⟩ = some (.int .i64 num) ∧ W'.cell? ⟨w.heap.size, 1, none⟩ = some (.slice A nl c))) (first | exact s4 | exact s3 | exact FB.out _ VG2.out.drew | exact FB.out _ VG2.out) (first
          | (go_at_call 25; (with_reducible refine (KP3.out _ (below2s WG2.out (by first | exact (Below.refl _ _).drew | exact Below.refl _ _))).mono ?_); rintro e w3 ⟨P, X3, k3, rfl, as3, hP, hPn, q3⟩; have b3 : Below wg2.heap.size wg2 w3 := below2s (by first | exact (Below.refl _ _).drew | exact Below.refl _ _) q3; have s3 := FB.out _ (below2s VG2.out b3))
          | (go_at_call 26; (with_reducible refine (KG.out P X3 k3 _ (below2s WG2.out (by first | exact b3 | exact b3.drew)) (by first | exact as3 | exact AS.on as3 (Below.refl _ _).drew) hP (by omega)).mono ?_); rintro e w4 ⟨X4, k4, rfl, as4, q4⟩; have b4 : Below wg2.heap.size wg2 w4 := below2s (by first | exact b3 | exact b3.drew) q4; have s4 := FB.out _ (below2s VG2.out b4))
          | fail)
        all_goals
          have G4 := got_of HV.out hP hPn b4 as4
          go_wp2_with fail
          go_meet
          first
            | exact ⟨rfl, G4⟩
            | exact ⟨rfl, G4.drew⟩
      case rest =>
        obtain ⟨rfl, G3⟩ := hcut
        obtain ⟨wg3, rfl⟩ : ∃ x, x = wc := ⟨_, rfl⟩
        obtain ⟨S3, Y3, q3, rfl, ok3, hl3, as3, bg3⟩ := G3.out
        have WG3 := Lib.hid (below2s WG2.out bg3)
        have VG3 := Lib.hid (below2s VG2.out bg3)
        have AG3 := Lib.hid as3
        have OK3 := Lib.hid ok3
        have BG3 := Lib.hid bg3
        clear p2 G3 ok3 as3 bg3
        have p3 := FB.out _ VG3.out
        have A1 := Lib.hid (AS.on AG1.out (below2s BG2.out BG3.out))
        have A2 := Lib.hid (AS.on AG2.out BG3.out)
        have L1' := Lib.hid (show S1.length ≤ 40 by omega)
        have L2' := Lib.hid (show S2.length ≤ 40 by omega)
        have L3' := Lib.hid (show S3.length ≤ 40 by omega)
        obtain ⟨O1, hO1⟩ : ∃ O, O = mergeA S1 S2 := ⟨_, rfl⟩
        obtain ⟨O2, hO2⟩ : ∃ O, O = mergeA S2 S1 := ⟨_, rfl⟩
        obtain ⟨O3, hO3⟩ : ∃ O, O = mergeA S2 S3 := ⟨_, rfl⟩
        obtain ⟨O4, hO4⟩ : ∃ O, O = mergeA O1 S3 := ⟨_, rfl⟩
        obtain ⟨O5, hO5⟩ : ∃ O, O = mergeA S1 O3 := ⟨_, rfl⟩
        obtain ⟨O6, hO6⟩ : ∃ O, O = mergeA S1 S1 := ⟨_, rfl⟩
        have ok4 : okS K num l O1 = true := by rw [hO1]; exact (mrg_ok OK1.out OK2.out).2.2
        have ok5 : okS K num l O3 = true := by rw [hO3]; exact (mrg_ok OK2.out OK3.out).2.2
        have E12 : O1 = O2 := by rw [hO1, hO2]; exact merge_comm OK1.out OK2.out
        have E45 : O4 = O5 := by rw [hO4, hO5, hO1, hO3]; exact merge_assoc OK1.out OK2.out OK3.out
        have E61 : O6 = S1 := by rw [hO6]; exact merge_idem OK1.out
        have M1 := Lib.hid (show S1.length ≤ O1.length ∧ O1.length ≤ S1.length + S2.length from by rw [hO1]; exact merge_len)
        have M3 := Lib.hid (show O3.length ≤ S2.length + S3.length from by rw [hO3]; exact merge_len.2)
        have K1 := Lib.hid (fun W (hW : Below wg3.heap.size wg3 W) => show Calls _ _ _ W (OutMN W O1) from KM.out S1 S2 Y1 Y2 q1 q2 W (below2s WG3.out hW) (AS.on A1.out hW) (AS.on A2.out hW) OK1.out OK2.out (by have := L1'.out; omega) (by have := L2'.out; omega) O1 hO1)
        have K2 := Lib.hid (fun W (hW : Below wg3.heap.size wg3 W) => show Calls _ _ _ W (OutMN W O2) from KM.out S2 S1 Y2 Y1 q2 q1 W (below2s WG3.out hW) (AS.on A2.out hW) (AS.on A1.out hW) OK2.out OK1.out (by have := L2'.out; omega) (by have := L1'.out; omega) O2 hO2)
        have K3 := Lib.hid (fun W (hW : Below wg3.heap.size wg3 W) => show Calls _ _ _ W (OutMN W O3) from KM.out S2 S3 Y2 Y3 q2 q3 W (below2s WG3.out hW) (AS.on A2.out hW) (AS.on AG3.out hW) OK2.out OK3.out (by have := L2'.out; omega) (by have := L3'.out; omega) O3 hO3)
        have K4 := Lib.hid (fun X k W (hW : Below wg3.heap.size wg3 W) (hA : AS W W.heap.size O1 X k) => show Calls _ _ _ W (OutMN W O4) from KM.out O1 S3 X Y3 k q3 W (below2s WG3.out hW) hA (AS.on AG3.out hW) ok4 OK3.out (by have := M1.out; have := L1'.out; have := L2'.out; omega) (by have := L3'.out; omega) O4 hO4)
        have K5 := Lib.hid (fun X k W (hW : Below wg3.heap.size wg3 W) (hA : AS W W.heap.size O3 X k) => show Calls _ _ _ W (OutMN W O5) from KM.out S1 O3 Y1 X q1 k W (below2s WG3.out hW) (AS.on A1.out hW) hA OK1.out ok5 (by have := L1'.out; omega) (by have := M3.out; have := L2'.out; have := L3'.out; omega) O5 hO5)
        have K6 := Lib.hid (fun W (hW : Below wg3.heap.size wg3 W) => show Calls _ _ _ W (OutMN W O6) from KM.out S1 S1 Y1 Y1 q1 q1 W (below2s WG3.out hW) (AS.on A1.out hW) (AS.on A1.out hW) OK1.out OK1.out (by have := L1'.out; omega) (by have := L1'.out; omega) O6 hO6)
        have EE := Lib.hid (And.intro E12 (And.intro E45 E61))
        clear hO1 hO2 hO3 hO4 hO5 hO6 ok4 ok5 E12 E45 E61 KM KP1 KP2 KP3 KG OK1 OK2 OK3 hl1 hl2 hl3 AG1 AG2 BG1 BG2 BG3 M3
        go_upto_region 16 with (first
          | (go_at_call 27; (with_reducible refine (K1.out _ (Below.refl _ _)).mono ?_); rintro e v1 ⟨X1, k1, rfl, as1, b1⟩; (have pv1 := FB.out _ (below2s VG3.out b1)))
          | (go_at_call 27; (with_reducible refine (K2.out _ b1).mono ?_); rintro e v2 ⟨X2, k2, rfl, as2, bb2⟩; (have b2 := below2s b1 bb2); (have pv2 := FB.out _ (below2s VG3.out b2)))
          | (go_at_call 27; (with_reducible refine (K3.out _ b2).mono ?_); rintro e v3 ⟨X3, k3, rfl, as3, bb3⟩; (have b3 := below2s b2 bb3); (have pv3 := FB.out _ (below2s VG3.out b3)))
          | (go_at_call 27; (with_reducible refine (K4.out _ _ _ b3 (AS.on as1 (below2s bb2 bb3))).mono ?_); rintro e v4 ⟨X4, k4, rfl, as4, bb4⟩; (have b4 := below2s b3 bb4); (have pv4 := FB.out _ (below2s VG3.out b4)))
          | (go_at_call 27; (with_reducible refine (K5.out _ _ _ b4 (AS.on as3 bb4)).mono ?_); rintro e v5 ⟨X5, k5, rfl, as5, bb5⟩; (have b5 := below2s b4 bb5); (have pv5 := FB.out _ (below2s VG3.out b5)))
          | (go_at_call 27; (with_reducible refine (K6.out _ b5).mono ?_); rintro e v6 ⟨X6, k6, rfl, as6, bb6⟩; (have b6 := below2s b5 bb6))
          | fail)
        have D1 := Lib.hid (AS.on as1 (below2s bb2 (below2s bb3 (below2s bb4 (below2s bb5 bb6)))))
        have D2 := Lib.hid (AS.on as2 (below2s bb3 (below2s bb4 (below2s bb5 bb6))))
        have D4 := Lib.hid (AS.on as4 (below2s bb5 bb6))
        have D5 := Lib.hid (AS.on as5 bb6)
        have D6 := Lib.hid as6
        have D0 := Lib.hid (AS.on A1.out b6)
        have FIN := Lib.hid (below2s WG3.out b6)
        clear as1 as2 as3 as4 as5 as6 b1 b2 b3 b4 b5 b6 bb2 bb3 bb4 bb5 bb6 pv1 pv2 pv3 pv4 pv5 p3 K1 K2 K3 K4 K5 K6 FB
        have S12 := Lib.hid (fun W (hW : Below v6.heap.size v6 W) => by
          have := refSameS_any X1 X2 k1 k2 v6.heap.size O1 O2 W (D1.out.rd.below hW) (D2.out.rd.below hW) D1.out.l40 D2.out.l40
          rw [decide_eq_true EE.out.1] at this
          exact this)
        have S45 := Lib.hid (fun W (hW : Below v6.heap.size v6 W) => by
          have := refSameS_any X4 X5 k4 k5 v6.heap.size O4 O5 W (D4.out.rd.below hW) (D5.out.rd.below hW) D4.out.l40 D5.out.l40
          rw [decide_eq_true EE.out.2.1] at this
          exact this)
        have S61 := Lib.hid (fun W (hW : Below v6.heap.size v6 W) => by
          have := refSameS_any X6 Y1 k6 q1 v6.heap.size O6 S1 W (D6.out.rd.below hW) (D0.out.rd.below hW) D6.out.l40 D0.out.l40
          rw [decide_eq_true EE.out.2.2] at this
          exact this)
        obtain ⟨m1, hm1⟩ : ∃ m, m = O1.length := ⟨_, rfl⟩
        obtain ⟨r1, hr1⟩ : ∃ m, m = S1.length := ⟨_, rfl⟩
        obtain ⟨r2, hr2⟩ : ∃ m, m = S2.length := ⟨_, rfl⟩
        have M1 := M1.out
        have T1 := L1'.out
        have T2 := L2'.out
        rw [← hm1, ← hr1, ← hr2] at M1
        rw [← hr1] at T1
        rw [← hr2] at T2
        rw [← hm1] at S12
        rw [← hr1] at S61
        rw [← hm1, ← hr1, ← hr2]
        clear hm1 hr1 hr2
        obtain ⟨t, ht'⟩ : ∃ t, t = r1 + r2 := ⟨_, rfl⟩
        have wt : IntKind.i64.wrap ((r1 : Int) + (r2 : Int)) = (t : Int) := by rw [IntWalk.i64_in _ (by omega)]; omega
        have le1 : m1 ≤ t := by omega
        have le2 : r1 ≤ m1 := by omega
        clear ht' M1 T1 T2
        go_wp2_with (first
          | (go_at_call 13; (with_reducible refine (S12.out _ (Below.refl _ _)).mono ?_); rintro e v7 ⟨rfl, b7⟩)
          | (go_at_call 13; (with_reducible refine (S45.out _ b7).mono ?_); rintro e v8 ⟨rfl, b8⟩; (have b78 := below2s b7 b8))
          | (go_at_call 13; (with_reducible refine (S61.out _ b78).mono ?_); rintro e v9 ⟨rfl, b9⟩; (have b79 := below2s b78 b9))
          | fail)
        go_ret
        exact ⟨rfl, below2s FIN.out b79⟩
end Go.Proofs.YtojhdljbpmjigaaDoor.Al
