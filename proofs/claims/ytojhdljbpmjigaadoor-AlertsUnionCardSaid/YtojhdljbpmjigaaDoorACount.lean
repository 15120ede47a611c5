/- Layer 6: the walk of AlertsCount. -/
import Derived.Test.YtojhdljbpmjigaaDoorAGath
import Derived.Test.YtojhdljbpmjigaaDoorAMerge
import Derived.Test.YtojhdljbpmjigaaDoorAPairs
namespace Go.Proofs.YtojhdljbpmjigaaDoor.Al
set_option linter.unusedVariables false
open Go.RowKit
open Go.Proofs.YtojhdljbpmjigaaDoor.W
open Go.Proofs.YtojhdljbpmjigaaDoor.V
open Go.Proofs.YtojhdljbpmjigaaDoor.O
open Go.Proofs.YtojhdljbpmjigaaDoor.Pb (Alr alrC alrsC two_blk)

/-- What gather of Pairs leaves: a valid set. -/
def Got (num : Int) (l : List Int) (n : Nat) (w w' : World) (v : Value) : Prop := ∃ S X c, v = .slice X S.length c ∧ okS K num l S = true ∧ S.length ≤ n ∧ AS w' w'.heap.size S X c ∧ Below w.heap.size w w'
theorem Got.drew {num : Int} {l : List Int} {n : Nat} {w w' : World} {v : Value} (h : Got num l n w w' v) : Got num l n w w'.drew v := by
  obtain ⟨S, X, c, h1, h2, h3, h4, h5⟩ := h
  exact ⟨S, X, c, h1, h2, h3, AS.on h4 (Below.refl _ _).drew, h5.drew⟩
/-- The sum of the first counts. -/
theorem sum_take {S : List Alr} {L : List Int} {k : Nat} {x : Int} (hx : L[k]? = some x) : ((L.take (k + 1)).map (cntA S)).sum = ((L.take k).map (cntA S)).sum + cntA S x := by
  rw [List.take_add_one, hx]
  simp
theorem sum_le {S : List Alr} (h : ∀ x, cntA S x ≤ 5) : ∀ L : List Int, (L.map (cntA S)).sum ≤ 5 * L.length
  | [] => by simp
  | y :: t => by
    have := sum_le h t
    have := h y
    rw [List.map_cons, List.sum_cons, List.length_cons]; omega
theorem asc_at {L : List Int} (h : Asc L) {j k : Nat} {x y : Int} (hj : L[j]? = some y) (hk : L[k]? = some x) (hjk : j < k) : y < x := by
  unfold Asc at h
  obtain ⟨h1, rfl⟩ := List.getElem?_eq_some_iff.1 hj
  obtain ⟨h2, rfl⟩ := List.getElem?_eq_some_iff.1 hk
  exact (List.pairwise_iff_getElem.1 h) j k h1 h2 hjk
theorem got_of {num : Int} {l : List Int} {n : Nat} {w w2 : World} {P : List Alr} {X : Option Addr} {c : Nat} (hv : validV num l = true) (hP : ∀ x ∈ P, okA K num l x = true) (hn : P.length ≤ n) (b : Below w.heap.size w w2) (as2 : AS w2 w2.heap.size (mergeA [] P) X c) : Got num l n w w2 (.slice X (mergeA [] P).length c) :=
  ⟨_, X, c, rfl, (okS_gather hv hP).1, by have := gather_len P; omega, as2, b⟩
set_option maxRecDepth 1000000 in
set_option maxHeartbeats 8000000 in
theorem lawCount_any (num : Int) (l : List Int) (A L : Option Addr) (c cL : Nat) (xs : List Nat) (w : World) (h : VW w w.heap.size num l A c) (hs : US w w.heap.size xs L cL) (ht : H.Tab w) :
    Calls Tryd.prog 8 #[.agg #[.int .i64 num, .slice A l.length c], .slice L xs.length cL] w (PB w true) := by
  have hb0 := (Below.refl w.heap.size w).alloc (Nat.le_refl _) (.cells #[.int .i64 num, .slice A l.length c] 24)
  have hz := Blk.new w 24 #[.int .i64 num, .slice A l.length c]
  have AW := Lib.hid (fun W (hW : Below w.heap.size w W) => awake_any W (ht.on hW))
  have KV := Lib.hid (fun W (hW : Below w.heap.size w W) => refValid_any num l A c w.heap.size W (h.below hW) hW.size)
  by_cases hv : validV num l = true
  case neg =>
    have hv' : validV num l = false := by simpa using hv
    rw [hv'] at KV
    dsimp only [vwV] at KV
    have B0 := Lib.hid hb0
    have Z1 := Lib.hid hz
    clear hb0 hz h hs ht hv hv'
    generalize l.length = nl at *
    generalize xs.length = n at *
    go_enter Tryd.func8, Tryd.ntmps8
    go_upto_region 1 with fail
    generalize w.alloc (.cells #[.int .i64 num, .slice A nl c] 24) = w0 at *
    have FB := Lib.hid (fun W (hW : Below w0.heap.size w0 W) => blk2 (Z1.out.below hW Z1.out.lt))
    go_wp2_with (first
      | (go_at_call 9; (with_reducible refine (AW.out _ B0.out).mono ?_); rintro e w1 ⟨rfl, b1⟩; (have p1 := FB.out _ b1); (have c1 := below2s B0.out b1))
      | (go_at_call 24; (with_reducible refine (KV.out _ c1).mono ?_); rintro e w2 ⟨rfl, b2⟩)
      | fail)
    go_ret
    exact ⟨rfl, below2s c1 b2⟩
  have HV := Lib.hid hv
  have KP := Lib.hid (fun W (hW : Below w.heap.size w W) => pairs_any num l A L c cL w.heap.size xs W (h.below hW) (hs.below hW) hW.size hv)
  have KG := Lib.hid (fun P X cX W (hW : Below w.heap.size w W) (hO : AS W W.heap.size P X cX) (hP : ∀ x ∈ P, okA K num l x = true) (hm : P.length ≤ 1000) => gather_any num l A X c cX W.heap.size P W ((h.below hW).more hW.size) hO (Nat.le_refl _) hv hP hm (ht.on hW))
  rw [hv] at KV
  dsimp only [vwV] at KV
  have PS := Lib.hid (fun S X cX W (hO : AS W W.heap.size S X cX) (hm : S.length ≤ 1000000) => alSubjects_any X cX W.heap.size S W hO (Nat.le_refl _) hm)
  have PC := Lib.hid (fun S X cX j W (hO : AS W W.heap.size S X cX) (hm : S.length ≤ 1000000) (hj : In64 j) => alCount_any X cX W.heap.size S j W hO (Nat.le_refl _) hm hj)
  have B0 := Lib.hid hb0
  have Z1 := Lib.hid hz
  have hx40 := hs.l40
  clear hb0 hz h hs ht hv
  generalize hnl : l.length = nl at *
  generalize xs.length = n at *
  clear hnl
  by_cases h60 : n ≤ 60
  case neg =>
    have d60 : decide ((60 : Int) < (n : Int)) = true := by simp; omega
    have e60 : 60 < n := by omega
    clear KP KG PS PC h60
    go_enter Tryd.func8, Tryd.ntmps8
    go_upto_region 1 with fail
    generalize w.alloc (.cells #[.int .i64 num, .slice A nl c] 24) = w0 at *
    have FB := Lib.hid (fun W (hW : Below w0.heap.size w0 W) => blk2 (Z1.out.below hW Z1.out.lt))
    go_wp2_with (first
      | (go_at_call 9; (with_reducible refine (AW.out _ B0.out).mono ?_); rintro e w1 ⟨rfl, b1⟩; (have p1 := FB.out _ b1); (have c1 := below2s B0.out b1))
      | (go_at_call 24; (with_reducible refine (KV.out _ c1).mono ?_); rintro e w2 ⟨rfl, b2⟩)
      | fail)
    go_ret
    exact ⟨rfl, below2s c1 b2⟩
  have d60 : decide ((60 : Int) < (n : Int)) = false := by simp; omega
  have e60 : ¬ 60 < n := by omega
  go_enter Tryd.func8, Tryd.ntmps8
  go_upto_region 1 with fail
  generalize w.alloc (.cells #[.int .i64 num, .slice A nl c] 24) = w0 at *
  have FB := Lib.hid (fun W (hW : Below w0.heap.size w0 W) => blk2 (Z1.out.below hW Z1.out.lt))
  go_upto_region 5 with (first
    | (go_at_call 9; (with_reducible refine (AW.out _ B0.out).mono ?_); rintro e w1 ⟨rfl, b1⟩; (have p1 := FB.out _ b1); (have c1 := below2s B0.out b1))
    | (go_at_call 24; (with_reducible refine (KV.out _ c1).mono ?_); rintro e w2 ⟨rfl, b2⟩)
    | fail)
  have W2 := Lib.hid (below2s c1 b2)
  have V2 := Lib.hid (below2s b1 b2)
  clear p1 b1 c1 b2
  have p2 := FB.out _ V2.out
  go_cut [5, 6] from 21 to 29 (fun s5 s6 wx => s6 = .bool true ∧ Hid (Got num l n w2 wx s5))
  case first =>
    go_region_held3 (fun W' => (W'.cell? ⟨w.heap.size, 0, none⟩ = some (.int .i64 num) ∧ W'.cell? ⟨w.heap.size, 1, none⟩ = some (.slice A nl c))) (first | exact s4 | exact s3 | exact FB.out _ V2.out.drew | exact FB.out _ V2.out) (first
      | (go_at_call 25; (with_reducible refine (KP.out _ (below2s W2.out (by first | exact (Below.refl _ _).drew | exact Below.refl _ _))).mono ?_); rintro e w3 ⟨P, X3, k3, rfl, as3, hP, hPn, q3⟩; have b3 : Below w2.heap.size w2 w3 := below2s (by first | exact (Below.refl _ _).drew | exact Below.refl _ _) q3; have s3 := FB.out _ (below2s V2.out b3))
      | (go_at_call 26; (with_reducible refine (KG.out P X3 k3 _ (below2s W2.out (by first | exact b3 | exact b3.drew)) (by first | exact as3 | exact AS.on as3 (Below.refl _ _).drew) hP (by omega)).mono ?_); rintro e w4 ⟨X4, k4, rfl, as4, q4⟩; have b4 : Below w2.heap.size w2 w4 := below2s (by first | exact b3 | exact b3.drew) q4; have s4 := FB.out _ (below2s V2.out b4))
      | fail)
    all_goals
      have G4 := got_of HV.out hP hPn b4 as4
      go_wp2_with fail
      go_meet
      first
        | exact ⟨rfl, G4⟩
        | exact ⟨rfl, G4.drew⟩
  case rest =>
    obtain ⟨rfl, G⟩ := hcut
    obtain ⟨w3, rfl⟩ : ∃ x, x = wc := ⟨_, rfl⟩
    obtain ⟨S, X, cX, rfl, okS', hSn, as3, b3⟩ := G.out
    have A3 := Lib.hid as3
    have W3 := Lib.hid (below2s W2.out b3)
    have LE5 := Lib.hid (cnt_le okS')
    have SUM := Lib.hid (count_sum (s := S))
    have ASC := Lib.hid (asc_subsA S)
    have POS := Lib.hid (fun x (hx : x ∈ subsA S) => cnt_pos hx)
    have LEN := Lib.hid (subsA_len (s := S) (by omega))
    have IN := Lib.hid (fun x (hx : x ∈ subsA S) => show In64 x from by
      obtain ⟨a, ha, rfl⟩ := mem_subsA.1 hx
      exact (A3.out.el a ha).2.2.2)
    obtain ⟨S0, hS0⟩ : ∃ s, s = S := ⟨_, rfl⟩
    obtain ⟨nl2, hnl2⟩ : ∃ m, m = (subsA S).length := ⟨_, rfl⟩
    have HNL := Lib.hid hnl2
    have KS := Lib.hid (fun W (hW : Below w3.heap.size w3 W) => (PS.out S X cX W (AS.on A3.out hW) (by omega)).mono fun _ _ h => OutInt.to h nl2 hnl2)
    have KC := Lib.hid (fun j W (hW : Below w3.heap.size w3 W) (hj : In64 j) => PC.out S X cX j W (AS.on A3.out hW) (by omega) hj)
    clear G as3 okS' hS0 hnl2 KP KG PS PC AW KV FB p2 b3 W2 V2
    generalize subsA S = T at *
    obtain ⟨ns, hns⟩ : ∃ m, m = S.length := ⟨_, rfl⟩
    have HNS := Lib.hid hns
    rw [← hns] at hSn KS KC ⊢
    clear hns
    go_upto_region 11 with (first
      | (go_at_call 28; (with_reducible refine (KS.out _ (Below.refl _ _)).mono ?_); rintro e w4 ⟨Y, cY, rfl, hcY, r4, b4⟩)
      | fail)
    have R4 := Lib.hid r4
    have B4 := Lib.hid b4
    clear r4 b4 hcY
    go_loopg [7, 9] nl2 (fun gk s7 s9 wr => ∃ (k m : Nat), k + gk = nl2 ∧ s9 = .int .i64 k ∧ s7 = .int .i64 m ∧ Hid (m = ((T.take k).map (cntA S)).sum) ∧ Hid (Below w4.heap.size w4 wr))
    case atStart => exact ⟨0, 0, by omega, rfl, rfl, rfl, Below.refl _ _⟩
    case round =>
      obtain ⟨k, m, hkg, rfl, rfl, HM, HW⟩ := hrel
      cases gk with
      | zero =>
        have hkz : ¬ ((k : Int) < (nl2 : Int)) := by omega
        have hm : m = ns := by
          rw [HM.out, List.take_of_length_le (by have := HNL.out; omega), SUM.out, HNS.out]
        subst hm
        have FIN := Lib.hid (below2s W3.out (below2s B4.out HW.out))
        clear HM
        go_wp2_with fail
        go_ret
        exact ⟨rfl, FIN.out⟩
      | succ gk =>
        have hkz : (k : Int) < (nl2 : Int) := by omega
        obtain ⟨x, hx⟩ : ∃ x, T[k]? = some x := ⟨_, List.getElem?_eq_getElem (by have := HNL.out; omega)⟩
        have hxm := List.mem_of_getElem? hx
        have hl2 : nl2 ≤ 1000 := by have := LEN.out; have := HNL.out; omega
        have WW := Lib.hid (below2s B4.out HW.out)
        obtain ⟨ct, hct⟩ : ∃ t, t = cntA S x := ⟨_, rfl⟩
        have KX := Lib.hid (fun W (hW : Below wr.heap.size wr W) => by
          have := KC.out x W (below2s WW.out hW) (IN.out x hxm)
          rw [← hct] at this
          exact this)
        have c1 : 1 ≤ ct := by rw [hct]; exact POS.out x hxm
        have c5 : ct ≤ 5 := by rw [hct]; exact LE5.out x
        have hm1 : m + ct = ((T.take (k + 1)).map (cntA S)).sum := by rw [sum_take hx, ← HM.out, ← hct]
        have hm5 : m + ct ≤ 5005 := by
          rw [hm1]
          have := sum_le LE5.out (T.take (k + 1))
          have := List.length_take_le (k + 1) T
          omega
        have HM1 := Lib.hid hm1
        obtain ⟨ad, u, rfl, -, hxu, hcx⟩ := (R4.out.below HW.out).at_ (k := k) (by omega)
        have h1 : u = .int .i64 x := by simp [hx, intV] at hxu; exact hxu.symm
        rw [h1] at hcx
        have RR := Lib.hid (fun W (hW : Below wr.heap.size wr W) => R4.out.below (HW.out.trans (hW.mono HW.out.size)))
        have dc1 : decide ((ct : Int) < 1) = false := by simp; omega
        have dc5 : decide ((5 : Int) < (ct : Int)) = false := by simp; omega
        have ws : IntKind.i64.wrap ((m : Int) + (ct : Int)) = ((m + ct : Nat) : Int) := by rw [IntWalk.i64_in _ (by omega)]; omega
        have HX := Lib.hid hx
        have HXM := Lib.hid hxm
        clear hct h1 hxu hx hxm hm1
        go_upto_region 14 with (first
          | (go_at_call 29; (with_reducible refine (KX.out _ (Below.refl _ _)).mono ?_); rintro e w5 ⟨rfl, b5⟩)
          | fail)
        have B5 := Lib.hid b5
        obtain ⟨ad2, u2, hA, -, hyu, hcx5⟩ := (RR.out w5 b5).at_ (k := k) (by omega)
        cases hA
        have h2 : u2 = .int .i64 x := by simp [HX.out, intV] at hyu; exact hyu.symm
        rw [h2] at hcx5
        clear h2 hyu hcx
        by_cases hk : 0 < k
        · have dk : decide (0 < k) = true := by simpa using hk
          obtain ⟨j, hj⟩ : ∃ j, k = j + 1 := ⟨k - 1, by omega⟩
          obtain ⟨y, hy⟩ : ∃ y, T[j]? = some y := ⟨_, List.getElem?_eq_getElem (by have := HNL.out; omega)⟩
          obtain ⟨ad3, u3, hA, -, hzu, hcy5⟩ := (RR.out w5 b5).at_ (k := j) (by omega)
          cases hA
          have h3 : u3 = .int .i64 y := by simp [hy, intV] at hzu; exact hzu.symm
          rw [h3] at hcy5
          have hlt := asc_at ASC.out hy HX.out (by omega)
          have dle : decide (x ≤ y) = false := by simp; omega
          have wk : IntKind.i64.wrap ((k : Int) - 1) = (j : Int) := by rw [IntWalk.i64_in _ (by omega)]; omega
          have hjl : (j : Int) < (nl2 : Int) := by omega
          clear h3 hzu hy b5 hlt hj
          go_quiet (fail)
          go_wp2_with fail
          go_roundg gk
          case measure => omega
          case rel => exact ⟨k + 1, m + ct, by omega, by go_num, by first | rfl | go_num, HM1.out, below_drewN' (below2s HW.out B5.out) _⟩
        · have dk : decide (0 < k) = false := by simpa using hk
          clear b5
          go_quiet (fail)
          go_wp2_with fail
          go_roundg gk
          case measure => omega
          case rel => exact ⟨k + 1, m + ct, by omega, by go_num, by first | rfl | go_num, HM1.out, below_drewN' (below2s HW.out B5.out) _⟩
end Go.Proofs.YtojhdljbpmjigaaDoor.Al
