/- Layer 6: the walk of AlertsOrder. -/
import Derived.Test.YtojhdljbpmjigaaDoorACount
namespace Go.Proofs.YtojhdljbpmjigaaDoor.Al
set_option linter.unusedVariables false
open Go.RowKit
open Go.Proofs.YtojhdljbpmjigaaDoor.W
open Go.Proofs.YtojhdljbpmjigaaDoor.V
open Go.Proofs.YtojhdljbpmjigaaDoor.O
open Go.Proofs.YtojhdljbpmjigaaDoor.Pb (Alr alrC alrsC two_blk len_alrsC alrsC_app alrsC_cell alrInfo)

set_option maxRecDepth 1000000 in
set_option maxHeartbeats 8000000 in
theorem lawOrder_any (num : Int) (l : List Int) (A L : Option Addr) (c cL : Nat) (xs : List Nat) (t : Nat) (w : World) (h : VW w w.heap.size num l A c) (hs : US w w.heap.size xs L cL) (ht8 : t < 256) (ht : H.Tab w) :
    Calls Tryd.prog 5 #[.agg #[.int .i64 num, .slice A l.length c], .slice L xs.length cL, .int .u8 t] w (PB w true) := by
  have hb0 := (Below.refl w.heap.size w).alloc (Nat.le_refl _) (.cells #[.int .i64 num, .slice A l.length c] 24)
  have hz := Blk.new w 24 #[.int .i64 num, .slice A l.length c]
  have AW := Lib.hid (fun W (hW : Below w.heap.size w W) => awake_any W (ht.on hW))
  have KV := Lib.hid (fun W (hW : Below w.heap.size w W) => refValid_any num l A c w.heap.size W (h.below hW) hW.size)
  by_cases hv : validV num l = true
  case neg =>
    have hv' : validV num l = false := by simpa using hv
    rw [hv'] at KV
    dsimp only [vwV] at KV
    have B0 := Lib.hid hb0
    have Z1 := Lib.hid hz
    clear hb0 hz h hs ht hv hv'
    generalize l.length = nl at *
    generalize xs.length = n at *
    go_enter Tryd.func5, Tryd.ntmps5
    go_upto_region 1 with fail
    generalize w.alloc (.cells #[.int .i64 num, .slice A nl c] 24) = w0 at *
    have FB := Lib.hid (fun W (hW : Below w0.heap.size w0 W) => blk2 (Z1.out.below hW Z1.out.lt))
    go_wp2_with (first
      | (go_at_call 9; (with_reducible refine (AW.out _ B0.out).mono ?_); rintro e w1 ⟨rfl, b1⟩; (have p1 := FB.out _ b1); (have c1 := below2s B0.out b1))
      | (go_at_call 24; (with_reducible refine (KV.out _ c1).mono ?_); rintro e w2 ⟨rfl, b2⟩)
      | fail)
    go_ret
    exact ⟨rfl, below2s c1 b2⟩
  have HV := Lib.hid hv
  have KP := Lib.hid (fun W (hW : Below w.heap.size w W) => pairs_any num l A L c cL w.heap.size xs W (h.below hW) (hs.below hW) hW.size hv)
  have KG := Lib.hid (fun P X cX W (hW : Below w.heap.size w W) (hO : AS W W.heap.size P X cX) (hP : ∀ x ∈ P, okA K num l x = true) (hm : P.length ≤ 1000) => gather_any num l A X c cX W.heap.size P W ((h.below hW).more hW.size) hO (Nat.le_refl _) hv hP hm (ht.on hW))
  rw [hv] at KV
  dsimp only [vwV] at KV
  have KL := Lib.hid (fun S X cX W (hW : Below w.heap.size w W) (hO : AS W W.heap.size S X cX) => alValid_any num l A X c cX W.heap.size S W ((h.below hW).more hW.size) hO (Nat.le_refl _) (ht.on hW))
  have H64 := Lib.hid h.num64
  have B0 := Lib.hid hb0
  have Z1 := Lib.hid hz
  have hx40 := hs.l40
  clear hb0 hz h hs ht hv
  generalize hnl : l.length = nl at *
  generalize xs.length = n at *
  clear hnl
  by_cases h60 : n ≤ 60
  case neg =>
    have d60 : decide ((60 : Int) < (n : Int)) = true := by simp; omega
    have e60 : 60 < n := by omega
    clear KP KG KL h60
    go_enter Tryd.func5, Tryd.ntmps5
    go_upto_region 1 with fail
    generalize w.alloc (.cells #[.int .i64 num, .slice A nl c] 24) = w0 at *
    have FB := Lib.hid (fun W (hW : Below w0.heap.size w0 W) => blk2 (Z1.out.below hW Z1.out.lt))
    go_wp2_with (first
      | (go_at_call 9; (with_reducible refine (AW.out _ B0.out).mono ?_); rintro e w1 ⟨rfl, b1⟩; (have p1 := FB.out _ b1); (have c1 := below2s B0.out b1))
      | (go_at_call 24; (with_reducible refine (KV.out _ c1).mono ?_); rintro e w2 ⟨rfl, b2⟩)
      | fail)
    go_ret
    exact ⟨rfl, below2s c1 b2⟩
  have d60 : decide ((60 : Int) < (n : Int)) = false := by simp; omega
  have e60 : ¬ 60 < n := by omega
  go_enter Tryd.func5, Tryd.ntmps5
  go_upto_region 1 with fail
  generalize w.alloc (.cells #[.int .i64 num, .slice A nl c] 24) = w0 at *
  have FB := Lib.hid (fun W (hW : Below w0.heap.size w0 W) => blk2 (Z1.out.below hW Z1.out.lt))
  go_upto_region 5 with (first
    | (go_at_call 9; (with_reducible refine (AW.out _ B0.out).mono ?_); rintro e w1 ⟨rfl, b1⟩; (have p1 := FB.out _ b1); (have c1 := below2s B0.out b1))
    | (go_at_call 24; (with_reducible refine (KV.out _ c1).mono ?_); rintro e w2 ⟨rfl, b2⟩)
    | fail)
  have W2 := Lib.hid (below2s c1 b2)
  have V2 := Lib.hid (below2s b1 b2)
  clear p1 b1 c1 b2
  have p2 := FB.out _ V2.out
  clear AW KV
  go_upto_region 6 with (first
    | (go_at_call 25; (with_reducible refine (KP.out _ W2.out).mono ?_); rintro e w3 ⟨P, X3, c3, rfl, as3, hP, hPn, b3⟩)
    | fail)
  have A3 := Lib.hid as3
  have W3 := Lib.hid (below2s W2.out b3)
  have V3 := Lib.hid (below2s V2.out b3)
  have HP := Lib.hid hP
  have p3 := FB.out _ V3.out
  clear as3 b3 hP p2 KP
  obtain ⟨np, hnp⟩ : ∃ m, m = P.length := ⟨_, rfl⟩
  have HNP := Lib.hid hnp
  have RP := Lib.hid (fun W (hW : Below w3.heap.size w3 W) => A3.out.rd.below hW)
  have cap3 := A3.out.cap
  rw [← hnp] at hPn RP cap3 ⊢
  have KG1 := Lib.hid (fun W (hW : Below w3.heap.size w3 W) => show Calls Tryd.prog 26 #[.agg #[.int .i64 num, .slice A nl c], .slice X3 np c3] W (OutGa W (mergeA [] P)) from by
    have := KG.out P X3 c3 W (below2s W3.out hW) (AS.on A3.out hW) HP.out (by omega)
    rw [← hnp] at this
    exact this)
  clear hnp
  by_cases h0 : np = 0
  · have n0 : decide (0 < np) = false := by simpa using h0
    clear h0
    obtain ⟨k, hk'⟩ : ∃ k, k = 0 := ⟨_, rfl⟩
    have HK := Lib.hid hk'
    clear hk'
    go_upto_region 9 with fail
    have hkn : k ≤ np := (by have := HK.out; omega)
    have kI : 0 = (k : Int) := (by have := HK.out; omega)
    have hlP : P.length = np := HNP.out.symm
    obtain ⟨Z, hs1, rz⟩ := slice_fromA (k := k) (ki := 0) (RP.out w3 (Below.refl _ _)) hlP cap3 hkn kI
    have hs2 := slice_toA (k := k) (ki := 0) (RP.out w3 (Below.refl _ _)) cap3 hkn kI
    have RZ := Lib.hid (fun W (hW : Below w3.heap.size w3 W) => rz.below hW)
    have RT := Lib.hid (fun W (hW : Below w3.heap.size w3 W) => readsA_take (k := k) (RP.out W hW) hkn hlP)
    have LD := Lib.hid (show (P.drop k).length = np - k by rw [List.length_drop, hlP])
    have LT := Lib.hid (show (P.take k).length = k by rw [List.length_take, hlP]; omega)
    have MEM := Lib.hid (show ∀ x, x ∈ [] ++ P.drop k ++ P.take k ++ P ↔ x ∈ P from fun x => by
      constructor
      · intro h
        rcases List.mem_append.1 h with h | h
        · rcases List.mem_append.1 h with h | h
          · exact List.mem_of_mem_drop (by rw [List.nil_append] at h; exact h)
          · exact List.mem_of_mem_take h
        · exact h
      · intro h
        exact List.mem_append.2 (.inr h))
    clear rz kI
    generalize hD : P.drop k = PD at *
    generalize hT : P.take k = PT at *
    clear hD hT
    have bA : Below w3.heap.size w3 (w3.alloc (.cells #[] 27)) := (Below.refl _ _).alloc (Nat.le_refl _) _
    have bD : Below w3.heap.size w3 (w3.alloc (.cells #[] 27)).drew := bA.drew
    have oA : (w3.alloc (.cells #[] 27)).ownsRow w3.heap.size 27 4 (.slice (some ⟨w3.heap.size, 0, none⟩) 0 0) ([] : List Alr).length (alrsC []) := World.ownsRow_made (base := w3.heap.size) (e := 27) (size := 4) w3 #[] 0 (Nat.le_refl _) (by decide) rfl
    have oD : (w3.alloc (.cells #[] 27)).drew.ownsRow w3.heap.size 27 4 (.slice (some ⟨w3.heap.size, 0, none⟩) 0 0) ([] : List Alr).length (alrsC []) := World.ownsRow_made (base := w3.heap.size) (e := 27) (size := 4) w3 #[] 0 (Nat.le_refl _) (by decide) rfl
    have L1 : ([] : List Alr).length + (np - k) ≤ 1099511627776 := by simp; omega
    have L2 : ([] ++ PD).length + k ≤ 1099511627776 := by have := LD.out; simp; omega
    have L3 : ([] ++ PD ++ PT).length + np ≤ 1099511627776 := by have := LD.out; have := LT.out; simp; omega
    go_region_held3 (fun W' => Below w3.heap.size w3 W') (first | exact b7 | exact b6 | exact bD | exact bA | exact (Below.refl _ _).drew | exact Below.refl _ _) (first
      | (refine step_append_alrs _ rfl (.tmp 38) (.tmp 41) rfl w3.heap.size _ [] PD _ _ _ _ rfl (by first | exact oD | exact oA) rfl (RZ.out _ (by first | exact bD | exact bA)) LD.out L1 (by first | exact bD.size | exact bA.size) ?_; intro v6 w6 ho6 hq6; have b6 : Below w3.heap.size w3 w6 := (by first | exact bD.trans hq6 | exact bA.trans hq6))
      | (refine step_append_alrs _ rfl (.tmp 42) (.tmp 45) rfl w3.heap.size _ ([] ++ PD) PT _ _ _ _ rfl ho6 rfl (RT.out _ b6) LT.out L2 b6.size ?_; intro v7 w7 ho7 hq7; have b7 : Below w3.heap.size w3 w7 := b6.trans hq7)
      | fail)
    all_goals
      have HO7 := Lib.hid ho7
      have B7 := Lib.hid b7
      clear ho6 ho7 b6 b7 hq6 hq7 oA oD bA bD hs1 hs2
      obtain ⟨Q, hQ⟩ : ∃ Q, Q = [] ++ PD ++ PT ++ P := ⟨_, rfl⟩
      have HQ := Lib.hid hQ
      have LQ := Lib.hid (show Q.length ≤ 1000 from by rw [hQ, List.length_append, List.length_append, List.length_append, LD.out, LT.out, hlP]; simp; omega)
      clear hQ
      go_upto_region 11 with (first
        | (at_builtin; refine wp_append_alrs _ rfl (.tmp 47) (.tmp 48) rfl w3.heap.size _ ([] ++ PD ++ PT) P _ _ _ _ rfl HO7.out rfl (RP.out _ (by first | exact B7.out | exact B7.out.drew)) hlP L3 (by first | exact B7.out.size | exact B7.out.drew.size) ?_; intro v10 w10 ho10 hb10 hg10)
        | fail)
      have B10 := Lib.hid (show Below w3.heap.size w3 w10 from by first | exact B7.out.trans hb10 | exact B7.out.drew.trans hb10)
      rw [← HQ.out] at ho10
      obtain ⟨Y, cY, rfl, asY⟩ := AS.of_own ho10 (by have := LQ.out; omega) (fun x hx => okA_el H64.out (HP.out x ((MEM.out x).1 (by rw [← HQ.out]; exact hx))))
      have AY := Lib.hid asY
      have W10 := Lib.hid (below2s W3.out B10.out)
      have V10 := Lib.hid (below2s V3.out B10.out)
      have KG2 := Lib.hid (fun W (hW : Below w10.heap.size w10 W) => show Calls Tryd.prog 26 #[.agg #[.int .i64 num, .slice A nl c], .slice Y Q.length cY] W (OutGa W (mergeA [] P)) from by
        have := KG.out Q Y cY W (below2s W10.out hW) (AS.on AY.out hW) (fun x hx => HP.out x ((MEM.out x).1 (by rw [← HQ.out]; exact hx))) LQ.out
        rw [← gather_eq HV.out HP.out (fun x => by rw [HQ.out]; exact (MEM.out x).symm)] at this
        exact this)
      have OKS := Lib.hid (okS_gather HV.out HP.out)
      have SLEN := Lib.hid (show (mergeA [] P).length ≤ 1000 from by have := gather_len P; omega)
      clear ho10 asY hb10 hg10 HO7 B7 HQ LQ L1 L2 L3 MEM KG RZ RT LD LT
      try clear HK
      generalize mergeA [] P = S at *
      have KLS := Lib.hid (fun X cX W (hW : Below w10.heap.size w10 W) (hO : AS W W.heap.size S X cX) => by
        have := KL.out S X cX W (below2s W10.out hW) hO
        rw [OKS.out.1] at this
        exact this)
      have KSS := Lib.hid (fun X X' k k' W (h : AS W W.heap.size S X k) (h' : AS W W.heap.size S X' k') => by
        have := refSameS_any X X' k k' W.heap.size S S W h.rd h'.rd h.l40 h'.l40
        rw [decide_eq_true rfl] at this
        exact this)
      have p10 := FB.out _ V10.out
      clear p3 KL
      go_upto_region 15 with (first
        | (go_at_call 26; (with_reducible refine (KG1.out _ B10.out).mono ?_); rintro e w11 ⟨XA, cA, rfl, asA, b11⟩; (have p11 := FB.out _ (below2s V10.out b11)))
        | (go_at_call 26; (with_reducible refine (KG2.out _ b11).mono ?_); rintro e w12 ⟨XB, cB, rfl, asB, b12⟩; (have b12' := below2s b11 b12); (have p12 := FB.out _ (below2s V10.out b12')); (have asA2 := AS.on asA b12))
        | (go_at_call 13; (with_reducible refine (KSS.out _ _ _ _ _ asA2 asB).mono ?_); rintro e w13 ⟨rfl, b13⟩; (have b13' := below2s b12' b13); (have p13 := FB.out _ (below2s V10.out b13')); (have asA3 := AS.on asA2 b13))
        | (go_at_call 18; (with_reducible refine (KLS.out _ _ _ b13' asA3).mono ?_); rintro e w14 ⟨rfl, b14⟩)
        | fail)
      have B14 := Lib.hid (below2s b13' b14)
      have A14 := Lib.hid (AS.on asA3 b14)
      have R14 := Lib.hid (RP.out _ (below2s B10.out B14.out))
      have FIN := Lib.hid (below2s W10.out B14.out)
      clear p10 p11 p12 p13 b11 b12 b12' b13 b13' b14 asA asA2 asA3 asB KG1 KG2 KLS KSS RP B10 AY V10 FB
      obtain ⟨ns, hns⟩ : ∃ m, m = S.length := ⟨_, rfl⟩
      have HNS := Lib.hid hns
      have RS := Lib.hid A14.out.rd
      rw [← hns] at RS ⊢
      clear hns
      go_upto_region 16 with fail
      go_loopg [14] np (fun gi s14 wr => ∃ (i q : Nat), i + gi = np ∧ s14 = .int .i64 i ∧ wr = w14.drewN q)
      case atStart => exact ⟨0, 0, by omega, rfl, rfl⟩
      case round =>
        obtain ⟨i, q, hig, rfl, rfl⟩ := hrel
        cases gk with
        | zero =>
          have hiz : ¬ ((i : Int) < (np : Int)) := by omega
          go_wp2_with fail
          go_ret
          exact ⟨rfl, below_drewN' FIN.out _⟩
        | succ gi =>
          have hiz : (i : Int) < (np : Int) := by omega
          obtain ⟨x, hx⟩ : ∃ x, P[i]? = some x := ⟨_, List.getElem?_eq_getElem (by omega)⟩
          have HXM := Lib.hid ((OKS.out.2 x).2 (List.mem_of_getElem? hx))
          obtain ⟨ad, rfl, -, -, x0, x1, x2, x3⟩ := alr_at R14.out hx
          clear hx
          go_upto_region 20 with fail
          go_loopg [15, 16] ns (fun gj s15 s16 wr => ∃ (j q' : Nat) (f : Bool), j + gj = ns ∧ s16 = .int .i64 j ∧ s15 = .bool f ∧ Hid (f = decide (x ∈ S.take j)) ∧ wr = w14.drewN q')
          case atStart => exact ⟨0, q, false, by omega, rfl, rfl, (show false = decide (x ∈ S.take 0) from (decide_eq_false (by simp)).symm), rfl⟩
          case round =>
            obtain ⟨j, q', f, hjg, rfl, rfl, HF, rfl⟩ := hrel
            cases gk with
            | zero =>
              have hjz : ¬ ((j : Int) < (ns : Int)) := by omega
              have hf : f = true := by
                rw [HF.out, List.take_of_length_le (by have := HNS.out; omega)]
                exact decide_eq_true HXM.out
              subst hf
              clear HF
              go_wp2_with fail
              go_roundg gi
              case measure => omega
              case rel => exact ⟨i + 1, q', by omega, by go_num, rfl⟩
            | succ gj =>
              have hjz : (j : Int) < (ns : Int) := by omega
              obtain ⟨y, hy⟩ : ∃ y, S[j]? = some y := ⟨_, List.getElem?_eq_getElem (by have := HNS.out; omega)⟩
              obtain ⟨bd, rfl, -, -, y0, y1, y2, y3⟩ := alr_at RS.out hy
              have HY := Lib.hid (take_snoc hy)
              have hns9 : ns ≤ 1000 := by have := SLEN.out; have := HNS.out; omega
              clear hy
              cases f
              · have eq := eql_alr y x
                obtain ⟨d, hd⟩ : ∃ d, d = decide (y = x) := ⟨_, rfl⟩
                rw [← hd] at eq
                have HD := Lib.hid (show d = decide (x ∈ S.take (j + 1)) from by
                  have h1 := HF.out
                  have h2 : x ∉ S.take j := by simpa using h1.symm
                  rw [hd, HY.out]
                  by_cases h : y = x
                  · subst h; simp
                  · have h' : ¬ x = y := fun e => h e.symm
                    simp [h, h', h2])
                clear hd HF
                go_wp2_with fail
                go_quiet (fail)
                go_wp2_with fail
                go_roundg gj
                case measure => omega
                case rel => exact ⟨j + 1, q' + nq, d, by omega, by go_num, by first | rfl | simp, HD.out, by first | rfl | rw [World.drewN_drewN]⟩
              · have HD := Lib.hid (show true = decide (x ∈ S.take (j + 1)) from by
                  have h1 := HF.out
                  have h2 : x ∈ S.take j := by simpa using h1.symm
                  rw [HY.out]
                  simp [h2])
                clear HF
                go_wp2_with fail
                go_quiet (fail)
                go_wp2_with fail
                go_roundg gj
                case measure => omega
                case rel => exact ⟨j + 1, q' + nq, true, by omega, by go_num, by first | rfl | simp, HD.out, by first | rfl | rw [World.drewN_drewN]⟩
  · have hp0 : (0 : Int) < (np : Int) := by omega
    have hq0 : 0 < np := by omega
    have bz : ((np : Int) == 0) = false := beqF (by omega)
    obtain ⟨k, hk, -, hmk⟩ := mod_idx t np hq0
    have wt : IntKind.i64.wrap (t : Int) = (t : Int) := IntWalk.i64_in _ (by omega)
    go_upto_region 9 with fail
    have hkn : k ≤ np := (by omega)
    have kI : (k : Int) = (k : Int) := rfl
    have hlP : P.length = np := HNP.out.symm
    obtain ⟨Z, hs1, rz⟩ := slice_fromA (k := k) (ki := (k : Int)) (RP.out w3 (Below.refl _ _)) hlP cap3 hkn kI
    have hs2 := slice_toA (k := k) (ki := (k : Int)) (RP.out w3 (Below.refl _ _)) cap3 hkn kI
    have RZ := Lib.hid (fun W (hW : Below w3.heap.size w3 W) => rz.below hW)
    have RT := Lib.hid (fun W (hW : Below w3.heap.size w3 W) => readsA_take (k := k) (RP.out W hW) hkn hlP)
    have LD := Lib.hid (show (P.drop k).length = np - k by rw [List.length_drop, hlP])
    have LT := Lib.hid (show (P.take k).length = k by rw [List.length_take, hlP]; omega)
    have MEM := Lib.hid (show ∀ x, x ∈ [] ++ P.drop k ++ P.take k ++ P ↔ x ∈ P from fun x => by
      constructor
      · intro h
        rcases List.mem_append.1 h with h | h
        · rcases List.mem_append.1 h with h | h
          · exact List.mem_of_mem_drop (by rw [List.nil_append] at h; exact h)
          · exact List.mem_of_mem_take h
        · exact h
      · intro h
        exact List.mem_append.2 (.inr h))
    clear rz kI
    generalize hD : P.drop k = PD at *
    generalize hT : P.take k = PT at *
    clear hD hT
    have bA : Below w3.heap.size w3 (w3.alloc (.cells #[] 27)) := (Below.refl _ _).alloc (Nat.le_refl _) _
    have bD : Below w3.heap.size w3 (w3.alloc (.cells #[] 27)).drew := bA.drew
    have oA : (w3.alloc (.cells #[] 27)).ownsRow w3.heap.size 27 4 (.slice (some ⟨w3.heap.size, 0, none⟩) 0 0) ([] : List Alr).length (alrsC []) := World.ownsRow_made (base := w3.heap.size) (e := 27) (size := 4) w3 #[] 0 (Nat.le_refl _) (by decide) rfl
    have oD : (w3.alloc (.cells #[] 27)).drew.ownsRow w3.heap.size 27 4 (.slice (some ⟨w3.heap.size, 0, none⟩) 0 0) ([] : List Alr).length (alrsC []) := World.ownsRow_made (base := w3.heap.size) (e := 27) (size := 4) w3 #[] 0 (Nat.le_refl _) (by decide) rfl
    have L1 : ([] : List Alr).length + (np - k) ≤ 1099511627776 := by simp; omega
    have L2 : ([] ++ PD).length + k ≤ 1099511627776 := by have := LD.out; simp; omega
    have L3 : ([] ++ PD ++ PT).length + np ≤ 1099511627776 := by have := LD.out; have := LT.out; simp; omega
    go_region_held3 (fun W' => Below w3.heap.size w3 W') (first | exact b7 | exact b6 | exact bD | exact bA | exact (Below.refl _ _).drew | exact Below.refl _ _) (first
      | (refine step_append_alrs _ rfl (.tmp 38) (.tmp 41) rfl w3.heap.size _ [] PD _ _ _ _ rfl (by first | exact oD | exact oA) rfl (RZ.out _ (by first | exact bD | exact bA)) LD.out L1 (by first | exact bD.size | exact bA.size) ?_; intro v6 w6 ho6 hq6; have b6 : Below w3.heap.size w3 w6 := (by first | exact bD.trans hq6 | exact bA.trans hq6))
      | (refine step_append_alrs _ rfl (.tmp 42) (.tmp 45) rfl w3.heap.size _ ([] ++ PD) PT _ _ _ _ rfl ho6 rfl (RT.out _ b6) LT.out L2 b6.size ?_; intro v7 w7 ho7 hq7; have b7 : Below w3.heap.size w3 w7 := b6.trans hq7)
      | fail)
    all_goals
      have HO7 := Lib.hid ho7
      have B7 := Lib.hid b7
      clear ho6 ho7 b6 b7 hq6 hq7 oA oD bA bD hs1 hs2
      obtain ⟨Q, hQ⟩ : ∃ Q, Q = [] ++ PD ++ PT ++ P := ⟨_, rfl⟩
      have HQ := Lib.hid hQ
      have LQ := Lib.hid (show Q.length ≤ 1000 from by rw [hQ, List.length_append, List.length_append, List.length_append, LD.out, LT.out, hlP]; simp; omega)
      clear hQ
      go_upto_region 11 with (first
        | (at_builtin; refine wp_append_alrs _ rfl (.tmp 47) (.tmp 48) rfl w3.heap.size _ ([] ++ PD ++ PT) P _ _ _ _ rfl HO7.out rfl (RP.out _ (by first | exact B7.out | exact B7.out.drew)) hlP L3 (by first | exact B7.out.size | exact B7.out.drew.size) ?_; intro v10 w10 ho10 hb10 hg10)
        | fail)
      have B10 := Lib.hid (show Below w3.heap.size w3 w10 from by first | exact B7.out.trans hb10 | exact B7.out.drew.trans hb10)
      rw [← HQ.out] at ho10
      obtain ⟨Y, cY, rfl, asY⟩ := AS.of_own ho10 (by have := LQ.out; omega) (fun x hx => okA_el H64.out (HP.out x ((MEM.out x).1 (by rw [← HQ.out]; exact hx))))
      have AY := Lib.hid asY
      have W10 := Lib.hid (below2s W3.out B10.out)
      have V10 := Lib.hid (below2s V3.out B10.out)
      have KG2 := Lib.hid (fun W (hW : Below w10.heap.size w10 W) => show Calls Tryd.prog 26 #[.agg #[.int .i64 num, .slice A nl c], .slice Y Q.length cY] W (OutGa W (mergeA [] P)) from by
        have := KG.out Q Y cY W (below2s W10.out hW) (AS.on AY.out hW) (fun x hx => HP.out x ((MEM.out x).1 (by rw [← HQ.out]; exact hx))) LQ.out
        rw [← gather_eq HV.out HP.out (fun x => by rw [HQ.out]; exact (MEM.out x).symm)] at this
        exact this)
      have OKS := Lib.hid (okS_gather HV.out HP.out)
      have SLEN := Lib.hid (show (mergeA [] P).length ≤ 1000 from by have := gather_len P; omega)
      clear ho10 asY hb10 hg10 HO7 B7 HQ LQ L1 L2 L3 MEM KG RZ RT LD LT
      try clear HK
      generalize mergeA [] P = S at *
      have KLS := Lib.hid (fun X cX W (hW : Below w10.heap.size w10 W) (hO : AS W W.heap.size S X cX) => by
        have := KL.out S X cX W (below2s W10.out hW) hO
        rw [OKS.out.1] at this
        exact this)
      have KSS := Lib.hid (fun X X' k k' W (h : AS W W.heap.size S X k) (h' : AS W W.heap.size S X' k') => by
        have := refSameS_any X X' k k' W.heap.size S S W h.rd h'.rd h.l40 h'.l40
        rw [decide_eq_true rfl] at this
        exact this)
      have p10 := FB.out _ V10.out
      clear p3 KL
      go_upto_region 15 with (first
        | (go_at_call 26; (with_reducible refine (KG1.out _ B10.out).mono ?_); rintro e w11 ⟨XA, cA, rfl, asA, b11⟩; (have p11 := FB.out _ (below2s V10.out b11)))
        | (go_at_call 26; (with_reducible refine (KG2.out _ b11).mono ?_); rintro e w12 ⟨XB, cB, rfl, asB, b12⟩; (have b12' := below2s b11 b12); (have p12 := FB.out _ (below2s V10.out b12')); (have asA2 := AS.on asA b12))
        | (go_at_call 13; (with_reducible refine (KSS.out _ _ _ _ _ asA2 asB).mono ?_); rintro e w13 ⟨rfl, b13⟩; (have b13' := below2s b12' b13); (have p13 := FB.out _ (below2s V10.out b13')); (have asA3 := AS.on asA2 b13))
        | (go_at_call 18; (with_reducible refine (KLS.out _ _ _ b13' asA3).mono ?_); rintro e w14 ⟨rfl, b14⟩)
        | fail)
      have B14 := Lib.hid (below2s b13' b14)
      have A14 := Lib.hid (AS.on asA3 b14)
      have R14 := Lib.hid (RP.out _ (below2s B10.out B14.out))
      have FIN := Lib.hid (below2s W10.out B14.out)
      clear p10 p11 p12 p13 b11 b12 b12' b13 b13' b14 asA asA2 asA3 asB KG1 KG2 KLS KSS RP B10 AY V10 FB
      obtain ⟨ns, hns⟩ : ∃ m, m = S.length := ⟨_, rfl⟩
      have HNS := Lib.hid hns
      have RS := Lib.hid A14.out.rd
      rw [← hns] at RS ⊢
      clear hns
      go_upto_region 16 with fail
      go_loopg [14] np (fun gi s14 wr => ∃ (i q : Nat), i + gi = np ∧ s14 = .int .i64 i ∧ wr = w14.drewN q)
      case atStart => exact ⟨0, 0, by omega, rfl, rfl⟩
      case round =>
        obtain ⟨i, q, hig, rfl, rfl⟩ := hrel
        cases gk with
        | zero =>
          have hiz : ¬ ((i : Int) < (np : Int)) := by omega
          go_wp2_with fail
          go_ret
          exact ⟨rfl, below_drewN' FIN.out _⟩
        | succ gi =>
          have hiz : (i : Int) < (np : Int) := by omega
          obtain ⟨x, hx⟩ : ∃ x, P[i]? = some x := ⟨_, List.getElem?_eq_getElem (by omega)⟩
          have HXM := Lib.hid ((OKS.out.2 x).2 (List.mem_of_getElem? hx))
          obtain ⟨ad, rfl, -, -, x0, x1, x2, x3⟩ := alr_at R14.out hx
          clear hx
          go_upto_region 20 with fail
          go_loopg [15, 16] ns (fun gj s15 s16 wr => ∃ (j q' : Nat) (f : Bool), j + gj = ns ∧ s16 = .int .i64 j ∧ s15 = .bool f ∧ Hid (f = decide (x ∈ S.take j)) ∧ wr = w14.drewN q')
          case atStart => exact ⟨0, q, false, by omega, rfl, rfl, (show false = decide (x ∈ S.take 0) from (decide_eq_false (by simp)).symm), rfl⟩
          case round =>
            obtain ⟨j, q', f, hjg, rfl, rfl, HF, rfl⟩ := hrel
            cases gk with
            | zero =>
              have hjz : ¬ ((j : Int) < (ns : Int)) := by omega
              have hf : f = true := by
                rw [HF.out, List.take_of_length_le (by have := HNS.out; omega)]
                exact decide_eq_true HXM.out
              subst hf
              clear HF
              go_wp2_with fail
              go_roundg gi
              case measure => omega
              case rel => exact ⟨i + 1, q', by omega, by go_num, rfl⟩
            | succ gj =>
              have hjz : (j : Int) < (ns : Int) := by omega
              obtain ⟨y, hy⟩ : ∃ y, S[j]? = some y := ⟨_, List.getElem?_eq_getElem (by have := HNS.out; omega)⟩
              obtain ⟨bd, rfl, -, -, y0, y1, y2, y3⟩ := alr_at RS.out hy
              have HY := Lib.hid (take_snoc hy)
              have hns9 : ns ≤ 1000 := by have := SLEN.out; have := HNS.out; omega
              clear hy
              cases f
              · have eq := eql_alr y x
                obtain ⟨d, hd⟩ : ∃ d, d = decide (y = x) := ⟨_, rfl⟩
                rw [← hd] at eq
                have HD := Lib.hid (show d = decide (x ∈ S.take (j + 1)) from by
                  have h1 := HF.out
                  have h2 : x ∉ S.take j := by simpa using h1.symm
                  rw [hd, HY.out]
                  by_cases h : y = x
                  · subst h; simp
                  · have h' : ¬ x = y := fun e => h e.symm
                    simp [h, h', h2])
                clear hd HF
                go_wp2_with fail
                go_quiet (fail)
                go_wp2_with fail
                go_roundg gj
                case measure => omega
                case rel => exact ⟨j + 1, q' + nq, d, by omega, by go_num, by first | rfl | simp, HD.out, by first | rfl | rw [World.drewN_drewN]⟩
              · have HD := Lib.hid (show true = decide (x ∈ S.take (j + 1)) from by
                  have h1 := HF.out
                  have h2 : x ∈ S.take j := by simpa using h1.symm
                  rw [HY.out]
                  simp [h2])
                clear HF
                go_wp2_with fail
                go_quiet (fail)
                go_wp2_with fail
                go_roundg gj
                case measure => omega
                case rel => exact ⟨j + 1, q' + nq, true, by omega, by go_num, by first | rfl | simp, HD.out, by first | rfl | rw [World.drewN_drewN]⟩
end Go.Proofs.YtojhdljbpmjigaaDoor.Al
