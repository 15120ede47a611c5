/- Package cut: withinLimit, Propose. -/
import Derived.Test.YtipipjbpjpdcbaaDoorCP8
import Derived.Test.YtipipjbpjpdcbaaDoorCAw0
namespace Go.Proofs.YtipipjbpjpdcbaaDoor.Ct
set_option linter.unusedVariables false
set_option linter.unusedSimpArgs false
open Go.RowKit
open Go.Proofs.YtipipjbpjpdcbaaDoor.W
open Go.Proofs.YtipipjbpjpdcbaaDoor.V
open Go.Proofs.YtipipjbpjpdcbaaDoor.O
open Go.Proofs.YtipipjbpjpdcbaaDoor.Pb (Alr alrC alrsC len_alrsC reads_blk)
open Go.Proofs.YtipipjbpjpdcbaaDoor.Al

/-- A list comes back, which can be handed on. -/
def OutLS (w : World) (R : List Int) (n : Nat) (e : Ending) (w' : World) : Prop := ∃ A c, e = .returned (.slice A n c) ∧ n = R.length ∧ LS w' w'.heap.size R A c ∧ Below w.heap.size w w'
theorem jns_five {num : Int} {l S : List Int} (h : (next num l S).2 = 5) : (jns num l S = [] → ¬ (0 ≤ lastF l 0 S (-1))) ∧ ∀ y, (jns num l S).getLast? = some y → ∃ k : Nat, S[k]? = some y ∧ place S y = (k : Int) ∧ lastF l 0 S (-1) = (k : Int) := by
  have hv := next_five h
  rw [jns_eq hv]
  have hj := lastF_joint (m := l) (s := S) (i := 0) (acc := -1)
  refine ⟨fun h0 => by rw [hj.1 h0]; omega, fun y hy => ?_⟩
  obtain ⟨k, h1, h2⟩ := hj.2 y hy
  exact ⟨k, h1, place_asc (valid_parts hv).2.2.2.2.2.2.2.2.1 h1, by rw [h2]; simp⟩
set_option maxRecDepth 1000000 in
set_option maxHeartbeats 8000000 in
theorem cutWithin_any (num : Int) (l S0 : List Int) (A X0 : Option Addr) (c c0 B : Nat) (w : World) (h : VW w B num l A c) (hs : LS w B S0 X0 c0) (hB : B ≤ w.heap.size) (hm : S0.length ≤ 100000) :
    Calls Tryd.prog 37 #[.agg #[.int .i64 num, .slice A l.length c], .slice X0 S0.length c0] w (OutLS w (lim num l (S0.length + 1) S0) (lim num l (S0.length + 1) S0).length) := by
  have hb0 := (Below.refl w.heap.size w).alloc (Nat.le_refl _) (.cells #[.int .i64 num, .slice A l.length c] 24)
  have hz := Blk.new w 24 #[.int .i64 num, .slice A l.length c]
  have KN := Lib.hid (fun (S : List Int) (X : Option Addr) (cX : Nat) W (hW : Below w.heap.size w W) (hS : LS W W.heap.size S X cX) => (viewNext_any num l S A X c cX W.heap.size W (((h.more hB).below hW).more hW.size) hS (Nat.le_refl _)))
  have KJ := Lib.hid (fun (S : List Int) (X : Option Addr) (cX : Nat) W (hW : Below w.heap.size w W) (hS : LS W W.heap.size S X cX) => (viewJoiners_any num l S A X c cX W.heap.size W (((h.more hB).below hW).more hW.size) hS (Nat.le_refl _)))
  obtain ⟨R, hR⟩ : ∃ R, R = lim num l (S0.length + 1) S0 := ⟨_, rfl⟩
  have HR := Lib.hid hR
  rw [← hR]
  obtain ⟨n, hn⟩ : ∃ n, n = l.length := ⟨_, rfl⟩
  dsimp only [vwV] at KN KJ
  rw [← hn] at hb0 hz KN KJ ⊢
  obtain ⟨n0, hn0⟩ : ∃ m, m = S0.length := ⟨_, rfl⟩
  have HN0 := Lib.hid hn0
  rw [← hn0] at hm HR ⊢
  have L0 := Lib.hid ((hs.more hB).below hb0)
  have B0 := Lib.hid hb0
  have Z1 := Lib.hid hz
  clear hz hn hn0 hR h hs hB
  go_enter Tryd.func37, Tryd.ntmps37
  go_upto_region 1 with fail
  have L0 := Lib.hid (L0.out.more hb0.size)
  clear hb0
  generalize w.alloc (.cells #[.int .i64 num, .slice A n c] 24) = w0 at *
  have FB := Lib.hid (fun W (hW : Below w0.heap.size w0 W) => (blk2 (Z1.out.below hW Z1.out.lt)))
  go_loopg [1, 5, 6, 7] (n0 + 1) (fun gk s1 _ _ _ wr => ∃ (S : List Int) (X : Option Addr) (cX nS : Nat), gk = nS + 1 ∧ nS ≤ 100000 ∧ s1 = .slice X nS cX ∧ Hid (nS = S.length) ∧ Hid (R = lim num l gk S) ∧ Hid (LS wr wr.heap.size S X cX) ∧ Hid (Below w0.heap.size w0 wr))
  case atStart => exact ⟨S0, X0, c0, n0, rfl, hm, rfl, HN0.out, HR.out, L0.out, Below.refl _ _⟩
  case round =>
    obtain ⟨S, X, cX, nS, rfl, hS5, rfl, HNS, HRS, HL, HW⟩ := hrel
    have BW := Lib.hid (below2 B0.out HW.out)
    have fb := FB.out _ HW.out
    obtain ⟨⟨⟨nn, nl⟩, er⟩, hnx⟩ : ∃ r, next num l S = r := ⟨_, rfl⟩
    obtain ⟨k4, hk4⟩ : ∃ q, q = nl.length := ⟨_, rfl⟩
    obtain ⟨J, hJ⟩ : ∃ J, J = jns num l S := ⟨_, rfl⟩
    obtain ⟨nJ, hnJ⟩ : ∃ q, q = J.length := ⟨_, rfl⟩
    have HNJ := Lib.hid hnJ
    have hJl : nJ ≤ 100000 := by
      rw [hnJ, hJ]
      unfold jns
      split
      · exact Nat.le_trans (List.length_filter_le _ _) (by rw [← HNS.out]; exact hS5)
      · simp
    have KJX := Lib.hid (show Calls Tryd.prog 52 #[.agg #[.int .i64 num, .slice A n c], .slice X nS cX] wr (OutI wr J nJ) by
      have := (KJ.out S X cX wr BW.out HL.out).mono fun _ _ h => ownI_n h nJ (by rw [← hJ]; exact hnJ)
      rw [← HNS.out, ← hJ] at this
      exact this)
    have KX := Lib.hid (fun W (hW : Below wr.heap.size wr W) => show Calls Tryd.prog 38 #[.agg #[.int .i64 num, .slice A n c], .slice X nS cX] W (OutNx W nn k4 er) by
      have := (KN.out S X cX W (below2 BW.out hW) ((HL.out.below hW).more hW.size)).mono fun _ _ h => next_n h nn k4 er (by rw [hnx]) (by rw [hnx]; exact hk4) (by rw [hnx])
      rwa [← HNS.out] at this)
    have HJ5 := Lib.hid (fun (h5 : er = 5) => show (J = [] → ¬ (0 ≤ lastF l 0 S (-1))) ∧ ∀ y, J.getLast? = some y → ∃ k : Nat, S[k]? = some y ∧ place S y = (k : Int) ∧ lastF l 0 S (-1) = (k : Int) by
      have := jns_five (num := num) (l := l) (S := S) (by rw [hnx]; exact h5)
      rwa [← hJ] at this)
    have HPOS := Lib.hid (fun (h5 : er = 5) (hp : 0 ≤ lastF l 0 S (-1)) => (lim_pos (n := nS) (show (next num l S).2 = 5 ∧ 0 ≤ lastF l 0 S (-1) from ⟨by rw [hnx]; exact h5, hp⟩)))
    have HNEG := Lib.hid (fun (hq : ¬ (er = 5 ∧ 0 ≤ lastF l 0 S (-1))) => (lim_neg (n := nS) (show ¬ ((next num l S).2 = 5 ∧ 0 ≤ lastF l 0 S (-1)) from fun h => hq ⟨by have := h.1; rw [hnx] at this; exact this, h.2⟩)))
    clear hnx hk4 hJ hnJ KN KJ
    go_upto_region 3 with (first
      | (go_at_call 52; (with_reducible refine KJX.out.mono ?_); rintro e w3 ⟨A3, c3, rfl, hc3, -, r3, b3⟩; (have p3 := FB.out _ (below2 HW.out b3)))
      | (go_at_call 38; (with_reducible refine (KX.out _ b3).mono ?_); rintro e w4 ⟨A4, c4, rfl, q4⟩)
      | fail)
    generalize hw5 : w4.alloc (.cells #[.int .i64 nn, .slice A4 k4 c4] 24) = w5 at *
    have Q5 := Lib.hid (show Below wr.heap.size wr w5 by rw [← hw5]; exact (below2 b3 q4).alloc (below2 b3 q4).size _)
    have Q35 := Lib.hid (show Below w3.heap.size w3 w5 by rw [← hw5]; exact q4.alloc q4.size _)
    have V5 := Lib.hid (below2 HW.out Q5.out)
    have W5 := Lib.hid (below2 BW.out Q5.out)
    have L5 := Lib.hid (show LS w5 w5.heap.size S X cX from (HL.out.below Q5.out).more Q5.out.size)
    have R3 := Lib.hid (r3.below Q35.out)
    clear hw5 q4 b3 r3 p3 HL KX KJX fb BW
    by_cases h5 : er = 5
    case neg =>
      have HRS2 := Lib.hid (show R = S by rw [HRS.out]; exact HNEG.out fun h => h5 h.1)
      have hen : ((er : Int) != 5) = true := bneT (by omega)
      clear h5 HJ5 HPOS HNEG
      go_wp2_with fail
      go_ret
      exact ⟨X, cX, by rw [HRS2.out, ← HNS.out]; rfl, rfl, by rw [HRS2.out]; exact L5.out, W5.out⟩
    have hen : ((er : Int) != 5) = false := bneF (by omega)
    rcases Nat.eq_zero_or_pos nJ with h0 | h0
    · have HRS2 := Lib.hid (show R = S by
        rw [HRS.out]
        exact HNEG.out fun h => by
          have q := (HJ5.out h5).1 (List.eq_nil_of_length_eq_zero (by have := HNJ.out; omega))
          have := h.2
          omega)
      subst h0
      clear h5 HJ5 HPOS HNEG
      go_wp2_with fail
      go_ret
      exact ⟨X, cX, by rw [HRS2.out, ← HNS.out]; rfl, rfl, by rw [HRS2.out]; exact L5.out, W5.out⟩
    have hj0 : ((nJ : Int) == 0) = false := beqF (by omega)
    obtain ⟨y, hy⟩ : ∃ y, J.getLast? = some y := by
      rcases hq : J.getLast? with _ | y
      · rw [List.getLast?_eq_none_iff] at hq
        have := HNJ.out
        rw [hq] at this
        simp at this
        omega
      · exact ⟨y, rfl⟩
    obtain ⟨k, hk1, hk2, hk3⟩ := (HJ5.out h5).2 y hy
    have HRS2 := Lib.hid (show R = lim num l nS (S.eraseIdx k) by
      rw [HRS.out, HPOS.out h5 (by rw [hk3]; omega), hk3]; rfl)
    obtain ⟨j, hj⟩ : ∃ j, nJ = j + 1 := ⟨nJ - 1, by omega⟩
    have wj : IntKind.i64.wrap ((nJ : Int) - 1) = (j : Int) := by rw [IntWalk.i64_in _ (by omega)]; omega
    have j0 : ¬ (j : Int) < 0 := by omega
    have jn : (j : Int) < (nJ : Int) := by omega
    obtain ⟨ad, u, rfl, hadb, hxu, hcell⟩ := R3.out.at_ (k := j) (by omega)
    have hux : u = .int .i64 y := by
      rw [List.getLast?_eq_getElem?, show J.length - 1 = j by have := HNJ.out; omega] at hy
      simp [hy, intV] at hxu
      exact hxu.symm
    rw [hux] at hcell
    have hkS : k < nS := by rw [HNS.out]; exact (List.getElem?_eq_some_iff.1 hk1).1
    have KW := Lib.hid (show Calls Tryd.prog 53 #[.slice X nS cX, .int .i64 y] w5 (OwnI w5 (S.eraseIdx k)) by
      have := cutWithout_any y k X cX w5.heap.size S w5 L5.out (Nat.le_refl _) hk1 hk2 (by rw [← HNS.out]; exact hS5)
      rwa [← HNS.out] at this)
    have LE := Lib.hid (show (S.eraseIdx k).length = nS - 1 by rw [List.length_eraseIdx_of_lt (by rw [← HNS.out]; exact hkS), ← HNS.out])
    have EE := Lib.hid (show ∀ x ∈ S.eraseIdx k, In64 x from fun x hx => L5.out.el x ((List.eraseIdx_sublist _ _).subset hx))
    clear hux hxu hy hk1 hk2 hk3 hj h5 h0 hadb HJ5 HPOS HNEG HRS
    go_wp2_with (first
      | (go_at_call 53; (with_reducible refine KW.out.mono ?_); rintro e w6 q6; obtain ⟨A6, c6, rfl, hc6, ho6, hr6, b6⟩ := ownI_n q6 (nS - 1) LE.out.symm)
      | fail)
    go_roundg nS
    case measure => omega
    case rel =>
      exact ⟨S.eraseIdx k, A6, c6, nS - 1, by omega, by omega, rfl, LE.out.symm, HRS2.out, own_lsV ho6 LE.out.symm (by omega) EE.out, below2 V5.out b6⟩

set_option maxRecDepth 1000000 in
set_option maxHeartbeats 8000000 in
theorem cutPropose_any (num : Int) (l : List Int) (A E : Option Addr) (c cE B : Nat) (s : List Alr) (w : World) (h : VW w B num l A c) (hs : AS w B s E cE) (hB : B ≤ w.heap.size) (hm : s.length ≤ 100000) (ht : H.Tab w) :
    Calls Tryd.prog 13 #[.agg #[.int .i64 num, .slice A l.length c], .slice E s.length cE] w (OutLB w ((propA K num l s).getD []) ((propA K num l s).getD []).length (propA K num l s).isSome) := by
  have hb0 := (Below.refl w.heap.size w).alloc (Nat.le_refl _) (.cells #[.int .i64 num, .slice A l.length c] 24)
  have hz := Blk.new w 24 #[.int .i64 num, .slice A l.length c]
  have KD := Lib.hid (fun W (hW : Below w.heap.size w W) => cutDivide_any num l A E c cE w.heap.size s W ((h.more hB).below hW) ((hs.more hB).below hW) hW.size hm (ht.on hW))
  have EL := Lib.hid (fun x (hx : x ∈ susp K num l s true) => show In64 x from by
    obtain ⟨a, ha, rfl⟩ := mem_subsA.1 (susp_mem hx)
    exact (hs.el a ha).2.2.2)
  have TL := Lib.hid (susp_len (num := num) (l := l) (high := true) hm)
  have HR := Lib.hid (show propA K num l s = if susp K num l s true = [] ∨ susp K num l s false ≠ [] then none else prop num l ((susp K num l s true).length + 1) (susp K num l s true) from rfl)
  obtain ⟨R, hR⟩ : ∃ R, R = propA K num l s := ⟨_, rfl⟩
  rw [← hR] at HR ⊢
  clear hR
  have ND := Lib.hid (fun w' e hR he hb => outLB_no (w := w) (w' := w') (R := R) (e := e) hR he hb)
  have YD := Lib.hid (fun S X cX k w' e hR hk he ho hb => outLB_yes (w := w) (w' := w') (R := R) (S := S) (X := X) (cX := cX) (k := k) (e := e) hR hk he ho hb)
  obtain ⟨Q, hQ⟩ : ∃ Q, Q = OutLB w (R.getD []) (R.getD []).length R.isSome := ⟨_, rfl⟩
  rw [← hQ] at ND YD ⊢
  clear hQ
  generalize susp K num l s true = T at *
  generalize susp K num l s false = F at *
  have KW := Lib.hid (fun (X : Option Addr) (cX : Nat) W (hW : Below w.heap.size w W) (hS : LS W W.heap.size T X cX) => (cutWithin_any num l T A X c cX W.heap.size W (((h.more hB).below hW).more hW.size) hS (Nat.le_refl _) TL.out))
  obtain ⟨P, hP⟩ : ∃ P, P = lim num l (T.length + 1) T := ⟨_, rfl⟩
  rw [← hP] at KW
  have HPL := Lib.hid (show prop num l (T.length + 1) T = if (next num l P).2 = 0 then some P else none by rw [hP]; exact prop_lim (Nat.lt_succ_self _))
  have KN := Lib.hid (fun (X : Option Addr) (cX : Nat) W (hW : Below w.heap.size w W) (hS : LS W W.heap.size P X cX) => (viewNext_any num l P A X c cX W.heap.size W (((h.more hB).below hW).more hW.size) hS (Nat.le_refl _)))
  obtain ⟨n, hn⟩ : ∃ n, n = l.length := ⟨_, rfl⟩
  obtain ⟨ns, hns⟩ : ∃ m, m = s.length := ⟨_, rfl⟩
  dsimp only [vwV] at KN
  rw [← hn] at hb0 hz KD KN KW ⊢
  rw [← hns] at KD ⊢
  obtain ⟨nt, hnt⟩ : ∃ m, m = T.length := ⟨_, rfl⟩
  obtain ⟨nf, hnf⟩ : ∃ m, m = F.length := ⟨_, rfl⟩
  obtain ⟨nP, hnP⟩ : ∃ m, m = P.length := ⟨_, rfl⟩
  rw [← hnt, ← hnf] at KD
  rw [← hnt] at HPL HR TL KW
  rw [← hnP] at KN KW
  have HNT := Lib.hid hnt
  have HNF := Lib.hid hnf
  have HNP := Lib.hid hnP
  have hnt5 : nt ≤ 100000 := TL.out
  have B0 := Lib.hid hb0
  have Z1 := Lib.hid hz
  clear hb0 hz hn hns hnt hnf hnP hP h hs hm hB ht
  go_enter Tryd.func13, Tryd.ntmps13
  go_upto_region 1 with fail
  generalize w.alloc (.cells #[.int .i64 num, .slice A n c] 24) = w0 at *
  have FB := Lib.hid (fun W (hW : Below w0.heap.size w0 W) => (blk2 (Z1.out.below hW Z1.out.lt)))
  have p0 := FB.out _ (Below.refl _ _)
  go_upto_region 2 with (first
    | (go_at_call 36; (with_reducible refine (KD.out _ B0.out).mono ?_); rintro e w1 ⟨A2, c2, A1, c1, rfl, h2, h1, r2, r1, q1⟩)
    | fail)
  have V1 := Lib.hid q1
  have W1 := Lib.hid (below2 B0.out q1)
  have L1 := Lib.hid (show LS w1 w1.heap.size T A1 c1 from ⟨by rw [← HNT.out]; exact r1, by have := HNT.out; omega, EL.out, by rw [← HNT.out]; exact h1⟩)
  have p1 := FB.out _ V1.out
  clear q1 r1 r2 KD p0 h1 h2
  rcases Nat.eq_zero_or_pos nt with h0 | h0
  · have HRN := Lib.hid (show R = none by
      have h1 := HNT.out
      have : T = [] := List.eq_nil_of_length_eq_zero (by omega)
      rw [HR.out, if_pos (.inl this)])
    have e0 : ((nt : Int) == 0) = true := beqT (by omega)
    clear h0
    go_wp2_with fail
    exact ND.out _ _ HRN.out rfl W1.out
  have e0 : ((nt : Int) == 0) = false := beqF (by omega)
  rcases Nat.eq_zero_or_pos nf with hf | hf
  rotate_left 1
  · have HRN := Lib.hid (show R = none by
      have h1 := HNF.out
      have : F ≠ [] := fun h => by rw [h] at h1; simp at h1; omega
      rw [HR.out, if_pos (.inr this)])
    have f0 : decide ((nf : Int) > 0) = true := decide_eq_true (by omega)
    have f1 : (0 : Int) < (nf : Int) := by omega
    clear hf
    go_wp2_with fail
    exact ND.out _ _ HRN.out rfl W1.out
  have HRP := Lib.hid (show R = if (next num l P).2 = 0 then some P else none by
    have h1 := HNT.out
    have h2 := HNF.out
    have hT : T ≠ [] := fun h => by rw [h] at h1; simp at h1; omega
    have hF : F = [] := List.eq_nil_of_length_eq_zero (by omega)
    rw [HR.out, if_neg (by simp [hT, hF]), HPL.out])
  have f1 : ¬ ((0 : Int) < (nf : Int)) := by omega
  obtain ⟨⟨⟨nn, nl⟩, er⟩, hnx⟩ : ∃ r, next num l P = r := ⟨_, rfl⟩
  obtain ⟨k4, hk4⟩ : ∃ q, q = nl.length := ⟨_, rfl⟩
  have KX := Lib.hid (fun X cX W (hW : Below w.heap.size w W) (hS : LS W W.heap.size P X cX) => show Calls Tryd.prog 38 #[.agg #[.int .i64 num, .slice A n c], .slice X nP cX] W (OutNx W nn k4 er) from
    (KN.out X cX W hW hS).mono fun _ _ h => next_n h nn k4 er (by rw [hnx]) (by rw [hnx]; exact hk4) (by rw [hnx]))
  have HRP2 := Lib.hid (show R = if er = 0 then some P else none by rw [HRP.out, hnx])
  clear hf h0 hnx hk4 HR HPL HRP KN EL TL
  go_upto_region 6 with (first
    | (go_at_call 37; (with_reducible refine (KW.out _ _ _ W1.out L1.out).mono ?_); rintro e w2 ⟨A3, c3, rfl, -, l3, q2⟩; (have W2 := below2 W1.out q2); (have p2 := FB.out _ (below2 V1.out q2)))
    | (go_at_call 38; (with_reducible refine (KX.out _ _ _ W2 l3).mono ?_); rintro e w4 ⟨A4, c4, rfl, q4⟩)
    | fail)
  have Q5 := Lib.hid (show Below w2.heap.size w2 (w4.alloc (.cells #[.int .i64 nn, .slice A4 k4 c4] 24)) from q4.alloc q4.size _)
  generalize w4.alloc (.cells #[.int .i64 nn, .slice A4 k4 c4] 24) = w5 at *
  have W5 := Lib.hid (below2 W2 Q5.out)
  have L5 := Lib.hid (show LS w5 w5.heap.size P A3 c3 from (l3.below Q5.out).more Q5.out.size)
  clear p1 p2 l3 q2 q4
  by_cases he : er = 0
  · have HRY := Lib.hid (show R = some P by rw [HRP2.out, if_pos he])
    have e5 : ((er : Int) != 0) = false := bneF (by omega)
    clear he
    go_wp2_with fail
    exact YD.out P A3 c3 nP _ _ HRY.out HNP.out rfl L5.out W5.out
  · have HRN := Lib.hid (show R = none by rw [HRP2.out, if_neg he])
    have e5 : ((er : Int) != 0) = true := bneT (by omega)
    clear he
    go_wp2_with fail
    exact ND.out _ _ HRN.out rfl W5.out

theorem cutC : CutC where
  counts := fun num l A E c cE B s w h hs hB hm ht => cutCounts_any num l A E c cE B s w h hs hB (by omega) ht
  unst := fun num l A E c cE B s w h hs hB hm ht => cutUnstable_any num l A E c cE B s w h hs hB (by omega) ht
  stab := fun num l A E c cE B s w h hs hB hm ht => cutStable_any num l A E c cE B s w h hs hB (by omega) ht
  prop := fun num l A E c cE B s w h hs hB hm ht => cutPropose_any num l A E c cE B s w h hs hB (by omega) ht
end Go.Proofs.YtipipjbpjpdcbaaDoor.Ct
