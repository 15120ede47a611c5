/- Layer 7: the laws' own helpers: same, Applicable, set. -/
import Derived.Test.YtipipjbpjpdcbaaDoorCPairs
namespace Go.Proofs.YtipipjbpjpdcbaaDoor.Ct
set_option linter.unusedVariables false
set_option linter.unusedSimpArgs false
open Go.RowKit
open Go.Proofs.YtipipjbpjpdcbaaDoor.W
open Go.Proofs.YtipipjbpjpdcbaaDoor.V
open Go.Proofs.YtipipjbpjpdcbaaDoor.O
open Go.Proofs.YtipipjbpjpdcbaaDoor.Pb (Alr alrC alrsC len_alrsC reads_blk)
open Go.Proofs.YtipipjbpjpdcbaaDoor.Al

set_option maxRecDepth 100000 in
set_option maxHeartbeats 1000000 in
theorem law7same_any (A A' : Option Addr) (c c' B B' : Nat) (xs ys : List Int) (w : World) (ha : Reads w B 1 A xs.length (xs.map intV)) (hb : Reads w B' 1 A' ys.length (ys.map intV)) (hl : xs.length ≤ 1099511627776) (hl' : ys.length ≤ 1099511627776) :
    Calls Tryd.prog 15 #[.slice A xs.length c, .slice A' ys.length c'] w fun e w' => e = .returned (.bool (decide (xs = ys))) ∧ ∃ k, w' = w.drewN k := by
  by_cases hlen : xs.length = ys.length
  · have hz : ((xs.length : Int) != (ys.length : Int)) = false := bneF (by omega)
    have HL := Lib.hid hlen
    obtain ⟨n, hn⟩ : ∃ n, n = ys.length := ⟨_, rfl⟩
    rw [hlen] at ha hl hz ⊢
    rw [← hn] at ha hb hl hl' hz ⊢
    have HN := Lib.hid hn
    clear hlen hn
    go_enter Tryd.func15, Tryd.ntmps15
    go_wp2
    go_loopw [5] (fun i wr => ∃ k m : Nat, k ≤ n ∧ i = .int .i64 k ∧ wr = w.drewN m ∧ xs.take k = ys.take k) (fun i _ => n - (intOf i).toNat)
    case atStart => exact ⟨0, 0, Nat.zero_le _, rfl, rfl, by simp⟩
    case round =>
      obtain ⟨k, m, hk, rfl, rfl, htk⟩ := hrel
      by_cases hlt : k < n
      · obtain ⟨ad, u, rfl, _, hx, hc⟩ := ha.at_ hlt
        obtain ⟨bd, u', rfl, _, hx', hc'⟩ := hb.at_ hlt
        obtain ⟨x, hxk⟩ : ∃ x, xs[k]? = some x := ⟨_, List.getElem?_eq_getElem (by have := HL.out; have := HN.out; omega)⟩
        obtain ⟨y, hyk⟩ : ∃ y, ys[k]? = some y := ⟨_, List.getElem?_eq_getElem (by have := HN.out; omega)⟩
        have e1 : u = intV x := by simp [hxk] at hx; exact hx.symm
        have e2 : u' = intV y := by simp [hyk] at hx'; exact hx'.symm
        rw [e1] at hc
        rw [e2] at hc'
        have HXK := Lib.hid hxk
        have HYK := Lib.hid hyk
        have HTK := Lib.hid htk
        have hlt2 : (k : Int) < (n : Int) := by omega
        clear e1 e2 hx hx' hxk hyk htk
        dsimp only [intV] at hc hc'
        by_cases hxy : x = y
        · subst hxy
          have HT2 := Lib.hid (take_eq_of HTK.out HXK.out HYK.out rfl)
          go_wp2_with fail
          go_quiet (fail)
          go_wp2_with fail
          go_roundw
          case rel => exact ⟨k + 1, _, by omega, by go_num, rfl, HT2.out⟩
          case measure => simp [intOf]; omega
        · have hz2 : (x != y) = true := bneT hxy
          have HNE := Lib.hid (ne_of_get HXK.out HYK.out hxy)
          have hd := Lib.hid (show decide (xs = ys) = false by simpa using HNE.out)
          clear hxy
          go_wp2_with fail
          go_quiet (fail)
          go_wp2_with fail
          go_ret
          rw [hd.out]
          exact ⟨rfl, _, World.drewN_drewN _ _ _⟩
      · have hd := Lib.hid (show decide (xs = ys) = true by
          have h1 := HL.out
          have h2 := HN.out
          rw [List.take_of_length_le (by omega), List.take_of_length_le (by omega)] at htk
          simpa using htk)
        clear htk
        go_wp2
        go_ret
        rw [hd.out]
        exact ⟨rfl, _, rfl⟩
  · have hz : ((xs.length : Int) != (ys.length : Int)) = true := bneT (by omega)
    have hd := Lib.hid (show decide (xs = ys) = false by
      rw [decide_eq_false_iff_not]; intro h; exact hlen (by rw [h]))
    clear hlen
    go_enter Tryd.func15, Tryd.ntmps15
    go_wp2
    go_ret
    rw [hd.out]
    exact ⟨rfl, 0, rfl⟩



theorem law7same_at (W : World) (xs : List Int) (X Y : Option Addr) (n x y : Nat) (hn : n = xs.length) (hl : n ≤ 1000) (h : Reads W W.heap.size 1 X n (xs.map intV)) (h' : Reads W W.heap.size 1 Y n (xs.map intV)) :
    Calls Tryd.prog 15 #[.slice X n x, .slice Y n y] W (PB W true) := by
  subst hn
  refine (law7same_any X Y x y _ _ xs xs W h h' (by omega) (by omega)).mono fun e w' h => ?_
  obtain ⟨h1, k, rfl⟩ := h
  exact ⟨by rw [h1]; simp, below_drewN' (Below.refl _ _) _⟩


set_option maxRecDepth 1000000 in
set_option maxHeartbeats 4000000 in
theorem refApplicable_any (num : Int) (l q : List Int) (A C : Option Addr) (c d B : Nat) (w : World) (h : VW w B num l A c) (h' : LS w B q C d) (hB : B ≤ w.heap.size) :
    Calls Tryd.prog 21 #[.agg #[.int .i64 num, .slice A l.length c], .slice C q.length d] w (PB w (decide ((next num l q).2 = 0))) := by
  have hb0 := (Below.refl w.heap.size w).alloc (Nat.le_refl _) (.cells #[.int .i64 num, .slice A l.length c] 24)
  have hz := Blk.new w 24 #[.int .i64 num, .slice A l.length c]
  have KN := Lib.hid (fun W (hW : Below w.heap.size w W) => refNext_any num l q A C c d w.heap.size W ((h.more hB).below hW) ((h'.more hB).below hW) hW.size)
  dsimp only [vwV] at KN
  obtain ⟨⟨⟨nn, nl⟩, er⟩, hnx⟩ : ∃ r, next num l q = r := ⟨_, rfl⟩
  have KX := Lib.hid (fun W (hW : Below w.heap.size w W) => (KN.out W hW).mono fun _ _ h => next_n h nn nl.length er (by rw [hnx]) (by rw [hnx]) (by rw [hnx]))
  rw [hnx]
  have B0 := Lib.hid hb0
  have Z1 := Lib.hid hz
  clear hb0 hz KN h h' hnx
  generalize l.length = n at *
  generalize q.length = m at *
  generalize nl.length = k at *
  show Calls Tryd.prog 21 _ w (PB w (decide (er = 0)))
  have he : ((er : Int) == 0) = decide (er = 0) := by by_cases h : er = 0 <;> simp [h]
  go_enter Tryd.func21, Tryd.ntmps21
  go_upto_region 1 with fail
  generalize w.alloc (.cells #[.int .i64 num, .slice A n c] 24) = w0 at *
  have p0 := blk2 Z1.out
  go_wp2_with (first
    | (go_at_call 39; (with_reducible refine (KX.out _ B0.out).mono ?_); rintro e w4 ⟨A4, c4, rfl, q4⟩)
    | fail)
  go_ret
  exact ⟨rfl, below2 B0.out (q4.alloc q4.size _)⟩
/-- The set of alerts that some numbers select. -/
def setF (num : Int) (l : List Int) (xs : List Nat) : List Alr := mergeA [] (pairsF num l xs)
theorem setF_len {num : Int} {l : List Int} {xs : List Nat} (h : (pairsF num l xs).length ≤ xs.length) : (setF num l xs).length ≤ xs.length := by
  have := (merge_len (b := pairsF num l xs) (a := [])).2
  simp at this
  unfold setF
  omega
def OutAS (w : World) (S : List Alr) (e : Ending) (w' : World) : Prop := ∃ X cX, e = .returned (.slice X S.length cX) ∧ AS w' w'.heap.size S X cX ∧ Below w.heap.size w w'
set_option maxRecDepth 1000000 in
set_option maxHeartbeats 4000000 in
theorem set_any (num : Int) (l : List Int) (A L : Option Addr) (c cL B : Nat) (xs : List Nat) (w : World) (h : VW w B num l A c) (hs : US w B xs L cL) (hB : B ≤ w.heap.size) (hv : validV num l = true) (hm : xs.length ≤ 1000) :
    Calls Tryd.prog 20 #[.agg #[.int .i64 num, .slice A l.length c], .slice L xs.length cL] w (OutAS w (setF num l xs)) := by
  have hb0 := (Below.refl w.heap.size w).alloc (Nat.le_refl _) (.cells #[.int .i64 num, .slice A l.length c] 24)
  have hz := Blk.new w 24 #[.int .i64 num, .slice A l.length c]
  have KP := Lib.hid (fun W (hW : Below w.heap.size w W) => pairsF_any num l A L c cL w.heap.size xs W ((h.more hB).below hW) ((hs.more hB).below hW) hW.size hv)
  have HS := Lib.hid (show setF num l xs = mergeA [] (pairsF num l xs) from rfl)
  obtain ⟨S, hS⟩ : ∃ S, S = setF num l xs := ⟨_, rfl⟩
  rw [← hS] at HS ⊢
  clear hS
  generalize pairsF num l xs = P at *
  have KU := Lib.hid (fun (O : List Alr) (X : Option Addr) (cX : Nat) (x : Alr) W (hO : AS W W.heap.size O X cX) (hl : O.length ≤ 1000) => refPut_any X cX W.heap.size O x W hO (Nat.le_refl _) (by omega))
  have B0 := Lib.hid hb0
  have Z1 := Lib.hid hz
  clear hb0 hz h hs
  generalize l.length = n at *
  generalize xs.length = nx at *
  go_enter Tryd.func20, Tryd.ntmps20
  go_upto_region 1 with fail
  generalize w.alloc (.cells #[.int .i64 num, .slice A n c] 24) = w0 at *
  have p0 := blk2 Z1.out
  go_wp2_with (first
    | (go_at_call 25; (with_reducible refine (KP.out _ B0.out).mono ?_); rintro e w1 ⟨A1, c1, rfl, as1, hok, hlen, q1⟩)
    | fail)
  have W1 := Lib.hid (below2 B0.out q1)
  have RP := Lib.hid (fun W (hW : Below w1.heap.size w1 W) => as1.rd.below hW)
  have EP := Lib.hid as1.el
  obtain ⟨np, hnp⟩ : ∃ m, m = P.length := ⟨_, rfl⟩
  have HN := Lib.hid hnp
  rw [← hnp] at RP hlen ⊢
  have hnp5 : np ≤ 1000 := by omega
  clear p0 q1 as1 hok KP hnp
  go_loopg [5, 7] np (fun gk s5 s7 wr => ∃ (k : Nat) (O : List Alr) (X : Option Addr) (cX nO : Nat), k + gk = np ∧ s7 = .int .i64 k ∧ s5 = .slice X nO cX ∧ Hid (nO = O.length) ∧ Hid (O = mergeA [] (P.take k)) ∧ Hid (AS wr wr.heap.size O X cX) ∧ Hid (Below w1.heap.size w1 wr))
  case atStart => exact ⟨0, [], none, 0, 0, by omega, rfl, rfl, rfl, rfl, AS.nil, Below.refl _ _⟩
  case round =>
    obtain ⟨k, O, X, cX, nO, hkg, rfl, rfl, HNO, HO, HA, HW⟩ := hrel
    cases gk with
    | zero =>
      have hkz : ¬ ((k : Int) < (np : Int)) := by omega
      have HK := Lib.hid (show O = S by rw [HO.out, HS.out, List.take_of_length_le (by have := HN.out; omega)])
      go_wp2_with fail
      go_ret
      exact HK.out ▸ ⟨X, cX, by rw [HNO.out]; rfl, HA.out, below2 W1.out HW.out⟩
    | succ gk =>
      have hkz : (k : Int) < (np : Int) := by omega
      obtain ⟨x, hx⟩ : ∃ x, P[k]? = some x := ⟨_, List.getElem?_eq_getElem (by have := HN.out; omega)⟩
      obtain ⟨ad, rfl, -, -, x0, x1, x2, x3⟩ := alr_at (RP.out _ HW.out) hx
      have LO := Lib.hid (show O.length ≤ 1000 from by
        have := (merge_len (b := P.take k) (a := [])).2
        rw [← HO.out, List.length_take] at this
        simp at this
        omega)
      have HX := Lib.hid (show mergeA [] (P.take (k + 1)) = putA O x from by rw [merge_snoc hx, ← HO.out])
      have EX := Lib.hid (El.putA (EP.out x (List.mem_of_getElem? hx)) HA.out.el)
      have KX := Lib.hid (show Calls Tryd.prog 24 #[.slice X nO cX, alrV x] wr (OwnS wr (putA O x)) by
        have := KU.out O X cX x wr HA.out LO.out
        rwa [← HNO.out] at this)
      dsimp only [alrV] at KX
      clear hx
      go_wp2_with (first
        | (go_at_call 24; (with_reducible refine KX.out.mono ?_); rintro e w3 ⟨v3, rfl, ho3, q3⟩)
        | fail)
      obtain ⟨X3, c3, rfl, as3⟩ := AS.of_own ho3 (by have := (putA_len (s := O) (a := x)).2; have := LO.out; omega) EX.out
      have A3 := Lib.hid as3
      have V3 := Lib.hid (below2 HW.out q3)
      clear ho3 as3 q3
      go_roundg gk
      case measure => omega
      case rel => exact ⟨k + 1, putA O x, X3, c3, _, by omega, by go_num, rfl, rfl, by show putA O x = _; rw [HX.out], A3.out, V3.out⟩
end Go.Proofs.YtipipjbpjpdcbaaDoor.Ct
