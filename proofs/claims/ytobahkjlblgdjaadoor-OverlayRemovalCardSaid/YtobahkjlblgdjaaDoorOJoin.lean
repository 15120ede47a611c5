/- Layer 4: the walks of OverlayJoin, OverlayNeighbours. -/
import Derived.Test.YtobahkjlblgdjaaDoorOTells
namespace Go.Proofs.YtobahkjlblgdjaaDoor.O
set_option linter.unusedVariables false
open Go.RowKit
open Go.Proofs.YtobahkjlblgdjaaDoor.W
open Go.Proofs.YtobahkjlblgdjaaDoor.V

set_option maxRecDepth 100000 in
set_option maxHeartbeats 4000000 in
theorem join_walk (l : List Int) (i : Nat) (A : Option Addr) (c : Nat) (w : World) (h : LR w w.heap.size l A c) (hi : i < 65536) (ht : H.Tab w) :
    Calls Tryd.prog 7 #[.slice A l.length c, .int .u16 (i : Int)] w (PB w true) := by
  have HT := Lib.hid (fun W (hW : Below w.heap.size w W) => ht.on hW)
  have AW := Lib.hid (awake_any w ht)
  have LH := Lib.hid h
  have CV := Lib.hid (fun W (hW : Below w.heap.size w W) => refValidM_big A c l W (h.up hW))
  have hl := h.l63
  obtain ⟨X, hX⟩ : ∃ X : Int, X = 1 + (i : Int) % 1000 := ⟨_, rfl⟩
  have wi : IntKind.i64.wrap (i : Int) = (i : Int) := IntWalk.i64_in _ (by omega)
  have wX : IntKind.i64.wrap (1 + (i : Int) % 1000) = X := by rw [IntWalk.i64_in _ (by omega)]; omega
  have tX : (i : Int).tmod 1000 = (i : Int) % 1000 := IntWalk.rem_in _ _ (by omega)
  have hXi : isID X = true := isID_iff.2 (by omega)
  have X64 : In64 X := ⟨by omega, by omega⟩
  clear hX h ht
  cases hv : validM l
  · rw [hv] at CV
    go_enter Tryd.func7, Tryd.ntmps7
    go_wp2_with (first
      | (go_at_call 9; (with_reducible refine AW.out.mono ?_); rintro e w1 ⟨rfl, b1⟩)
      | (go_at_call 21; (with_reducible refine (CV.out _ b1).mono ?_); rintro e w2 ⟨rfl, q2⟩; have b2 := bstep b1 q2))
    go_ret
    exact ⟨rfl, b2⟩
  rw [hv] at CV
  have hl16 := (validM_iff.1 hv).2.1
  by_cases h16 : 16 ≤ l.length
  · have f16 : (16 : Int) ≤ (l.length : Int) := by omega
    clear hv h16
    go_enter Tryd.func7, Tryd.ntmps7
    go_wp2_with (first
      | (go_at_call 9; (with_reducible refine AW.out.mono ?_); rintro e w1 ⟨rfl, b1⟩)
      | (go_at_call 21; (with_reducible refine (CV.out _ b1).mono ?_); rintro e w2 ⟨rfl, q2⟩; have b2 := bstep b1 q2))
    all_goals try (exfalso; omega)
    go_ret
    exact ⟨rfl, b2⟩
  have f16 : ¬ (16 : Int) ≤ (l.length : Int) := by omega
  have CH := Lib.hid (fun W (hW : Below w.heap.size w W) => has_any A c w.heap.size l.length l X W rfl (LH.out.rd.below hW) (by omega))
  cases hc : hasB l X
  case true =>
    rw [hc] at CH
    clear hv h16
    go_enter Tryd.func7, Tryd.ntmps7
    go_wp2_with (first
      | (go_at_call 9; (with_reducible refine AW.out.mono ?_); rintro e w1 ⟨rfl, b1⟩)
      | (go_at_call 21; (with_reducible refine (CV.out _ b1).mono ?_); rintro e w2 ⟨rfl, q2⟩; have b2 := bstep b1 q2)
      | (go_at_call 22; (with_reducible refine (CH.out _ b2).mono ?_); rintro e w3 ⟨rfl, rfl⟩))
    all_goals try (exfalso; omega)
    go_ret
    exact ⟨rfl, b2⟩
  rw [hc] at CH
  have hn : X ∉ l := fun hm => by rw [hasB_iff.2 hm] at hc; cases hc
  have hne : l ≠ [X] := fun e => hn (by rw [e]; simp)
  have hv' := after_valid hv hXi hn (by omega)
  have hne' : ins X l ≠ [X] := fun e => by
    have h1 : l.length + 1 = 1 := by have := congrArg List.length e; rwa [len_ins] at this
    have h2 := (validM_iff.1 hv).1
    omega
  have e1 : obsL K l X = rings.map (fun r => aheadK (K r) (ordK (K r) l) X) := obsL_eq hv hXi hne
  have e2 : obsL K (ins X l) X = obsL K l X := by
    rw [e1, obsL_eq hv' hXi hne']
    exact map_congr' fun r _ => joining inj_K hv r hXi hn (by omega)
  obtain ⟨E, hE⟩ : ∃ E, E = obsL K l X := ⟨_, rfl⟩
  obtain ⟨e0, t, hEt⟩ : ∃ e0 t, E = e0 :: t := ⟨_, _, by rw [hE, e1]; rfl⟩
  have hE5 : E.length = 5 := by rw [hE, e1]; rfl
  have he0 : hasB l e0 = true := hasB_iff.2 (by
    have : e0 = aheadK (K 0) (ordK (K 0) l) X := by
      rw [hE, e1] at hEt
      simp only [rings, List.map_cons, List.cons.injEq] at hEt
      exact hEt.1.symm
    rw [this]; exact ahead_mem inj_K hv 0 X)
  have hidi := in_ids (validM_iff.1 hv').2.2.2
  have CI := Lib.hid (fun W (hW : Below w.heap.size w W) => (refInsert_any A c l X W ((LH.out.up hW).rd) (by omega)).mono fun _ _ h => h.to (ins X l) (l.length + 1) rfl len_ins)
  have CA := Lib.hid (fun W (hW : Below w.heap.size w W) => show Calls Tryd.prog 13 #[.slice A l.length c, .int .i64 X] W (OutI W E 5) from (overObservers_any X A c w.heap.size l W ((LH.out.ls (by omega)).below hW) hW.size X64 (HT.out W hW)).mono fun _ _ h => h.to E 5 hE.symm hE5)
  have CB := Lib.hid (fun W A2 c2 (hW : Below w.heap.size w W) (hr : Reads W W.heap.size 1 A2 (l.length + 1) ((ins X l).map intV)) (hc2 : l.length + 1 ≤ c2) => show Calls Tryd.prog 13 #[.slice A2 (l.length + 1) c2, .int .i64 X] W (OutI W E 5) from by
    have hlen := len_ins (id := X) (l := l)
    have := (overObservers_any X A2 c2 W.heap.size (ins X l) W ⟨by rw [hlen]; exact hr, by rw [hlen]; omega, hidi, by rw [hlen]; exact hc2⟩ (Nat.le_refl _) X64 (HT.out W hW)).mono fun _ _ h => h.to E 5 (by rw [e2, hE]) hE5
    rwa [hlen] at this)
  have CH0 := Lib.hid (fun W (hW : Below w.heap.size w W) => show Calls Tryd.prog 22 #[.slice A l.length c, .int .i64 e0] W (fun e w' => e = .returned (.bool true) ∧ W = w') from by
    have := has_any A c w.heap.size l.length l e0 W rfl (LH.out.rd.below hW) (by omega)
    rwa [he0] at this)
  have SA := Lib.hid (fun W X1 X2 z1 z2 (h1 : Reads W W.heap.size 1 X1 5 (E.map intV)) (h2 : Reads W W.heap.size 1 X2 5 (E.map intV)) => law4same_at W E X1 X2 5 z1 z2 hE5.symm (by decide) h1 h2)
  have HE0 := Lib.hid (show E[0]? = some e0 by rw [hEt]; rfl)
  have HL := Lib.hid hl16
  clear e1 e2 hE hEt hE5 he0 hidi hn hne hne' hv hv' hc h16
  go_enter Tryd.func7, Tryd.ntmps7
  go_wp2_with (first
    | (go_at_call 9; (with_reducible refine AW.out.mono ?_); rintro e w1 ⟨rfl, b1⟩)
    | (go_at_call 21; (with_reducible refine (CV.out _ b1).mono ?_); rintro e w2 ⟨rfl, q2⟩; have b2 := bstep b1 q2)
    | (go_at_call 22; (with_reducible refine (CH.out _ b2).mono ?_); rintro e w3 ⟨rfl, rfl⟩)
    | (go_at_call 24; (with_reducible refine (CI.out _ b2).mono ?_); rintro e w3 ⟨A3, c3, rfl, k3, o3, r3, q3⟩; (have b3 : Below w.heap.size w w3 := bstep b2 q3); clear o3)
    | (go_at_call 13; (with_reducible refine (CA.out _ b3).mono ?_); rintro e w4 ⟨A4, c4, rfl, k4, o4, r4, q4⟩; (have b4 : Below w.heap.size w w4 := bstep b3 q4); clear o4)
    | (go_at_call 13; (with_reducible refine (CB.out _ _ _ b4 ((r3.below q4).more q4.size) k3).mono ?_); rintro e w5 ⟨A5, c5, rfl, k5, o5, r5, q5⟩; (have b5 : Below w.heap.size w w5 := bstep b4 q5); clear o5)
    | (go_at_call 10; (with_reducible refine (SA.out _ _ _ _ _ ((r4.below q5).more q5.size) r5).mono ?_); rintro e w6 ⟨rfl, q6⟩; (have b6 : Below w.heap.size w w6 := bstep b5 q6); obtain ⟨ad, rfl, hd, hx⟩ := out_cell (((r4.below q5).more q5.size).below q6 |>.more q6.size) 0 e0 HE0.out (by decide); (have hx0 : w6.cell? ad = some (.int .i64 e0) := by simpa [Addr.add] using hx); clear hx)
    | (go_at_call 22; (with_reducible refine (CH0.out _ b6).mono ?_); rintro e w7 ⟨rfl, rfl⟩)
    | fail)
  all_goals try (exfalso; omega)
  go_ret
  exact ⟨rfl, b6⟩
end Go.Proofs.YtobahkjlblgdjaaDoor.O
