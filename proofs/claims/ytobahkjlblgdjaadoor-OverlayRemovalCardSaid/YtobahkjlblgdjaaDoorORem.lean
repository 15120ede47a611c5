/- Layer 4: the walk of OverlayRemoval. -/
import Derived.Test.YtobahkjlblgdjaaDoorODeg
namespace Go.Proofs.YtobahkjlblgdjaaDoor.O
set_option linter.unusedVariables false
open Go.RowKit
open Go.Proofs.YtobahkjlblgdjaaDoor.W
open Go.Proofs.YtobahkjlblgdjaaDoor.V

set_option maxRecDepth 100000 in
set_option maxHeartbeats 4000000 in
theorem removal_walk (l : List Int) (i : Nat) (A : Option Addr) (c : Nat) (w : World) (h : LR w w.heap.size l A c) (hi : i < 256) (ht : H.Tab w) :
    Calls Tryd.prog 6 #[.slice A l.length c, .int .u8 (i : Int)] w (PB w true) := by
  have HT := Lib.hid (fun W (hW : Below w.heap.size w W) => ht.on hW)
  have AW := Lib.hid (awake_any w ht)
  have LH := Lib.hid h
  have CV := Lib.hid (fun W (hW : Below w.heap.size w W) => refValidM_big A c l W (h.up hW))
  have hl := h.l63
  clear h ht
  cases hv : validM l
  · rw [hv] at CV
    go_enter Tryd.func6, Tryd.ntmps6
    go_wp2_with (first
      | (go_at_call 9; (with_reducible refine AW.out.mono ?_); rintro e w1 ⟨rfl, b1⟩)
      | (go_at_call 21; (with_reducible refine (CV.out _ b1).mono ?_); rintro e w2 ⟨rfl, q2⟩; have b2 := bstep b1 q2))
    go_ret
    exact ⟨rfl, b2⟩
  rw [hv] at CV
  have hl16 := (validM_iff.1 hv).2.1
  by_cases h3 : l.length < 3
  · have f2 : (l.length : Int) < 3 := by omega
    clear hv h3
    go_enter Tryd.func6, Tryd.ntmps6
    go_wp2_with (first
      | (go_at_call 9; (with_reducible refine AW.out.mono ?_); rintro e w1 ⟨rfl, b1⟩)
      | (go_at_call 21; (with_reducible refine (CV.out _ b1).mono ?_); rintro e w2 ⟨rfl, q2⟩; have b2 := bstep b1 q2))
    all_goals try (exfalso; omega)
    go_ret
    exact ⟨rfl, b2⟩
  have f2 : ¬ (l.length : Int) < 3 := by omega
  have h3' : 3 ≤ l.length := by omega
  obtain ⟨n, hn⟩ : ∃ n, n = l.length := ⟨_, rfl⟩
  have HN := Lib.hid hn
  obtain ⟨p, hp⟩ : ∃ p, p = i % n := ⟨_, rfl⟩
  have hpn : p < n := by rw [hp]; exact Nat.mod_lt _ (by omega)
  obtain ⟨x, hx⟩ : ∃ x, l[p]? = some x := ⟨_, List.getElem?_eq_getElem (by omega)⟩
  have wi : IntKind.i64.wrap (i : Int) = (i : Int) := IntWalk.i64_in _ (by omega)
  have mi : (i : Int) % (n : Int) = (p : Int) := by rw [hp, Int.natCast_emod]
  have ti : (i : Int).tmod (n : Int) = (p : Int) := by rw [IntWalk.rem_in _ _ (by omega)]; exact mi
  have hxl := List.mem_of_getElem? hx
  have hel := in_ids (validM_iff.1 hv).2.2.2
  obtain ⟨hvr, hlr⟩ := rest_valid hv h3' hxl
  obtain ⟨ad, u, rfl, had, hxx, hcell⟩ := LH.out.rd.at_ (k := p) (by omega)
  have hux : u = .int .i64 x := by simp [hx, intV] at hxx; exact hxx.symm
  rw [hux] at hcell
  have x64 := hel x hxl
  have hxo : (obsL K l x).length = 5 := by rw [obsL_mem hv (by omega) hxl]; rfl
  have hxs : (subL K l x).length = 5 := by rw [subL_eq hv (by omega) hxl]; rfl
  obtain ⟨m, hm⟩ : ∃ m, m = (l.filter fun y => y != x).length := ⟨_, rfl⟩
  have hm16 : m ≤ 16 := by omega
  have CW := Lib.hid (fun W (hW : Below w.heap.size w W) => (without_any (some ad) c l x W ((LH.out.up hW).rd) (by omega)).mono fun _ _ h => h.to (l.filter fun y => y != x) m rfl hm.symm)
  have CO := Lib.hid (fun W (hW : Below w.heap.size w W) => (overObservers_any x (some ad) c w.heap.size l W ((LH.out.ls (by omega)).below hW) hW.size x64 (HT.out W hW)).mono fun _ _ h => h.to (obsL K l x) 5 rfl hxo)
  have CX := Lib.hid (fun W (hW : Below w.heap.size w W) => (overSubjects_any x (some ad) c w.heap.size l W ((LH.out.ls (by omega)).below hW) hW.size x64 (HT.out W hW)).mono fun _ _ h => h.to (subL K l x) 5 rfl hxs)
  have CA := Lib.hid (fun y (hy : y ∈ l) W (hW : Below w.heap.size w W) => (overSubjects_any y (some ad) c w.heap.size l W ((LH.out.ls (by omega)).below hW) hW.size (hel y hy) (HT.out W hW)).mono fun _ _ h => h.to (subL K l y) 5 rfl (by rw [subL_eq hv (by omega) hy]; rfl))
  have CB := Lib.hid (fun y (hy : y ∈ l) (hyr : y ∈ l.filter fun y => y != x) W (hW : Below w.heap.size w W) A6 c6 (hr : Reads W W.heap.size 1 A6 m ((l.filter fun y => y != x).map intV)) (hc6 : m ≤ c6) => show Calls Tryd.prog 15 #[.slice A6 m c6, .int .i64 y] W (OutI W (subL K (l.filter fun y => y != x) y) 5) from by
    have := (overSubjects_any y A6 c6 W.heap.size (l.filter fun y => y != x) W ⟨by rw [← hm]; exact hr, by omega, fun z hz => hel z (List.mem_filter.1 hz).1, by rw [← hm]; exact hc6⟩ (Nat.le_refl _) (hel y hy) (HT.out W hW)).mono fun _ _ h => h.to _ 5 rfl (by rw [subL_eq hvr (by omega) hyr]; rfl)
    rwa [← hm] at this)
  -- what the inner loop finds
  have FX := Lib.hid (show ∀ y, y ∈ l → y ∈ (l.filter fun y => y != x) → ∀ k : Nat, k < 5 → ∃ vo vs va vb : Int, (obsL K l x)[k]? = some vo ∧ (subL K l x)[k]? = some vs ∧ (subL K l y)[k]? = some va ∧ (subL K (l.filter fun y => y != x) y)[k]? = some vb ∧ vb = if y = vo then vs else va from fun y hy hyr k hk => by
    refine ⟨aheadK (K (k : Int)) (ordK (K (k : Int)) l) x, nextK (ordK (K (k : Int)) l) x, nextK (ordK (K (k : Int)) l) y, nextK (ordK (K (k : Int)) (l.filter fun y => y != x)) y, ?_, ?_, ?_, ?_, ?_⟩
    · rw [obsL_mem hv (by omega) hxl, rings_map_at hk]
    · rw [subL_eq hv (by omega) hxl, rings_map_at hk]
    · rw [subL_eq hv (by omega) hy, rings_map_at hk]
    · rw [subL_eq hvr (by omega) hyr, rings_map_at hk]
    · exact removal inj_K hv h3' (k : Int) hxl hy (by have := (List.mem_filter.1 hyr).2; simpa using this))
  have HSUB := Lib.hid (show ∀ y, y ∈ (l.filter fun y => y != x) → y ∈ l from fun y hy => (List.mem_filter.1 hy).1)
  have HCX := Lib.hid (⟨had, hcell⟩ : ad.block < w.heap.size ∧ _)
  have HM := Lib.hid hm
  rw [← hn] at CV f2 hl CW CO CX CA ⊢
  have n16 : n ≤ 16 := by omega
  have hn0 : (n : Int) ≠ 0 := by omega
  have hn0' : ((n : Int) == 0) = false := beqF hn0
  have hpi : (p : Int) < (n : Int) := by omega
  clear hv h3 h3' hl16 hn hel hxo hxs hvr hlr hxl hx hxx hux hcell had x64 hm hp
  generalize obsL K l x = O at *
  generalize subL K l x = S at *
  generalize (l.filter fun y => y != x) = R at *
  go_enter Tryd.func6, Tryd.ntmps6
  go_wp2_with (first
    | (go_at_call 9; (with_reducible refine AW.out.mono ?_); rintro e w1 ⟨rfl, b1⟩)
    | (go_at_call 21; (with_reducible refine (CV.out _ b1).mono ?_); rintro e w2 ⟨rfl, q2⟩; (have b2 := bstep b1 q2); (have x1 := (b2.cell (p := ad.add p) (by rw [block_of_add]; exact HCX.out.1)).trans HCX.out.2))
    | (go_at_call 23; (with_reducible refine (CW.out _ b2).mono ?_); rintro e w3 ⟨A3, c3, rfl, k3, o3, r3, q3⟩; (have b3 : Below w.heap.size w w3 := bstep b2 q3); clear o3)
    | (go_at_call 13; (with_reducible refine (CO.out _ b3).mono ?_); rintro e w4 ⟨A4, c4, rfl, k4, o4, r4, q4⟩; (have b4 : Below w.heap.size w w4 := bstep b3 q4); clear o4)
    | (go_at_call 15; (with_reducible refine (CX.out _ b4).mono ?_); rintro e w5 ⟨A5, c5, rfl, k5, o5, r5, q5⟩; (have b5 : Below w.heap.size w w5 := bstep b4 q5); clear o5)
    | fail)
  all_goals try (exfalso; omega)
  have R3 := Lib.hid ((r3.below (bstep q4 q5)).more (bstep q4 q5).size)
  have R4 := Lib.hid ((r4.below q5).more q5.size)
  have R5 := Lib.hid r5
  clear r3 r4 r5 x1
  go_loopg [9] m (fun g s9 wr => ∃ j : Nat, j + g = m ∧ s9 = .int .i64 j ∧ Below w5.heap.size w5 wr)
  case atStart => exact ⟨0, by omega, rfl, Below.refl _ _⟩
  case round =>
    obtain ⟨j, hjg, rfl, hbel⟩ := hrel
    obtain ⟨wo, rfl⟩ : ∃ wo : World, wo = wr := ⟨_, rfl⟩
    have hbw : Below w.heap.size w wo := bstep b5 hbel
    cases gk with
    | zero =>
      have hjz : ¬ ((j : Int) < (m : Int)) := by omega
      go_wp2_with fail
      go_ret
      exact ⟨rfl, hbw⟩
    | succ g =>
      have hjz : (j : Int) < (m : Int) := by omega
      obtain ⟨y, hyj⟩ : ∃ y, R[j]? = some y := ⟨_, List.getElem?_eq_getElem (by have := HM.out; omega)⟩
      have hyr := List.mem_of_getElem? hyj
      have hyl := HSUB.out y hyr
      have F2 := Lib.hid (FX.out y hyl hyr)
      have CA2 := Lib.hid (CA.out y hyl)
      have CB2 := Lib.hid (CB.out y hyl hyr)
      obtain ⟨ar, rfl, har, hcy⟩ := out_cell R3.out j y hyj (by omega)
      have CE := Lib.hid (fun W (hW : Below w5.heap.size w5 W) => show W.cell? (ar.add j) = some (.int .i64 y) from (hW.cell (p := ar.add j) (by rw [block_of_add]; exact har)).trans hcy)
      clear hyj hyr hyl har hcy
      generalize subL K l y = SA at *
      generalize subL K R y = SB at *
      go_wp2_with fail
      go_region_held3 (fun w' => w'.cell? (ar.add j) = some (.int .i64 y))
        (first | exact CE.out _ h7 | exact CE.out _ h6 | exact CE.out _ hbel.drew | fail)
        (first
          | (go_at_call 15; (with_reducible refine (CA2.out _ (by exact hbw.drew)).mono ?_); rintro e w6 ⟨A6, c6, rfl, k6, o6, r6, q6⟩; (have h6 : Below w5.heap.size w5 w6 := bstep hbel (((Below.refl _ _).drew).trans q6)); (have b6 : Below w.heap.size w w6 := bstep b5 h6); clear o6)
          | (go_at_call 15; (with_reducible refine (CB2.out _ (by exact b6) _ _ (by exact (R3.out.below h6).more h6.size) (by exact k3)).mono ?_); rintro e w7 ⟨A7, c7, rfl, k7, o7, r7, q7⟩; (have h7 : Below w5.heap.size w5 w7 := bstep h6 q7); clear o7)
          | fail)
      have R6 := Lib.hid ((r6.below q7).more q7.size)
      have R7 := Lib.hid r7
      have hcy := CE.out _ h7
      clear r6 r7
      go_wp2_with fail
      go_loopg [12] 5 (fun g2 s12 wy => ∃ k nn : Nat, k + g2 = 5 ∧ s12 = .int .i64 k ∧ wy = w7.drewN nn)
      case atStart => exact ⟨0, 0, by omega, rfl, rfl⟩
      case round =>
        obtain ⟨k, nn, hkg, rfl, rfl⟩ := hrel
        cases gk with
        | zero =>
          have hkz : ¬ ((k : Int) < 5) := by omega
          go_wp2_with fail
          go_roundg g
          case measure => omega
          case rel => exact ⟨j + 1, by omega, by go_num, below_drewN' h7 _⟩
        | succ g2 =>
          have hkz : (k : Int) < 5 := by omega
          have hk5 : k < 5 := by omega
          obtain ⟨vo, vs, va, vb, e1, e2, e3, e4, e5⟩ := F2.out k hk5
          obtain ⟨a4, hA4, h4, hx4⟩ := out_cell R4.out k vo e1 hk5
          obtain ⟨a5, hA5, h5, hx5⟩ := out_cell R5.out k vs e2 hk5
          obtain ⟨a6, hA6, h6', hx6⟩ := out_cell R6.out k va e3 hk5
          obtain ⟨a7, hA7, h7', hx7⟩ := out_cell R7.out k vb e4 hk5
          have x4 := (h7.cell (p := a4.add k) (by rw [block_of_add]; exact h4)).trans hx4
          have x5 := (h7.cell (p := a5.add k) (by rw [block_of_add]; exact h5)).trans hx5
          subst hA4 hA5 hA6 hA7
          clear e1 e2 e3 e4 h4 h5 h6' h7' hx4 hx5
          by_cases hyo : y = vo
          · have fy : (y == vo) = true := beqT hyo
            have fb : (vb != vs) = false := bneF (by rw [e5, if_pos hyo])
            clear e5 hyo
            go_wp2_with fail
            go_quiet (fail)
            go_wp2_with fail
            go_roundg g2
            case measure => omega
            case rel => exact ⟨k + 1, _, by omega, by go_num, rfl⟩
          · have fy : (y == vo) = false := beqF hyo
            have fb : (vb != va) = false := bneF (by rw [e5, if_neg hyo])
            clear e5 hyo
            go_wp2_with fail
            go_quiet (fail)
            go_wp2_with fail
            go_roundg g2
            case measure => omega
            case rel => exact ⟨k + 1, _, by omega, by go_num, rfl⟩
end Go.Proofs.YtobahkjlblgdjaaDoor.O
