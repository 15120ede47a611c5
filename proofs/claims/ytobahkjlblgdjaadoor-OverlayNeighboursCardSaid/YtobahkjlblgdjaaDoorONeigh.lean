/- Layer 4: the walk of OverlayNeighbours. -/
import Derived.Test.YtobahkjlblgdjaaDoorOJoin
namespace Go.Proofs.YtobahkjlblgdjaaDoor.O
set_option linter.unusedVariables false
open Go.RowKit
open Go.Proofs.YtobahkjlblgdjaaDoor.W
open Go.Proofs.YtobahkjlblgdjaaDoor.V

theorem has_at (W : World) (l : List Int) (A : Option Addr) (n c : Nat) (x : Int) (b : Bool) (hn : n = l.length) (h : Reads W W.heap.size 1 A n (l.map intV)) (hl : n ≤ 1000) (hb : hasB l x = b) :
    Calls Tryd.prog 22 #[.slice A n c, .int .i64 x] W (fun e w' => e = .returned (.bool b) ∧ W = w') := by
  subst hb
  exact has_any A c _ n l x W hn h (by omega)
set_option maxRecDepth 100000 in
set_option maxHeartbeats 4000000 in
theorem neigh_walk (l : List Int) (i j : Nat) (A : Option Addr) (c : Nat) (w : World) (h : LR w w.heap.size l A c) (hi : i < 256) (hj : j < 256) (ht : H.Tab w) :
    Calls Tryd.prog 8 #[.slice A l.length c, .int .u8 (i : Int), .int .u8 (j : Int)] w (PB w true) := by
  have HT := Lib.hid (fun W (hW : Below w.heap.size w W) => ht.on hW)
  have AW := Lib.hid (awake_any w ht)
  have LH := Lib.hid h
  have CV := Lib.hid (fun W (hW : Below w.heap.size w W) => refValidM_big A c l W (h.up hW))
  have hl := h.l63
  clear h ht
  cases hv : validM l
  · rw [hv] at CV
    go_enter Tryd.func8, Tryd.ntmps8
    go_wp2_with (first
      | (go_at_call 9; (with_reducible refine AW.out.mono ?_); rintro e w1 ⟨rfl, b1⟩)
      | (go_at_call 21; (with_reducible refine (CV.out _ b1).mono ?_); rintro e w2 ⟨rfl, q2⟩; have b2 := bstep b1 q2))
    go_ret
    exact ⟨rfl, b2⟩
  rw [hv] at CV
  have hl16 := (validM_iff.1 hv).2.1
  by_cases h2 : l.length < 2
  · have f2 : (l.length : Int) < 2 := by omega
    clear hv h2
    go_enter Tryd.func8, Tryd.ntmps8
    go_wp2_with (first
      | (go_at_call 9; (with_reducible refine AW.out.mono ?_); rintro e w1 ⟨rfl, b1⟩)
      | (go_at_call 21; (with_reducible refine (CV.out _ b1).mono ?_); rintro e w2 ⟨rfl, q2⟩; have b2 := bstep b1 q2))
    all_goals try (exfalso; omega)
    go_ret
    exact ⟨rfl, b2⟩
  have f2 : ¬ (l.length : Int) < 2 := by omega
  obtain ⟨n, hn⟩ : ∃ n, n = l.length := ⟨_, rfl⟩
  have HN := Lib.hid hn
  obtain ⟨p, hp⟩ : ∃ p, p = i % n := ⟨_, rfl⟩
  obtain ⟨q, hq⟩ : ∃ q, q = j % n := ⟨_, rfl⟩
  have hpn : p < n := by rw [hp]; exact Nat.mod_lt _ (by omega)
  have hqn : q < n := by rw [hq]; exact Nat.mod_lt _ (by omega)
  obtain ⟨a, ha⟩ : ∃ a, l[p]? = some a := ⟨_, List.getElem?_eq_getElem (by omega)⟩
  obtain ⟨b, hb⟩ : ∃ b, l[q]? = some b := ⟨_, List.getElem?_eq_getElem (by omega)⟩
  have wi : IntKind.i64.wrap (i : Int) = (i : Int) := IntWalk.i64_in _ (by omega)
  have wj : IntKind.i64.wrap (j : Int) = (j : Int) := IntWalk.i64_in _ (by omega)
  have mi : (i : Int) % (n : Int) = (p : Int) := by rw [hp, Int.natCast_emod]
  have mj : (j : Int) % (n : Int) = (q : Int) := by rw [hq, Int.natCast_emod]
  have ti : (i : Int).tmod (n : Int) = (p : Int) := by rw [IntWalk.rem_in _ _ (by omega)]; exact mi
  have tj : (j : Int).tmod (n : Int) = (q : Int) := by rw [IntWalk.rem_in _ _ (by omega)]; exact mj
  have ham := List.mem_of_getElem? ha
  have hbm := List.mem_of_getElem? hb
  have hel := in_ids (validM_iff.1 hv).2.2.2
  have a64 := hel a ham
  have b64 := hel b hbm
  have h2' : 2 ≤ l.length := by omega
  obtain ⟨ad, u, rfl, had, hx, hcell⟩ := LH.out.rd.at_ (k := p) (by omega)
  have hux : u = .int .i64 a := by simp [ha, intV] at hx; exact hx.symm
  rw [hux] at hcell
  obtain ⟨bd, u', hA, hbd, hx', hcell'⟩ := LH.out.rd.at_ (k := q) (by omega)
  obtain rfl := Option.some.inj hA
  have hux' : u' = .int .i64 b := by simp [hb, intV] at hx'; exact hx'.symm
  rw [hux'] at hcell'
  have CN := Lib.hid (fun x (x64 : In64 x) W (hW : Below w.heap.size w W) => (overNeighbours_any x (some ad) c w.heap.size l W ((LH.out.ls (by omega)).below hW) hW.size x64 (HT.out W hW)).mono fun _ _ h => h.to (nbL K l x) (nbL K l x).length rfl rfl)
  have CS := Lib.hid (fun x y (x64 : In64 x) (y64 : In64 y) W (hW : Below w.heap.size w W) => (overShared_any x y (some ad) c w.heap.size l W ((LH.out.ls (by omega)).below hW) hW.size x64 y64 (HT.out W hW)).mono fun _ _ h => h.to (shL K l x y) (shL K l x y).length rfl rfl)
  have lab := shL_len (l := l) (a := a) (b := b)
  have lba := shL_len (l := l) (a := b) (b := a)
  have lna := nbL_le (l := l) (id := a)
  have lnb := nbL_le (l := l) (id := b)
  have CA := Lib.hid (fun W hW => CN.out a a64 W hW)
  have CB := Lib.hid (fun W hW => CN.out b b64 W hW)
  have SA := Lib.hid (fun W hW => CS.out a b a64 b64 W hW)
  have SB := Lib.hid (fun W hW => CS.out b a b64 a64 W hW)
  rw [← hn] at CV CA CB SA SB f2 hl ⊢
  have hn0 : (n : Int) ≠ 0 := by omega
  have hn0' : ((n : Int) == 0) = false := beqF hn0
  have hpi : (p : Int) < (n : Int) := by omega
  have hqi : (q : Int) < (n : Int) := by omega
  have HA := Lib.hid (⟨had, hcell, hcell'⟩ : ad.block < w.heap.size ∧ _ ∧ _)
  have n16 : n ≤ 16 := by omega
  have n2 : 2 ≤ n := by omega
  by_cases hab : a = b
  · have hf := nbL_len inj_K hv h2' ham
    have hh : hasB (nbL K l a) a = false := by rw [hasB_mem]; simpa using hf.1
    have FE : (a == b) = true := beqT hab
    have f1 : (1 : Int) ≤ ((nbL K l a).length : Int) := by omega
    have f3 : ((nbL K l a).length : Int) < (n : Int) := by omega
    have HH := Lib.hid (fun W A1 c1 (hr : Reads W W.heap.size 1 A1 (nbL K l a).length ((nbL K l a).map intV)) => has_at W (nbL K l a) A1 (nbL K l a).length c1 a false rfl hr (by omega) hh)
    clear hf hh hab hx hx' hux hux' hcell hcell' ha hb hp hq hn had hbd CN CS ham hbm hel a64 b64 h2 hl16 h2'
    generalize nbL K l a = na at *
    generalize nbL K l b = nb at *
    generalize shL K l a b = sa at *
    generalize shL K l b a = sb at *
    have wsum : IntKind.i64.wrap ((sa.length : Int) + (sb.length : Int)) = (sa.length : Int) + (sb.length : Int) := IntWalk.i64_in _ (by omega)
    go_enter Tryd.func8, Tryd.ntmps8
    go_wp2_with (first
      | (go_at_call 9; (with_reducible refine AW.out.mono ?_); rintro e w1 ⟨rfl, b1⟩)
      | (go_at_call 21; (with_reducible refine (CV.out _ b1).mono ?_); rintro e w2 ⟨rfl, q2⟩; (have b2 := bstep b1 q2); (have x1 := (b2.cell (p := ad.add p) (by rw [block_of_add]; exact HA.out.1)).trans HA.out.2.1); (have x2 := (b2.cell (p := ad.add q) (by rw [block_of_add]; exact HA.out.1)).trans HA.out.2.2)))
    all_goals try (exfalso; omega)
    go_quiet (fail)
    have b2' : Below w.heap.size w (w2.drewN nq) := below_drewN' b2 nq
    go_wp2_with (first
      | (go_at_call 19; (with_reducible refine (CA.out _ b2').mono ?_); rintro e w4 ⟨A4, c4, rfl, k4, o4, r4, q4⟩; (have b4 : Below w.heap.size w w4 := bstep b2' q4); clear o4)
      | (go_at_call 19; (with_reducible refine (CB.out _ b4).mono ?_); rintro e w5 ⟨A5, c5, rfl, k5, o5, r5, q5⟩; (have b5 : Below w.heap.size w w5 := bstep b4 q5); (have g45 := q5); clear o5)
      | (go_at_call 17; (with_reducible refine (SA.out _ b5).mono ?_); rintro e w6 ⟨A6, c6, rfl, k6, o6, r6, q6⟩; (have b6 : Below w.heap.size w w6 := bstep b5 q6); (have g46 := bstep g45 q6); clear o6)
      | (go_at_call 17; (with_reducible refine (SB.out _ b6).mono ?_); rintro e w7 ⟨A7, c7, rfl, k7, o7, r7, q7⟩; (have b7 : Below w.heap.size w w7 := bstep b6 q7); (have g47 := bstep g46 q7); clear o7)
      | (go_at_call 22; (with_reducible refine (HH.out _ _ _ ((r4.below g47).more g47.size)).mono ?_); rintro e w8 ⟨rfl, rfl⟩)
      | fail)
    all_goals
      first
        | (exfalso; omega)
        | (go_ret; exact ⟨rfl, b7⟩)
  · have hed := mem_edge inj_K hv h2' ham hbm hab
    have hed' := mem_edge inj_K hv h2' hbm ham (Ne.symm hab)
    have FE : (a == b) = false := beqF hab
    obtain ⟨E, hE⟩ : ∃ E : Bool, E = decide (0 < (shL K l a b).length + (shL K l b a).length) := ⟨_, rfl⟩
    have h1 : hasB (nbL K l a) b = E := by rw [hasB_mem, hE, decide_eq_decide]; exact hed
    have h3 : hasB (nbL K l b) a = E := by rw [hasB_mem, hE, decide_eq_decide, hed', Nat.add_comm]
    have H1 := Lib.hid (fun W A1 c1 (hr : Reads W W.heap.size 1 A1 (nbL K l a).length ((nbL K l a).map intV)) => has_at W (nbL K l a) A1 (nbL K l a).length c1 b E rfl hr (by omega) h1)
    have H3 := Lib.hid (fun W A1 c1 (hr : Reads W W.heap.size 1 A1 (nbL K l b).length ((nbL K l b).map intV)) => has_at W (nbL K l b) A1 (nbL K l b).length c1 a E rfl hr (by omega) h3)
    clear hed hed' h1 h3 hab hx hx' hux hux' hcell hcell' ha hb hp hq hn had hbd CN CS ham hbm hel a64 b64 h2 hl16 h2'
    generalize nbL K l a = na at *
    generalize nbL K l b = nb at *
    generalize shL K l a b = sa at *
    generalize shL K l b a = sb at *
    have wsum : IntKind.i64.wrap ((sa.length : Int) + (sb.length : Int)) = (sa.length : Int) + (sb.length : Int) := IntWalk.i64_in _ (by omega)
    by_cases he : 0 < sa.length + sb.length
    · have hE' : E = true := by rw [hE]; simpa using he
      have fE : (0 : Int) < (sa.length : Int) + (sb.length : Int) := by omega
      subst hE'
      clear hE he
      go_enter Tryd.func8, Tryd.ntmps8
      go_wp2_with (first
        | (go_at_call 9; (with_reducible refine AW.out.mono ?_); rintro e w1 ⟨rfl, b1⟩)
        | (go_at_call 21; (with_reducible refine (CV.out _ b1).mono ?_); rintro e w2 ⟨rfl, q2⟩; (have b2 := bstep b1 q2); (have x1 := (b2.cell (p := ad.add p) (by rw [block_of_add]; exact HA.out.1)).trans HA.out.2.1); (have x2 := (b2.cell (p := ad.add q) (by rw [block_of_add]; exact HA.out.1)).trans HA.out.2.2)))
      all_goals try (exfalso; omega)
      go_quiet (fail)
      have b2' : Below w.heap.size w (w2.drewN nq) := below_drewN' b2 nq
      go_wp2_with (first
        | (go_at_call 19; (with_reducible refine (CA.out _ b2').mono ?_); rintro e w4 ⟨A4, c4, rfl, k4, o4, r4, q4⟩; (have b4 : Below w.heap.size w w4 := bstep b2' q4); clear o4)
        | (go_at_call 19; (with_reducible refine (CB.out _ b4).mono ?_); rintro e w5 ⟨A5, c5, rfl, k5, o5, r5, q5⟩; (have b5 : Below w.heap.size w w5 := bstep b4 q5); (have g45 := q5); clear o5)
        | (go_at_call 17; (with_reducible refine (SA.out _ b5).mono ?_); rintro e w6 ⟨A6, c6, rfl, k6, o6, r6, q6⟩; (have b6 : Below w.heap.size w w6 := bstep b5 q6); (have g46 := bstep g45 q6); (have g56 := q6); clear o6)
        | (go_at_call 17; (with_reducible refine (SB.out _ b6).mono ?_); rintro e w7 ⟨A7, c7, rfl, k7, o7, r7, q7⟩; (have b7 : Below w.heap.size w w7 := bstep b6 q7); (have g47 := bstep g46 q7); (have g57 := bstep g56 q7); clear o7)
        | (go_at_call 22; (with_reducible refine (H1.out _ _ _ ((r4.below g47).more g47.size)).mono ?_); rintro e w8 ⟨rfl, rfl⟩)
        | (go_at_call 22; (with_reducible refine (H3.out _ _ _ ((r5.below g57).more g57.size)).mono ?_); rintro e w8 ⟨rfl, rfl⟩)
        | fail)
      all_goals
        first
          | (exfalso; omega)
          | (go_ret; exact ⟨rfl, b7⟩)
    · have hE' : E = false := by rw [hE]; simpa using he
      have fE : ¬ (0 : Int) < (sa.length : Int) + (sb.length : Int) := by omega
      subst hE'
      clear hE he
      go_enter Tryd.func8, Tryd.ntmps8
      go_wp2_with (first
        | (go_at_call 9; (with_reducible refine AW.out.mono ?_); rintro e w1 ⟨rfl, b1⟩)
        | (go_at_call 21; (with_reducible refine (CV.out _ b1).mono ?_); rintro e w2 ⟨rfl, q2⟩; (have b2 := bstep b1 q2); (have x1 := (b2.cell (p := ad.add p) (by rw [block_of_add]; exact HA.out.1)).trans HA.out.2.1); (have x2 := (b2.cell (p := ad.add q) (by rw [block_of_add]; exact HA.out.1)).trans HA.out.2.2)))
      all_goals try (exfalso; omega)
      go_quiet (fail)
      have b2' : Below w.heap.size w (w2.drewN nq) := below_drewN' b2 nq
      go_wp2_with (first
        | (go_at_call 19; (with_reducible refine (CA.out _ b2').mono ?_); rintro e w4 ⟨A4, c4, rfl, k4, o4, r4, q4⟩; (have b4 : Below w.heap.size w w4 := bstep b2' q4); clear o4)
        | (go_at_call 19; (with_reducible refine (CB.out _ b4).mono ?_); rintro e w5 ⟨A5, c5, rfl, k5, o5, r5, q5⟩; (have b5 : Below w.heap.size w w5 := bstep b4 q5); (have g45 := q5); clear o5)
        | (go_at_call 17; (with_reducible refine (SA.out _ b5).mono ?_); rintro e w6 ⟨A6, c6, rfl, k6, o6, r6, q6⟩; (have b6 : Below w.heap.size w w6 := bstep b5 q6); (have g46 := bstep g45 q6); (have g56 := q6); clear o6)
        | (go_at_call 17; (with_reducible refine (SB.out _ b6).mono ?_); rintro e w7 ⟨A7, c7, rfl, k7, o7, r7, q7⟩; (have b7 : Below w.heap.size w w7 := bstep b6 q7); (have g47 := bstep g46 q7); (have g57 := bstep g56 q7); clear o7)
        | (go_at_call 22; (with_reducible refine (H1.out _ _ _ ((r4.below g47).more g47.size)).mono ?_); rintro e w8 ⟨rfl, rfl⟩)
        | (go_at_call 22; (with_reducible refine (H3.out _ _ _ ((r5.below g57).more g57.size)).mono ?_); rintro e w8 ⟨rfl, rfl⟩)
        | fail)
      all_goals
        first
          | (exfalso; omega)
          | (go_ret; exact ⟨retB' (by simp; omega), b7⟩)
end Go.Proofs.YtobahkjlblgdjaaDoor.O
