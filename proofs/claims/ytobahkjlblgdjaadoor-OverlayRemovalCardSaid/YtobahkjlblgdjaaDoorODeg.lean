/- Layer 4: the walk of OverlayDegree. -/
import Derived.Test.YtobahkjlblgdjaaDoorOCirc
import Derived.Deep.RegionHeld3
namespace Go.Proofs.YtobahkjlblgdjaaDoor.O
set_option linter.unusedVariables false
open Go.RowKit
open Go.Proofs.YtobahkjlblgdjaaDoor.W
open Go.Proofs.YtobahkjlblgdjaaDoor.V

theorem sum_snoc {g : Int → Nat} {l : List Int} {k : Nat} {x : Int} (h : l[k]? = some x) : ((l.take (k + 1)).map g).sum = ((l.take k).map g).sum + g x := by
  rw [List.take_add_one, h, List.map_append, List.sum_append]
  simp
set_option maxRecDepth 100000 in
set_option maxHeartbeats 4000000 in
theorem degree_walk (l : List Int) (A : Option Addr) (c : Nat) (w : World) (h : LR w w.heap.size l A c) (ht : H.Tab w) :
    Calls Tryd.prog 5 #[.slice A l.length c] w (PB w true) := by
  have HT := Lib.hid (fun W (hW : Below w.heap.size w W) => ht.on hW)
  have AW := Lib.hid (awake_any w ht)
  have LH := Lib.hid h
  have CV := Lib.hid (fun W (hW : Below w.heap.size w W) => refValidM_big A c l W (h.up hW))
  have hl := h.l63
  clear h ht
  cases hv : validM l
  · rw [hv] at CV
    go_enter Tryd.func5, Tryd.ntmps5
    go_wp2_with (first
      | (go_at_call 9; (with_reducible refine AW.out.mono ?_); rintro e w1 ⟨rfl, b1⟩)
      | (go_at_call 21; (with_reducible refine (CV.out _ b1).mono ?_); rintro e w2 ⟨rfl, q2⟩; have b2 := bstep b1 q2))
    go_ret
    exact ⟨rfl, b2⟩
  rw [hv] at CV
  have hl16 := (validM_iff.1 hv).2.1
  by_cases h2 : l.length < 2
  · have f2 : (l.length : Int) < 2 := by omega
    clear hv h2
    go_enter Tryd.func5, Tryd.ntmps5
    go_wp2_with (first
      | (go_at_call 9; (with_reducible refine AW.out.mono ?_); rintro e w1 ⟨rfl, b1⟩)
      | (go_at_call 21; (with_reducible refine (CV.out _ b1).mono ?_); rintro e w2 ⟨rfl, q2⟩; have b2 := bstep b1 q2))
    all_goals try (exfalso; omega)
    go_ret
    exact ⟨rfl, b2⟩
  have f2 : ¬ (l.length : Int) < 2 := by omega
  have h2' : 2 ≤ l.length := by omega
  obtain ⟨n, hn⟩ : ∃ n, n = l.length := ⟨_, rfl⟩
  have HN := Lib.hid hn
  have hel := in_ids (validM_iff.1 hv).2.2.2
  have HEL := Lib.hid hel
  have DO := Lib.hid (fun m (hm : m ∈ l) => deg_out inj_K hv h2' hm)
  have DI := Lib.hid (fun m (hm : m ∈ l) => deg_in inj_K hv h2' hm)
  have CS := Lib.hid (fun x y (x64 : In64 x) (y64 : In64 y) W (hW : Below w.heap.size w W) => (overShared_any x y A c w.heap.size l W ((LH.out.ls (by omega)).below hW) hW.size x64 y64 (HT.out W hW)).mono fun _ _ h => h.to (shL K l x y) (shL K l x y).length rfl rfl)
  rw [← hn] at CV f2 hl CS ⊢
  have n16 : n ≤ 16 := by omega
  have n2 : 2 ≤ n := by omega
  have npos : (0 : Int) < (n : Int) := by omega
  clear hv h2 h2' hl16 hn hel
  go_enter Tryd.func5, Tryd.ntmps5
  go_wp2_with (first
    | (go_at_call 9; (with_reducible refine AW.out.mono ?_); rintro e w1 ⟨rfl, b1⟩)
    | (go_at_call 21; (with_reducible refine (CV.out _ b1).mono ?_); rintro e w2 ⟨rfl, q2⟩; (have b2 := bstep b1 q2)))
  all_goals try (exfalso; omega)
  go_loopg [3] n (fun g s3 wr => ∃ j : Nat, j + g = n ∧ s3 = .int .i64 j ∧ Below w.heap.size w wr)
  case atStart => exact ⟨0, by omega, rfl, b2⟩
  case round =>
    obtain ⟨j, hjg, rfl, hbel⟩ := hrel
    obtain ⟨wo, rfl⟩ : ∃ wo : World, wo = wr := ⟨_, rfl⟩
    cases gk with
    | zero =>
      have hjz : ¬ ((j : Int) < (n : Int)) := by omega
      go_wp2_with fail
      go_ret
      exact ⟨rfl, hbel⟩
    | succ g =>
      have hjz : (j : Int) < (n : Int) := by omega
      obtain ⟨x, hxj⟩ : ∃ x, l[j]? = some x := ⟨_, List.getElem?_eq_getElem (by have := HN.out; omega)⟩
      obtain ⟨ad, u, rfl, had, hx, hcell⟩ := LH.out.rd.at_ (k := j) (by have := HN.out; omega)
      have hux : u = .int .i64 x := by simp [hxj, intV] at hx; exact hx.symm
      rw [hux] at hcell
      have hxl := List.mem_of_getElem? hxj
      have HCX := Lib.hid (⟨had, hcell⟩ : ad.block < w.heap.size ∧ _)
      have HXL := Lib.hid hxl
      clear hx hux hxj hcell hxl had
      go_wp2_with fail
      go_loopg [4, 5, 6] n (fun g2 s4 s5 s6 wy => ∃ k a b : Nat, k + g2 = n ∧ s6 = .int .i64 k ∧ s4 = .int .i64 a ∧ s5 = .int .i64 b ∧ a ≤ 5 * k ∧ b ≤ 5 * k ∧ Hid (a = ((l.take k).map fun y => (shL K l x y).length).sum) ∧ Hid (b = ((l.take k).map fun y => (shL K l y x).length).sum) ∧ Below w.heap.size w wy)
      case atStart => exact ⟨0, 0, 0, by omega, rfl, rfl, rfl, by omega, by omega, by show _ = _; simp, by show _ = _; simp, hbel⟩
      case round =>
        obtain ⟨k, a, b, hkg, rfl, rfl, rfl, ha, hb, HA, HB, hbel2⟩ := hrel
        obtain ⟨wi, rfl⟩ : ∃ wi : World, wi = wr := ⟨_, rfl⟩
        cases gk with
        | zero =>
          have hkz : ¬ ((k : Int) < (n : Int)) := by omega
          have ea : (a : Int) = 5 := by
            have h1 := HA.out
            rw [List.take_of_length_le (by have := HN.out; omega), DO.out x HXL.out] at h1
            omega
          have eb : (b : Int) = 5 := by
            have h1 := HB.out
            rw [List.take_of_length_le (by have := HN.out; omega), DI.out x HXL.out] at h1
            omega
          rw [ea, eb]
          clear HA HB ea eb
          go_wp2_with fail
          go_roundg g
          case measure => omega
          case rel => exact ⟨j + 1, by omega, by go_num, hbel2⟩
        | succ g2 =>
          have hkz : (k : Int) < (n : Int) := by omega
          obtain ⟨y, hyk⟩ : ∃ y, l[k]? = some y := ⟨_, List.getElem?_eq_getElem (by have := HN.out; omega)⟩
          obtain ⟨bd, u', hA, hbd, hy, hcell'⟩ := LH.out.rd.at_ (k := k) (by have := HN.out; omega)
          obtain rfl := Option.some.inj hA
          have huy : u' = .int .i64 y := by simp [hyk, intV] at hy; exact hy.symm
          rw [huy] at hcell'
          have hyl := List.mem_of_getElem? hyk
          have C1 := Lib.hid (fun W hW => CS.out x y (HEL.out x HXL.out) (HEL.out y hyl) W hW)
          have C2 := Lib.hid (fun W hW => CS.out y x (HEL.out y hyl) (HEL.out x HXL.out) W hW)
          have l1 := shL_len (l := l) (a := x) (b := y)
          have l2 := shL_len (l := l) (a := y) (b := x)
          have HA2 := Lib.hid (show a + (shL K l x y).length = ((l.take (k + 1)).map fun y => (shL K l x y).length).sum by rw [sum_snoc hyk, ← HA.out])
          have HB2 := Lib.hid (show b + (shL K l y x).length = ((l.take (k + 1)).map fun y => (shL K l y x).length).sum by rw [sum_snoc hyk, ← HB.out])
          have CE := Lib.hid (fun W (hW : Below w.heap.size w W) => show W.cell? (ad.add j) = some (.int .i64 x) ∧ W.cell? (ad.add k) = some (.int .i64 y) from ⟨(hW.cell (p := ad.add j) (by rw [block_of_add]; exact HCX.out.1)).trans HCX.out.2, (hW.cell (p := ad.add k) (by rw [block_of_add]; exact HCX.out.1)).trans hcell'⟩)
          clear hA hbd hy huy hcell' hyk hyl HA HB
          generalize shL K l x y = s1 at *
          generalize shL K l y x = s2 at *
          have wa : IntKind.i64.wrap ((a : Int) + (s1.length : Int)) = ((a + s1.length : Nat) : Int) := by rw [IntWalk.i64_in _ (by omega)]; omega
          have wb : IntKind.i64.wrap ((b : Int) + (s2.length : Int)) = ((b + s2.length : Nat) : Int) := by rw [IntWalk.i64_in _ (by omega)]; omega
          obtain ⟨a', ea⟩ : ∃ a', a' = a + s1.length := ⟨_, rfl⟩
          obtain ⟨b', eb⟩ : ∃ b', b' = b + s2.length := ⟨_, rfl⟩
          rw [← ea] at wa HA2
          rw [← eb] at wb HB2
          have la' : a' ≤ 5 * (k + 1) := by omega
          have lb' : b' ≤ 5 * (k + 1) := by omega
          clear ea eb
          go_wp2_with fail
          go_region_held3 (fun w' => w'.cell? (ad.add j) = some (.int .i64 x) ∧ w'.cell? (ad.add k) = some (.int .i64 y))
            (first | exact CE.out _ h5 | exact CE.out _ hbel2.drew | fail)
            (first
              | (go_at_call 17; (with_reducible refine (C1.out _ (by exact hbel2.drew)).mono ?_); rintro e w5 ⟨A5, c5, rfl, k5, o5, r5, q5⟩; (have h5 : Below w.heap.size w w5 := bstep hbel2 (((Below.refl _ _).drew).trans q5)); clear o5 r5)
              | fail)
          go_wp2_with fail
          go_region_held3 (fun w' => w'.cell? (ad.add j) = some (.int .i64 x) ∧ w'.cell? (ad.add k) = some (.int .i64 y))
            (first | exact CE.out _ h6 | exact CE.out _ h5.drew | fail)
            (first
              | (go_at_call 17; (with_reducible refine (C2.out _ (by exact h5.drew)).mono ?_); rintro e w6 ⟨A6, c6, rfl, k6, o6, r6, q6⟩; (have h6 : Below w.heap.size w w6 := bstep h5 (((Below.refl _ _).drew).trans q6)); clear o6 r6)
              | fail)
          go_wp2_with fail
          go_roundg g2
          case measure => omega
          case rel => exact ⟨k + 1, a', b', by omega, by go_num, rfl, rfl, la', lb', HA2.out, HB2.out, h6⟩
end Go.Proofs.YtobahkjlblgdjaaDoor.O
