/- Layer 5: the walk of ProbeCounts. -/
import Derived.Test.YtihgbadglaogdaaDoorBWin
namespace Go.Proofs.YtihgbadglaogdaaDoor.Pb
set_option linter.unusedVariables false
open Go.RowKit
open Go.Proofs.YtihgbadglaogdaaDoor.W
open Go.Proofs.YtihgbadglaogdaaDoor.V
open Go.Proofs.YtihgbadglaogdaaDoor.O

theorem runW_take {l : List Bool} {k : Nat} {x : Bool} (h : l[k]? = some x) : runW (l.take (k + 1)) = recW (runW (l.take k)).1 (runW (l.take k)).2 x := by
  rw [List.take_add_one, h]
  exact runW_snoc _ _
theorem bad_take {l : List Bool} {s k : Nat} {x : Bool} (h : l[s + k]? = some x) : bad ((l.drop s).take (k + 1)) = bad ((l.drop s).take k) + (if x then 0 else 1) := by
  rw [List.take_add_one, List.getElem?_drop, h]
  unfold bad
  rw [List.countP_append]
  cases x <;> simp

set_option maxRecDepth 1000000 in
set_option maxHeartbeats 4000000 in
theorem counts_walk (l : List Bool) (A : Option Addr) (c : Nat) (w : World) (h : Reads w w.heap.size 1 A l.length (l.map Value.bool)) (hl63 : l.length < 9223372036854775808) (ht : H.Tab w) :
    Calls Tryd.prog 6 #[.slice A l.length c] w (PB w true) := by
  have AW := Lib.hid (awake_any w ht)
  have HR := Lib.hid (fun W (hW : Below w.heap.size w W) => h.below hW)
  have hfin := runW_fails l
  have hrun := runW_at _ l rfl
  have hokl := runW_ok l
  obtain ⟨nl, hnl⟩ : ∃ n, n = l.length := ⟨_, rfl⟩
  have HNL := Lib.hid hnl
  rw [← hnl] at HR hl63 hfin hrun ⊢
  have HFIN := Lib.hid hfin
  have HRUN := Lib.hid hrun.1
  have HOKL := Lib.hid hokl
  clear h ht hnl hfin hrun hokl
  by_cases h200 : nl ≤ 200
  case neg =>
    have hf : (200 : Int) < (nl : Int) := by omega
    clear h200
    go_enter Tryd.func6, Tryd.ntmps6
    go_wp2_with (go_at_call 9; (with_reducible refine AW.out.mono ?_); rintro e w1 ⟨rfl, b1⟩)
    go_ret
    exact ⟨rfl, b1⟩
  have hf : ¬ (200 : Int) < (nl : Int) := by omega
  go_enter Tryd.func6, Tryd.ntmps6
  go_wp2_with (go_at_call 9; (with_reducible refine AW.out.mono ?_); rintro e w1 ⟨rfl, b1⟩)
  obtain ⟨g, hg⟩ : ∃ g, g = w1.heap.size := ⟨_, rfl⟩
  have hG0 := Lib.hid (show Blk (w1.alloc (.cells #[.int .u32 0, .int .i64 0] 24)) g 24 #[.int .u32 ((0 : Nat) : Int), .int .i64 0] by rw [hg]; exact Blk.new _ _ _)
  have hG1 := Lib.hid (show Below w1.heap.size w1 (w1.alloc (.cells #[.int .u32 0, .int .i64 0] 24)) from (Below.refl _ _).alloc (Nat.le_refl _) _)
  rw [← hg]
  have HG := Lib.hid hg
  have HB1 := Lib.hid b1
  clear hg b1
  go_loopg [4] nl (fun gk s4 wr => ∃ (k b : Nat) (c : Int), k + gk = nl ∧ s4 = .int .i64 k ∧ Hid ((b, c) = runW (l.take k)) ∧ Hid (Blk wr g 24 #[.int .u32 (b : Int), .int .i64 c]) ∧ Hid (Below w1.heap.size w1 wr))
  case atStart => exact ⟨0, 0, 0, by omega, rfl, rfl, hG0.out, hG1.out⟩
  case round =>
    obtain ⟨k, b, c', hkg, rfl, HW, HB, HBL⟩ := hrel
    cases gk with
    | zero =>
      have hkz : ¬ ((k : Int) < (nl : Int)) := by omega
      have HW2 := Lib.hid (show (b, c') = runW l by rw [HW.out, List.take_of_length_le (by have := HNL.out; omega)])
      have hb2 : b < 1024 := okWin_lt (by have := HOKL.out; rw [← HW2.out] at this; exact this)
      have hc2 : c' = min (nl : Int) 10 := by have := HRUN.out; rw [← HW2.out] at this; exact this
      have KV := Lib.hid (fun W => probeOkWin_any b c' W (by omega) ⟨by omega, by omega⟩)
      have KF := Lib.hid (fun W => probeFailing_any b c' W (by omega) ⟨by omega, by omega⟩)
      have hv : okWin b c' = true := by have := HOKL.out; rw [← HW2.out] at this; exact this
      have hff : failW b c' = (decide (10 ≤ nl) && decide (4 ≤ bad (List.drop (nl - 10) l))) := by have := HFIN.out; rw [← HW2.out] at this; exact this
      rw [hv] at KV
      rw [hff] at KF
      have HC := Lib.hid hc2
      clear hc2 hv hff
      obtain ⟨s0, hs0⟩ : ∃ s, s = nl - 10 := ⟨_, rfl⟩
      have q0 := HB.out.cell 0
      have q1 := HB.out.cell 1
      by_cases h10 : 10 < nl
      · have wm : IntKind.i64.wrap ((nl : Int) - 10) = (s0 : Int) := by rw [IntWalk.i64_in _ (by omega)]; omega
        have HS0 := Lib.hid hs0
        have HZ := Lib.hid (show s0 ≤ nl by omega)
        have hs00 : ¬ (s0 : Int) ≤ 0 := by omega
        have hmn : min (nl : Int) 10 = 10 := by omega
        clear hs0
        go_wp2_with fail
        go_loopg [5, 6] (nl - s0) (fun g2 s5 s6 wz => ∃ (p n : Nat), p + g2 = nl ∧ s6 = .int .i64 p ∧ s5 = .int .i64 n ∧ n ≤ p ∧ Hid (s0 ≤ p ∧ n = bad ((l.drop s0).take (p - s0))) ∧ wz = wr)
        case atStart => exact ⟨s0, 0, by have := HZ.out; omega, rfl, rfl, Nat.zero_le _, ⟨by have := HZ.out; omega, by rw [show s0 - s0 = 0 by have := HZ.out; omega]; rfl⟩, rfl⟩
        case round =>
          obtain ⟨p, n, hjg, rfl, rfl, hnj, HN, rfl⟩ := hrel
          cases gk with
          | zero =>
            have hjz : ¬ ((p : Int) < (nl : Int)) := by omega
            have HN2 := Lib.hid (show n = bad (List.drop (nl - 10) l) by rw [HN.out.2, List.take_of_length_le (by have := HNL.out; simp; omega), HS0.out])
            rw [← HN2.out] at KF
            have hce : (c' == 10) = true := beqT (by have := HC.out; omega)
            have h10i : ¬ (nl : Int) < 10 := by omega
            rw [decide_eq_true (show 10 ≤ nl by omega), Bool.true_and] at KF
            clear HR hjz
            by_cases h4 : 4 ≤ n
            · have h4i : (4 : Int) ≤ (n : Int) := by omega
              rw [decide_eq_true h4] at KF
              dsimp only [winV] at KV KF
              clear h4
              go_wp2_with (first
                | (go_at_call 10; (with_reducible refine (KV.out _).mono ?_); rintro e w5 ⟨rfl, q5⟩; have hb5 := HB.out.below q5 HB.out.lt; have d0 := hb5.cell 0; have d1 := hb5.cell 1)
                | (go_at_call 14; (with_reducible refine (KF.out _).mono ?_); rintro e w6 ⟨rfl, q6⟩)
                | fail)
              go_ret
              exact ⟨rfl, HB1.out.trans ((HBL.out.trans ((bst q5 q6).mono HBL.out.size)).mono HB1.out.size)⟩
            · have h4i : decide ((4 : Int) ≤ (n : Int)) = false := decide_eq_false (by omega)
              rw [decide_eq_false h4] at KF
              dsimp only [winV] at KV KF
              clear h4
              go_wp2_with (first
                | (go_at_call 10; (with_reducible refine (KV.out _).mono ?_); rintro e w5 ⟨rfl, q5⟩; have hb5 := HB.out.below q5 HB.out.lt; have d0 := hb5.cell 0; have d1 := hb5.cell 1)
                | (go_at_call 14; (with_reducible refine (KF.out _).mono ?_); rintro e w6 ⟨rfl, q6⟩)
                | fail)
              go_ret
              exact ⟨rfl, HB1.out.trans ((HBL.out.trans ((bst q5 q6).mono HBL.out.size)).mono HB1.out.size)⟩
          | succ g2 =>
            have hjz : (p : Int) < (nl : Int) := by omega
            obtain ⟨ad, u, rfl, hadb, hx, hcell⟩ := (HR.out wr (HB1.out.trans (HBL.out.mono HB1.out.size))).at_ (k := p) (by omega)
            obtain ⟨x, hxk⟩ : ∃ x, l[p]? = some x := ⟨_, List.getElem?_eq_getElem (by have := HNL.out; omega)⟩
            have hux : u = .bool x := by simp [hxk] at hx; exact hx.symm
            rw [hux] at hcell
            have HX := Lib.hid (show bad ((l.drop s0).take (p + 1 - s0)) = n + (if x then 0 else 1) by
              have h1 := HN.out.1
              rw [show p + 1 - s0 = (p - s0) + 1 by omega, bad_take (x := x) (by rw [show s0 + (p - s0) = p by omega]; exact hxk), ← HN.out.2])
            clear hx hux hxk
            cases x
            · go_wp2_with fail
              go_roundg g2
              case measure => omega
              case rel => exact ⟨p + 1, n + 1, by omega, by go_num, by go_num, by omega, ⟨by have := HN.out.1; omega, HX.out.symm⟩, rfl⟩
            · go_wp2_with fail
              go_roundg g2
              case measure => omega
              case rel => exact ⟨p + 1, n, by omega, by go_num, rfl, by omega, ⟨by have := HN.out.1; omega, HX.out.symm⟩, rfl⟩
      · have wm : IntKind.i64.wrap ((nl : Int) - 10) = (nl : Int) - 10 := IntWalk.i64_in _ (by omega)
        have HS0 := Lib.hid hs0
        have hs00 : (nl : Int) - 10 ≤ 0 := by omega
        have hmx : max 0 ((nl : Int) - 10) = 0 := by omega
        have hmn : min (nl : Int) 10 = (nl : Int) := by omega
        have HZ := Lib.hid (show s0 = 0 by omega)
        clear hs0
        go_wp2_with fail
        go_loopg [5, 6] (nl - s0) (fun g2 s5 s6 wz => ∃ (p n : Nat), p + g2 = nl ∧ s6 = .int .i64 p ∧ s5 = .int .i64 n ∧ n ≤ p ∧ Hid (s0 ≤ p ∧ n = bad ((l.drop s0).take (p - s0))) ∧ wz = wr)
        case atStart => exact ⟨0, 0, by have := HZ.out; omega, rfl, rfl, Nat.zero_le _, ⟨by have := HZ.out; omega, by rw [show 0 - s0 = 0 by have := HZ.out; omega]; rfl⟩, rfl⟩
        case round =>
          obtain ⟨p, n, hjg, rfl, rfl, hnj, HN, rfl⟩ := hrel
          cases gk with
          | zero =>
            have hjz : ¬ ((p : Int) < (nl : Int)) := by omega
            have HN2 := Lib.hid (show n = bad (List.drop (nl - 10) l) by rw [HN.out.2, List.take_of_length_le (by have := HNL.out; simp; omega), HS0.out])
            rw [← HN2.out] at KF
            have hce : (c' == (nl : Int)) = true := beqT (by have := HC.out; omega)
            clear HR hjz
            by_cases hx10 : 10 ≤ nl
            · have hce2 : (c' == 10) = true := beqT (by have := HC.out; omega)
              have h10i : (10 : Int) ≤ (nl : Int) := by omega
              rw [decide_eq_true hx10, Bool.true_and] at KF
              by_cases h4 : 4 ≤ n
              · have h4i : (4 : Int) ≤ (n : Int) := by omega
                rw [decide_eq_true h4] at KF
                dsimp only [winV] at KV KF
                clear h4
                go_wp2_with (first
                  | (go_at_call 10; (with_reducible refine (KV.out _).mono ?_); rintro e w5 ⟨rfl, q5⟩; have hb5 := HB.out.below q5 HB.out.lt; have d0 := hb5.cell 0; have d1 := hb5.cell 1)
                  | (go_at_call 14; (with_reducible refine (KF.out _).mono ?_); rintro e w6 ⟨rfl, q6⟩)
                  | fail)
                go_ret
                exact ⟨rfl, HB1.out.trans ((HBL.out.trans ((bst q5 q6).mono HBL.out.size)).mono HB1.out.size)⟩
              · have h4i : decide ((4 : Int) ≤ (n : Int)) = false := decide_eq_false (by omega)
                rw [decide_eq_false h4] at KF
                dsimp only [winV] at KV KF
                clear h4
                go_wp2_with (first
                  | (go_at_call 10; (with_reducible refine (KV.out _).mono ?_); rintro e w5 ⟨rfl, q5⟩; have hb5 := HB.out.below q5 HB.out.lt; have d0 := hb5.cell 0; have d1 := hb5.cell 1)
                  | (go_at_call 14; (with_reducible refine (KF.out _).mono ?_); rintro e w6 ⟨rfl, q6⟩)
                  | fail)
                go_ret
                exact ⟨rfl, HB1.out.trans ((HBL.out.trans ((bst q5 q6).mono HBL.out.size)).mono HB1.out.size)⟩
            · have h10i : ¬ (10 : Int) ≤ (nl : Int) := by omega
              rw [decide_eq_false hx10, Bool.false_and] at KF
              dsimp only [winV] at KV KF
              go_wp2_with (first
                | (go_at_call 10; (with_reducible refine (KV.out _).mono ?_); rintro e w5 ⟨rfl, q5⟩; have hb5 := HB.out.below q5 HB.out.lt; have d0 := hb5.cell 0; have d1 := hb5.cell 1)
                | (go_at_call 14; (with_reducible refine (KF.out _).mono ?_); rintro e w6 ⟨rfl, q6⟩)
                | fail)
              go_ret
              exact ⟨rfl, HB1.out.trans ((HBL.out.trans ((bst q5 q6).mono HBL.out.size)).mono HB1.out.size)⟩
          | succ g2 =>
            have hjz : (p : Int) < (nl : Int) := by omega
            obtain ⟨ad, u, rfl, hadb, hx, hcell⟩ := (HR.out wr (HB1.out.trans (HBL.out.mono HB1.out.size))).at_ (k := p) (by omega)
            obtain ⟨x, hxk⟩ : ∃ x, l[p]? = some x := ⟨_, List.getElem?_eq_getElem (by have := HNL.out; omega)⟩
            have hux : u = .bool x := by simp [hxk] at hx; exact hx.symm
            rw [hux] at hcell
            have HX := Lib.hid (show bad ((l.drop s0).take (p + 1 - s0)) = n + (if x then 0 else 1) by
              have h1 := HN.out.1
              rw [show p + 1 - s0 = (p - s0) + 1 by omega, bad_take (x := x) (by rw [show s0 + (p - s0) = p by omega]; exact hxk), ← HN.out.2])
            clear hx hux hxk
            cases x
            · go_wp2_with fail
              go_roundg g2
              case measure => omega
              case rel => exact ⟨p + 1, n + 1, by omega, by go_num, by go_num, by omega, ⟨by have := HN.out.1; omega, HX.out.symm⟩, rfl⟩
            · go_wp2_with fail
              go_roundg g2
              case measure => omega
              case rel => exact ⟨p + 1, n, by omega, by go_num, rfl, by omega, ⟨by have := HN.out.1; omega, HX.out.symm⟩, rfl⟩
    | succ gk =>
      have hkz : (k : Int) < (nl : Int) := by omega
      obtain ⟨ad, u, rfl, hadb, hx, hcell⟩ := (HR.out wr (HB1.out.trans (HBL.out.mono HB1.out.size))).at_ (k := k) (by omega)
      obtain ⟨x, hxk⟩ : ∃ x, l[k]? = some x := ⟨_, List.getElem?_eq_getElem (by have := HNL.out; omega)⟩
      have hux : u = .bool x := by simp [hxk] at hx; exact hx.symm
      rw [hux] at hcell
      have hokk := runW_ok (l.take k)
      rw [← HW.out] at hokk
      have hbl := okWin_lt hokk
      have hcl := okWin_iff.1 hokk
      have KR := Lib.hid (fun W => (probeRecord_any b c' x W (by omega) ⟨by omega, by omega⟩).mono fun _ _ h => h.to (recW b c' x).1 (recW b c' x).2 rfl)
      have HN := Lib.hid (show ((recW b c' x).1, (recW b c' x).2) = runW (l.take (k + 1)) by rw [runW_take hxk, ← HW.out])
      generalize (recW b c' x).1 = b2 at *
      generalize (recW b c' x).2 = c2 at *
      dsimp only [winV] at KR
      have q0 := HB.out.cell 0
      have q1 := HB.out.cell 1
      clear hx hux hokk hbl hcl hxk
      go_wp2_with fail
      go_region_law (go_simp; go_at_call 12; (with_reducible refine (KR.out _).mono ?_); rintro e w5 ⟨rfl, q5⟩; have hb5 := HB.out.drew.below q5 HB.out.lt; have d0 := hb5.cell 0; have d1 := hb5.cell 1; have f0 := hb5.frozen 0; have f1 := hb5.frozen 1)
      all_goals
        have HB5 := Lib.hid hb5
        have HQ5 := Lib.hid q5
        clear hb5 q5
        go_wp2_with fail
        go_roundg gk
        case measure => omega
        case rel =>
          refine ⟨k + 1, b2, c2, by omega, by go_num, HN.out, ?_, ?_⟩
          · have := (HB5.out.set_ 0 (.int .u32 (b2 : Int))).set_ 1 (.int .i64 c2)
            exact this
          · have hgl : w1.heap.size ≤ g := Nat.le_of_eq HG.out.symm
            exact ((HBL.out.drew.trans (HQ5.out.mono HBL.out.size)).setCell (by exact hgl) _).setCell (by exact hgl) _
end Go.Proofs.YtihgbadglaogdaaDoor.Pb
