/- Package cut: implicit. -/
import Derived.Test.YtipipjbpjpdcbaaDoorCP2
import Derived.Test.YtipipjbpjpdcbaaDoorOV
import Derived.WalkMore
namespace Go.Proofs.YtipipjbpjpdcbaaDoor.Ct
set_option linter.unusedVariables false
set_option linter.unusedSimpArgs false
open Go.RowKit
open Go.Proofs.YtipipjbpjpdcbaaDoor.W
open Go.Proofs.YtipipjbpjpdcbaaDoor.V
open Go.Proofs.YtipipjbpjpdcbaaDoor.O
open Go.Proofs.YtipipjbpjpdcbaaDoor.Pb (Alr alrsC len_alrsC reads_blk)
open Go.Proofs.YtipipjbpjpdcbaaDoor.Al

set_option maxRecDepth 1000000 in
set_option maxHeartbeats 8000000 in
theorem cutImplicit_any (num x : Int) (l lv : List Int) (A E Lv : Option Addr) (c cE cl B : Nat) (ab : List Alr) (w : World) (h : VW w B num l A c) (ha : AS w B ab E cE) (hl : LS w B lv Lv cl) (hB : B ≤ w.heap.size) (hx : In64 x) (ht : H.Tab w) :
    Calls Tryd.prog 32 #[.agg #[.int .i64 num, .slice A l.length c], .int .i64 x, .slice E ab.length cE, .slice Lv lv.length cl] w (PI w ((impP ab lv 0 (obsL K l x) : Nat) : Int)) := by
  have hb0 := (Below.refl w.heap.size w).alloc (Nat.le_refl _) (.cells #[.int .i64 num, .slice A l.length c] 24)
  have hz := Blk.new w 24 #[.int .i64 num, .slice A l.length c]
  have KO := Lib.hid (fun W (hW : Below w.heap.size w W) => (overObservers_any x A c w.heap.size l W ⟨((h.more hB).below hW).rd, h.l40, h.el, h.cap⟩ hW.size hx (ht.on hW)).mono fun _ _ h => h.to (obsL K l x) (obsL K l x).length rfl rfl)
  have KC := Lib.hid (fun (y : Int) W (hW : Below w.heap.size w W) => viewContains_any Lv cl w.heap.size lv y W ((hl.more hB).below hW) hW.size)
  have RA := Lib.hid (fun W (hW : Below w.heap.size w W) => ((ha.more hB).below hW).rd)
  have OC := Lib.hid (obs_cases l x)
  have HT := Lib.hid (show ∃ t, t = impP ab lv 0 (obsL K l x) from ⟨_, rfl⟩)
  obtain ⟨t, ht'⟩ := HT.out
  have HTT := Lib.hid ht'
  rw [← ht']
  obtain ⟨O, hO⟩ : ∃ O, O = obsL K l x := ⟨_, rfl⟩
  rw [← hO] at KO OC HTT
  obtain ⟨no, hno⟩ : ∃ n, n = O.length := ⟨_, rfl⟩
  have HNO := Lib.hid hno
  rw [← hno] at KO
  have hno5 : no ≤ 5 := by
    rcases OC.out with h1 | h1
    · rw [hno, h1]; simp
    · omega
  obtain ⟨n, hn⟩ : ∃ n, n = l.length := ⟨_, rfl⟩
  rw [← hn] at hb0 hz KO ⊢
  obtain ⟨na, hna⟩ : ∃ n, n = ab.length := ⟨_, rfl⟩
  have HNA := Lib.hid hna
  have hna4 : na ≤ 1099511627776 := by rw [hna]; exact ha.l40
  rw [← hna] at RA ⊢
  obtain ⟨nl, hnl⟩ : ∃ n, n = lv.length := ⟨_, rfl⟩
  rw [← hnl] at KC ⊢
  have B0 := Lib.hid hb0
  have Z1 := Lib.hid hz
  clear hb0 hz hn hna hnl hno hO ht' HT h ha hl ht hx OC
  go_enter Tryd.func32, Tryd.ntmps32
  go_wp2_with fail
  go_step3
  go_wp2_with fail
  go_step3
  generalize w.alloc (.cells #[.int .i64 num, .slice A n c] 24) = w0 at *
  have p0 := blk2 Z1.out
  go_wp2_with (first
    | (go_at_call 50; (with_reducible refine (KO.out _ B0.out).mono ?_); rintro e w1 ⟨A1, c1, rfl, hc1, ho1, hr1, b1⟩)
    | fail)
  have B1 := Lib.hid (below2 B0.out b1)
  have RO := Lib.hid (fun W (hW : Below w1.heap.size w1 W) => hr1.below hW)
  clear p0 b1 ho1 hr1 hc1 KO Z1
  go_loopg [9, 10, 11, 13, 19, 26] no (fun gk s9 _ _ _ s19 _ wr => ∃ k m : Nat, k + gk = no ∧ s19 = .int .i64 k ∧ s9 = .int .i64 m ∧ m ≤ k ∧ Hid (m + impP ab lv k (O.drop k) = t) ∧ Hid (Below w1.heap.size w1 wr))
  case atStart => exact ⟨0, 0, by omega, rfl, rfl, by omega, by have := HTT.out; show 0 + impP ab lv 0 (O.drop 0) = t; rw [this]; simp, Below.refl _ _⟩
  case round =>
    obtain ⟨k, m, hkg, rfl, rfl, hmk, HM, HW⟩ := hrel
    have BW := Lib.hid (below2 B1.out HW.out)
    cases gk with
    | zero =>
      have hkz : ¬ ((k : Int) < (no : Int)) := by omega
      have HF := Lib.hid (show m = t by
        have := HM.out
        rw [List.drop_eq_nil_of_le (by have := HNO.out; omega)] at this
        simpa [impP] using this)
      go_wp2_with fail
      go_ret
      exact ⟨by rw [← HF.out]; rfl, BW.out⟩
    | succ gi =>
      have hkz : (k : Int) < (no : Int) := by omega
      have hk0 : ¬ (k : Int) < 0 := by omega
      obtain ⟨ad, u, rfl, hadb, hxu, hcell⟩ := (RO.out wr HW.out).at_ (k := k) (by omega)
      obtain ⟨o, hx⟩ : ∃ o, O[k]? = some o := ⟨_, List.getElem?_eq_getElem (by have := HNO.out; omega)⟩
      have hux : u = .int .i64 o := by simp [hx, intV] at hxu; exact hxu.symm
      rw [hux] at hcell
      have HD := Lib.hid (imp_drop (ab := ab) (lv := lv) hx)
      obtain ⟨ta, hta⟩ : ∃ q, q = ab.any (fun a => decide (a.ring = (k : Int))) := ⟨_, rfl⟩
      have HTA := Lib.hid hta
      rw [← hta] at HD
      have KX := Lib.hid (fun W (hW : Below w.heap.size w W) => KC.out o W hW)
      clear hux hxu hx hadb hta KC
      go_wp2_with fail
      clear hcell
      go_loopg [13, 26] na (fun gj _ s26 wq => ∃ j : Nat, j + gj = na ∧ s26 = .int .i64 j ∧ Hid (Below w1.heap.size w1 wq) ∧ Hid ((ab.drop j).any (fun a => decide (a.ring = (k : Int))) = ta))
      case atStart => exact ⟨0, by omega, rfl, HW.out, by have := HTA.out; show (ab.drop 0).any _ = ta; rw [this]; simp⟩
      case round =>
        obtain ⟨j, hjg, rfl, HQ, HJ⟩ := hrel
        have BQ := Lib.hid (below2 B1.out HQ.out)
        cases gk with
        | zero =>
          have hjz : ¬ ((j : Int) < (na : Int)) := by omega
          have HTF := Lib.hid (show ta = false by
            rw [← HJ.out, List.drop_eq_nil_of_le (by have := HNA.out; omega)]; rfl)
          cases hh : hasB lv o
          · have HM2 := Lib.hid (show m + impP ab lv (k + 1) (O.drop (k + 1)) = t by
              have h1 := HM.out
              rw [HD.out, HTF.out, hh] at h1
              simpa using h1)
            rw [hh] at KX
            clear hh HD HJ HTF
            go_wp2_with (first
              | (go_at_call 49; (with_reducible refine (KX.out _ BQ.out).mono ?_); rintro e w6 ⟨rfl, b6⟩)
              | fail)
            go_roundg gi
            case measure => omega
            case rel => exact ⟨k + 1, m, by omega, by go_num, rfl, by omega, HM2.out, below2 HQ.out b6⟩
          · have HM2 := Lib.hid (show m + 1 + impP ab lv (k + 1) (O.drop (k + 1)) = t by
              have h1 := HM.out
              rw [HD.out, HTF.out, hh] at h1
              simp at h1
              omega)
            rw [hh] at KX
            clear hh HD HJ HTF
            go_wp2_with (first
              | (go_at_call 49; (with_reducible refine (KX.out _ BQ.out).mono ?_); rintro e w6 ⟨rfl, b6⟩)
              | fail)
            go_roundg gi
            case measure => omega
            case rel => exact ⟨k + 1, m + 1, by omega, by go_num, by go_num, by omega, HM2.out, below2 HQ.out b6⟩
        | succ gj =>
          have hjz : (j : Int) < (na : Int) := by omega
          have hj0 : ¬ (j : Int) < 0 := by omega
          obtain ⟨y, hy⟩ : ∃ y, ab[j]? = some y := ⟨_, List.getElem?_eq_getElem (by have := HNA.out; omega)⟩
          obtain ⟨ad2, rfl, -, -, y0, y1, y2, y3⟩ := alr_at (RA.out _ BQ.out) hy
          have HY := Lib.hid (any_drop (r := (k : Int)) hy)
          obtain ⟨yv, yr, yo, ys⟩ := y
          dsimp only at *
          have hby := HQ.out.alloc HQ.out.size (.cells #[.int .i64 yv, .int .i64 yr, .int .i64 yo, .int .i64 ys] 48)
          have HBY := Lib.hid hby
          clear hy hby
          by_cases hr : yr = (k : Int)
          · have e1 : (yr == (k : Int)) = true := beqT hr
            have HTF := Lib.hid (show ta = true by rw [← HJ.out, HY.out, decide_eq_true hr]; rfl)
            have HM2 := Lib.hid (show m + impP ab lv (k + 1) (O.drop (k + 1)) = t by
              have h1 := HM.out
              rw [HD.out, HTF.out] at h1
              simpa using h1)
            clear hr HD HJ HTF HY
            go_wp2_with fail
            go_roundg gi
            case measure => omega
            case rel => exact ⟨k + 1, m, by omega, by go_num, rfl, by omega, HM2.out, HBY.out⟩
          · have e1 : (yr == (k : Int)) = false := beqF hr
            have HJ2 := Lib.hid (show (ab.drop (j + 1)).any (fun a => decide (a.ring = (k : Int))) = ta by
              have h1 := HJ.out
              rw [HY.out, decide_eq_false hr] at h1
              simpa using h1)
            clear hr HJ HY
            go_wp2_with fail
            go_roundg gj
            case measure => omega
            case rel => exact ⟨j + 1, by omega, by go_num, HBY.out, HJ2.out⟩
end Go.Proofs.YtipipjbpjpdcbaaDoor.Ct
