/- Layer 6: the walk of AlertsAdd. -/
import Derived.Test.YtojhdljbpmjigaaDoorAAwake
namespace Go.Proofs.YtojhdljbpmjigaaDoor.Al
set_option linter.unusedVariables false
set_option linter.unusedSimpArgs false
open Go.RowKit
open Go.Proofs.YtojhdljbpmjigaaDoor.W
open Go.Proofs.YtojhdljbpmjigaaDoor.V
open Go.Proofs.YtojhdljbpmjigaaDoor.O
open Go.Proofs.YtojhdljbpmjigaaDoor.Pb (Alr alrC alrsC two_blk)

theorem boxes3 (w : World) (x y z : Array Value) (t t' t'' : TypeId) : Below w.heap.size w (((w.alloc (.cells x t)).alloc (.cells y t')).alloc (.cells z t'')) ∧ Blk (((w.alloc (.cells x t)).alloc (.cells y t')).alloc (.cells z t'')) w.heap.size t x ∧ Blk (((w.alloc (.cells x t)).alloc (.cells y t')).alloc (.cells z t'')) (w.heap.size + 1) t' y ∧ Blk (((w.alloc (.cells x t)).alloc (.cells y t')).alloc (.cells z t'')) (w.heap.size + 2) t'' z := by
  have h := two_blk w t t' x y
  refine ⟨(boxes2 w x y t t').alloc (by simp; omega) _, h.1.alloc _, h.2.alloc _, ?_⟩
  have := Blk.new ((w.alloc (.cells x t)).alloc (.cells y t')) t'' z
  rwa [show ((w.alloc (.cells x t)).alloc (.cells y t')).heap.size = w.heap.size + 2 by simp] at this
theorem eql_bool (b : Bool) (W : World) : (binOp .eql 4 (.bool b) (.bool b)).run Tryd.prog W = .ok (.bool true) W := by cases b <;> simp [go_sem]
set_option maxRecDepth 1000000 in
set_option maxHeartbeats 8000000 in
theorem lawAdd_any (num : Int) (l : List Int) (A E : Option Addr) (c cE : Nat) (s : List Alr) (a b : Alr) (w : World) (h : VW w w.heap.size num l A c) (hs : AS w w.heap.size s E cE) (ha : El a) (hb : El b) (ht : H.Tab w) :
    Calls Tryd.prog 3 #[.agg #[.int .i64 num, .slice A l.length c], .slice E s.length cE, alrV a, alrV b] w (PB w true) := by
  have hz := boxes3 w #[.int .i64 num, .slice A l.length c] #[.int .i64 a.view, .int .i64 a.ring, .int .i64 a.obs, .int .i64 a.subj] #[.int .i64 b.view, .int .i64 b.ring, .int .i64 b.obs, .int .i64 b.subj] 24 27 27
  have AW := Lib.hid (fun W (hW : Below w.heap.size w W) => awake_any W (ht.on hW))
  have SM := Lib.hid (fun W => small_any num A E l.length c s.length cE W)
  by_cases hl : s.length ≤ 150
  case neg =>
    have d1 : (decide (l.length ≤ 60) && decide (s.length ≤ 150)) = false := by simp [hl]
    rw [d1] at SM
    obtain ⟨hz0, hz1, hz2, hz3⟩ := hz
    have B0 := Lib.hid hz0
    have Z1 := Lib.hid hz1
    clear hz0 hz1 hz2 hz3 hl d1 h hs ha hb ht
    generalize l.length = n at *
    generalize s.length = m at *
    obtain ⟨av, ar, ao, as'⟩ := a
    obtain ⟨bv, br, bo, bs'⟩ := b
    dsimp only [alrV] at *
    go_enter Tryd.func3, Tryd.ntmps3
    go_upto_region 1 with fail
    generalize ((w.alloc (.cells #[.int .i64 num, .slice A n c] 24)).alloc (.cells #[.int .i64 av, .int .i64 ar, .int .i64 ao, .int .i64 as'] 27)).alloc (.cells #[.int .i64 bv, .int .i64 br, .int .i64 bo, .int .i64 bs'] 27) = w0 at *
    have FB := Lib.hid (fun W (hW : Below w0.heap.size w0 W) => blk2 (Z1.out.below hW Z1.out.lt))
    go_wp2_with (first
      | (go_at_call 9; (with_reducible refine (AW.out _ B0.out).mono ?_); rintro e w1 ⟨rfl, b1⟩; (have p1 := FB.out _ b1))
      | (go_at_call 10; (with_reducible refine (SM.out _).mono ?_); rintro e w2 ⟨rfl, b2⟩)
      | fail)
    go_ret
    exact ⟨rfl, below2s B0.out (below2s b1 b2)⟩
  by_cases hl6 : l.length ≤ 60
  case neg =>
    have d1 : (decide (l.length ≤ 60) && decide (s.length ≤ 150)) = false := by simp [hl6]
    rw [d1] at SM
    obtain ⟨hz0, hz1, hz2, hz3⟩ := hz
    have B0 := Lib.hid hz0
    have Z1 := Lib.hid hz1
    clear hz0 hz1 hz2 hz3 hl hl6 d1 h hs ha hb ht
    generalize l.length = n at *
    generalize s.length = m at *
    obtain ⟨av, ar, ao, as'⟩ := a
    obtain ⟨bv, br, bo, bs'⟩ := b
    dsimp only [alrV] at *
    go_enter Tryd.func3, Tryd.ntmps3
    go_upto_region 1 with fail
    generalize ((w.alloc (.cells #[.int .i64 num, .slice A n c] 24)).alloc (.cells #[.int .i64 av, .int .i64 ar, .int .i64 ao, .int .i64 as'] 27)).alloc (.cells #[.int .i64 bv, .int .i64 br, .int .i64 bo, .int .i64 bs'] 27) = w0 at *
    have FB := Lib.hid (fun W (hW : Below w0.heap.size w0 W) => blk2 (Z1.out.below hW Z1.out.lt))
    go_wp2_with (first
      | (go_at_call 9; (with_reducible refine (AW.out _ B0.out).mono ?_); rintro e w1 ⟨rfl, b1⟩; (have p1 := FB.out _ b1))
      | (go_at_call 10; (with_reducible refine (SM.out _).mono ?_); rintro e w2 ⟨rfl, b2⟩)
      | fail)
    go_ret
    exact ⟨rfl, below2s B0.out (below2s b1 b2)⟩
  have d1 : (decide (l.length ≤ 60) && decide (s.length ≤ 150)) = true := by simp [hl, hl6]
  rw [d1] at SM
  have PA := Lib.hid (fun W (hW : Below w.heap.size w W) => alAdd_any num l A E c cE w.heap.size s a W (h.below hW) (hs.below hW) hW.size ha (by omega) (ht.on hW))
  have RA := Lib.hid (fun W (hW : Below w.heap.size w W) => refAdd_any num l A E c cE w.heap.size s a W (h.below hW) (hs.below hW) hW.size ha (by omega))
  have PV := Lib.hid (fun W (hW : Below w.heap.size w W) => alValidAlert_any num l A c w.heap.size a W (h.below hW) hW.size ha (ht.on hW))
  have RV := Lib.hid (fun W (hW : Below w.heap.size w W) => refValidAlert_any num l A c w.heap.size a W (h.below hW) hW.size ha)
  have PS := Lib.hid (fun W (hW : Below w.heap.size w W) => alValid_any num l A E c cE w.heap.size s W (h.below hW) (hs.below hW) hW.size (ht.on hW))
  have RS := Lib.hid (fun W (hW : Below w.heap.size w W) => refValidS_any num l A E c cE w.heap.size s W (h.below hW) (hs.below hW) hW.size)
  have PL := Lib.hid (fun W => alLess_any a b W)
  have RL := Lib.hid (fun W => refLess_any a b W)
  obtain ⟨O, hO⟩ : ∃ O, O = addS K num l s a := ⟨_, rfl⟩
  have LO := Lib.hid (show O.length ≤ 1000 from by
    rw [hO]
    unfold addS
    split
    · have := (putA_len (s := s) (a := a)).2; omega
    · simp)
  rw [← hO] at PA RA
  clear hO d1 hl hl6
  obtain ⟨hz0, hz1, hz2, hz3⟩ := hz
  have B0 := Lib.hid hz0
  have Z1 := Lib.hid hz1
  have Z2 := Lib.hid hz2
  have Z3 := Lib.hid hz3
  clear hz0 hz1 hz2 hz3 h hs ha hb ht
  generalize addB K num l s a = ab at *
  generalize addE K num l s a = ae at *
  generalize okA K num l a = oa at *
  generalize okS K num l s = os at *
  generalize lessA a b = la at *
  generalize l.length = n at *
  generalize s.length = m at *
  obtain ⟨av, ar, ao, as'⟩ := a
  obtain ⟨bv, br, bo, bs'⟩ := b
  dsimp only [alrV, OutAdd] at *
  go_enter Tryd.func3, Tryd.ntmps3
  go_upto_region 1 with fail
  generalize ((w.alloc (.cells #[.int .i64 num, .slice A n c] 24)).alloc (.cells #[.int .i64 av, .int .i64 ar, .int .i64 ao, .int .i64 as'] 27)).alloc (.cells #[.int .i64 bv, .int .i64 br, .int .i64 bo, .int .i64 bs'] 27) = w0 at *
  have FB := Lib.hid (fun W (hW : Below w0.heap.size w0 W) => And.intro (blk2 (Z1.out.below hW Z1.out.lt)) (And.intro (blk4 (Z2.out.below hW Z2.out.lt)) (blk4 (Z3.out.below hW Z3.out.lt))))
  go_upto_region 7 with (first
    | (go_at_call 9; (with_reducible refine (AW.out _ B0.out).mono ?_); rintro e w1 ⟨rfl, b1⟩; (have p1 := FB.out _ b1))
    | (go_at_call 10; (with_reducible refine (SM.out _).mono ?_); rintro e w2 ⟨rfl, b2⟩; (have b12 := below2s b1 b2); (have p2 := FB.out _ b12); (have c2 := below2s B0.out b12))
    | (go_at_call 11; (with_reducible refine (PA.out _ c2).mono ?_); rintro e w3 ⟨X3, k3, rfl, as3, b3⟩; (have b13 := below2s b12 b3); (have p3 := FB.out _ b13); (have c3 := below2s c2 b3))
    | (go_at_call 12; (with_reducible refine (RA.out _ c3).mono ?_); rintro e w4 ⟨X4, k4, rfl, as4, b4⟩)
    | fail)
  have U4 := Lib.hid (below2s b13 b4)
  have W4 := Lib.hid (below2s c3 b4)
  have A3 := Lib.hid (AS.on as3 b4)
  have A4 := Lib.hid as4
  clear p1 p2 p3 as3 as4 b1 b2 b3 b4 b12 b13 c2 c3 PA RA AW SM
  have KS := Lib.hid (fun W (hW : Below w4.heap.size w4 W) => by
    have := refSameS_any X3 X4 k3 k4 w4.heap.size O O W (A3.out.rd.below hW) (A4.out.rd.below hW) A3.out.l40 A4.out.l40
    rw [decide_eq_true rfl] at this
    exact this)
  have QB := eql_bool
  have p4 := FB.out _ U4.out
  go_region_held3 (fun W' => ((W'.cell? ⟨w.heap.size, 0, none⟩ = some (.int .i64 num) ∧ W'.cell? ⟨w.heap.size, 1, none⟩ = some (.slice A n c)) ∧ ((W'.cell? ⟨w.heap.size + 1, 0, none⟩ = some (.int .i64 av) ∧ W'.cell? ⟨w.heap.size + 1, 1, none⟩ = some (.int .i64 ar) ∧ W'.cell? ⟨w.heap.size + 1, 2, none⟩ = some (.int .i64 ao) ∧ W'.cell? ⟨w.heap.size + 1, 3, none⟩ = some (.int .i64 as')) ∧ (W'.cell? ⟨w.heap.size + 2, 0, none⟩ = some (.int .i64 bv) ∧ W'.cell? ⟨w.heap.size + 2, 1, none⟩ = some (.int .i64 br) ∧ W'.cell? ⟨w.heap.size + 2, 2, none⟩ = some (.int .i64 bo) ∧ W'.cell? ⟨w.heap.size + 2, 3, none⟩ = some (.int .i64 bs'))))) (first | exact s37 | exact s34 | exact s28 | exact s25 | exact s19 | exact s16 | exact s2 | exact FB.out _ U4.out.drew | exact FB.out _ U4.out) (first
    | (go_at_call 13; (with_reducible refine (KS.out _ (by first | exact b37 | exact b34 | exact b28 | exact b25 | exact b19 | exact b16 | exact b2 | exact (Below.refl _ _).drew | exact Below.refl _ _)).mono ?_); rintro e v2 ⟨rfl, q2⟩; have b2 : Below w4.heap.size w4 v2 := below2s (by first | exact b37 | exact b34 | exact b28 | exact b25 | exact b19 | exact b16 | exact b2 | exact (Below.refl _ _).drew | exact Below.refl _ _) q2; have s2 := FB.out _ (below2s U4.out b2))
    | (go_at_call 14; (with_reducible refine (PV.out _ (below2s W4.out (by first | exact b37 | exact b34 | exact b28 | exact b25 | exact b19 | exact b16 | exact b2 | exact (Below.refl _ _).drew | exact Below.refl _ _))).mono ?_); rintro e v16 ⟨rfl, q16⟩; have b16 : Below w4.heap.size w4 v16 := below2s (by first | exact b37 | exact b34 | exact b28 | exact b25 | exact b19 | exact b16 | exact b2 | exact (Below.refl _ _).drew | exact Below.refl _ _) q16; have s16 := FB.out _ (below2s U4.out b16))
    | (go_at_call 15; (with_reducible refine (RV.out _ (below2s W4.out (by first | exact b37 | exact b34 | exact b28 | exact b25 | exact b19 | exact b16 | exact b2 | exact (Below.refl _ _).drew | exact Below.refl _ _))).mono ?_); rintro e v19 ⟨rfl, q19⟩; have b19 : Below w4.heap.size w4 v19 := below2s (by first | exact b37 | exact b34 | exact b28 | exact b25 | exact b19 | exact b16 | exact b2 | exact (Below.refl _ _).drew | exact Below.refl _ _) q19; have s19 := FB.out _ (below2s U4.out b19))
    | (go_at_call 16; (with_reducible refine (PL.out _).mono ?_); rintro e v25 ⟨rfl, q25⟩; have b25 : Below w4.heap.size w4 v25 := below2s (by first | exact b37 | exact b34 | exact b28 | exact b25 | exact b19 | exact b16 | exact b2 | exact (Below.refl _ _).drew | exact Below.refl _ _) q25; have s25 := FB.out _ (below2s U4.out b25))
    | (go_at_call 17; (with_reducible refine (RL.out _).mono ?_); rintro e v28 ⟨rfl, q28⟩; have b28 : Below w4.heap.size w4 v28 := below2s (by first | exact b37 | exact b34 | exact b28 | exact b25 | exact b19 | exact b16 | exact b2 | exact (Below.refl _ _).drew | exact Below.refl _ _) q28; have s28 := FB.out _ (below2s U4.out b28))
    | (go_at_call 18; (with_reducible refine (PS.out _ (below2s W4.out (by first | exact b37 | exact b34 | exact b28 | exact b25 | exact b19 | exact b16 | exact b2 | exact (Below.refl _ _).drew | exact Below.refl _ _))).mono ?_); rintro e v34 ⟨rfl, q34⟩; have b34 : Below w4.heap.size w4 v34 := below2s (by first | exact b37 | exact b34 | exact b28 | exact b25 | exact b19 | exact b16 | exact b2 | exact (Below.refl _ _).drew | exact Below.refl _ _) q34; have s34 := FB.out _ (below2s U4.out b34))
    | (go_at_call 19; (with_reducible refine (RS.out _ (below2s W4.out (by first | exact b37 | exact b34 | exact b28 | exact b25 | exact b19 | exact b16 | exact b2 | exact (Below.refl _ _).drew | exact Below.refl _ _))).mono ?_); rintro e v37 ⟨rfl, q37⟩; have b37 : Below w4.heap.size w4 v37 := below2s (by first | exact b37 | exact b34 | exact b28 | exact b25 | exact b19 | exact b16 | exact b2 | exact (Below.refl _ _).drew | exact Below.refl _ _) q37; have s37 := FB.out _ (below2s U4.out b37))
    | fail)
  all_goals
    go_wp2_with fail
    go_ret
    exact ⟨rfl, below2s W4.out (by first | assumption | exact Below.drew (by assumption))⟩
end Go.Proofs.YtojhdljbpmjigaaDoor.Al
