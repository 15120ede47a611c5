/- Package alerts: compare, Less, follows; slices.Index and slices.Contains over alerts. -/
import Derived.Test.YtipipjbpjpdcbaaDoorAP1
namespace Go.Proofs.YtipipjbpjpdcbaaDoor.Al
set_option linter.unusedVariables false
set_option linter.unusedSimpArgs false
open Go.RowKit
open Go.Proofs.YtipipjbpjpdcbaaDoor.W
open Go.Proofs.YtipipjbpjpdcbaaDoor.V
open Go.Proofs.YtipipjbpjpdcbaaDoor.O
open Go.Proofs.YtipipjbpjpdcbaaDoor.Pb (Alr alrC alrsC len_alrsC alrsC_app alrsC_one alrsC_get alrsC_cell alrInfo step_append_alr reads_blk two_blk)

set_option maxRecDepth 1000000 in
set_option maxHeartbeats 4000000 in
theorem alCompare_any (a b : Alr) (w : World) : Calls Tryd.prog 78 #[alrV a, alrV b] w (PI w (cmpA a b)) := by
  obtain ⟨av, ar, ao, as'⟩ := a
  obtain ⟨bv, br, bo, bs'⟩ := b
  dsimp only [alrV]
  have hb0 := boxes2 w #[.int .i64 av, .int .i64 ar, .int .i64 ao, .int .i64 as'] #[.int .i64 bv, .int .i64 br, .int .i64 bo, .int .i64 bs'] 48 48
  have hz := two_blk w 48 48 #[.int .i64 av, .int .i64 ar, .int .i64 ao, .int .i64 as'] #[.int .i64 bv, .int .i64 br, .int .i64 bo, .int .i64 bs']
  have HT := Lib.hid (show cmpA ⟨av, ar, ao, as'⟩ ⟨bv, br, bo, bs'⟩ = if cmpI as' bs' = 0 then cmpI ar br else cmpI as' bs' from rfl)
  generalize cmpA ⟨av, ar, ao, as'⟩ ⟨bv, br, bo, bs'⟩ = t at *
  have K1 := Lib.hid (fun W => cmpI_any as' bs' W)
  have K2 := Lib.hid (fun W => cmpI_any ar br W)
  generalize cmpI as' bs' = x at *
  generalize cmpI ar br = y at *
  have KO := Lib.hid (fun g W h0 h1 => (cmpOr_any x y g W h0 h1).mono fun e w' h => (show e = .returned (.int .i64 t) ∧ W = w' from ⟨by rw [HT.out]; exact h.1, h.2⟩))
  go_enter Tryd.func78, Tryd.ntmps78
  go_upto_region 1 with fail
  generalize hw0 : (w.alloc (.cells #[.int .i64 av, .int .i64 ar, .int .i64 ao, .int .i64 as'] 48)).alloc (.cells #[.int .i64 bv, .int .i64 br, .int .i64 bo, .int .i64 bs'] 48) = w0 at *
  clear hw0
  have B0 := Lib.hid hb0
  have Z1 := Lib.hid hz.1
  have Z2 := Lib.hid hz.2
  clear hb0 hz
  have FB := Lib.hid (fun W (hW : Below w0.heap.size w0 W) => And.intro (blk4 (Z1.out.below hW Z1.out.lt)) (blk4 (Z2.out.below hW Z2.out.lt)))
  have p0 := FB.out _ (Below.refl _ _)
  go_region_law (first
    | ((try go_simp); go_at_call 87; (with_reducible refine (K1.out _).mono ?_); rintro e w4 ⟨rfl, rfl⟩)
    | ((try go_simp); go_at_call 87; (with_reducible refine (K2.out _).mono ?_); rintro e w4 ⟨rfl, rfl⟩)
    | ((try go_simp); go_at_call 86; (with_reducible refine (KO.out _ _ (by simp) (by simp)).mono ?_); rintro e w4 ⟨rfl, rfl⟩)
    | fail)
  all_goals
    go_wp2_with fail
    go_ret
    exact ⟨rfl, B0.out.trans (by first | exact ((Below.refl _ _).drew.alloc B0.out.size _) | exact (((Below.refl _ _).alloc B0.out.size _).drew))⟩
end Go.Proofs.YtipipjbpjpdcbaaDoor.Al
