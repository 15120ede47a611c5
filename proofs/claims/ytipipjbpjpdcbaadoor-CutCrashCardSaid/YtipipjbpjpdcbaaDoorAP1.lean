/- Package alerts: isIdentifier, inRange, compare, Less, follows (and cmp.Compare, cmp.Or over ints). -/
import Derived.Test.YtipipjbpjpdcbaaDoorAB
import Derived.BigQuiet
import Derived.Deep.RegionHeld3
namespace Go.Proofs.YtipipjbpjpdcbaaDoor.Al
set_option linter.unusedVariables false
set_option linter.unusedSimpArgs false
open Go.RowKit
open Go.Proofs.YtipipjbpjpdcbaaDoor.W
open Go.Proofs.YtipipjbpjpdcbaaDoor.V
open Go.Proofs.YtipipjbpjpdcbaaDoor.O
open Go.Proofs.YtipipjbpjpdcbaaDoor.Pb (Alr alrC alrsC len_alrsC alrsC_app alrsC_one alrsC_get alrsC_cell alrInfo step_append_alr reads_blk two_blk)

/-- What cmp.Compare gives of two ints, and compare of two alerts. -/
def cmpI (x y : Int) : Int := if x < y then -1 else if y < x then 1 else 0
def cmpA (a b : Alr) : Int := if cmpI a.subj b.subj = 0 then cmpI a.ring b.ring else cmpI a.subj b.subj
theorem cmpI_lt {x y : Int} : cmpI x y < 0 ↔ x < y := by unfold cmpI; split <;> (try split) <;> simp_all <;> omega
theorem cmpI_eq {x y : Int} : cmpI x y = 0 ↔ x = y := by unfold cmpI; split <;> (try split) <;> simp_all <;> omega
theorem cmpI_in (x y : Int) : cmpI x y = -1 ∨ cmpI x y = 0 ∨ cmpI x y = 1 := by unfold cmpI; split <;> (try split) <;> simp
theorem cmpA_lt {a b : Alr} : decide (cmpA a b < 0) = lessA a b := by
  rw [Bool.eq_iff_iff, decide_eq_true_iff, lessA_iff]
  unfold cmpA
  split
  · rename_i h
    rw [cmpI_eq] at h
    rw [cmpI_lt]; omega
  · rename_i h
    rw [cmpI_eq] at h
    rw [cmpI_lt]; omega
theorem cmpA_eq {a b : Alr} : cmpA a b = 0 ↔ a.subj = b.subj ∧ a.ring = b.ring := by
  unfold cmpA
  split
  · rename_i h
    rw [cmpI_eq] at h ⊢
    exact ⟨fun h2 => ⟨h, h2⟩, fun h2 => h2.2⟩
  · rename_i h
    rw [cmpI_eq] at h ⊢
    exact ⟨fun h2 => absurd h2 h, fun h2 => h2.1⟩
set_option maxRecDepth 1000000 in
set_option maxHeartbeats 2000000 in
theorem cmpI_any (x y : Int) (w : World) : Calls Tryd.prog 87 #[.int .i64 x, .int .i64 y] w fun e w' => e = .returned (.int .i64 (cmpI x y)) ∧ w = w' := by
  have HT := Lib.hid (show cmpI x y = if x < y then -1 else if y < x then 1 else 0 from rfl)
  generalize cmpI x y = t at *
  rcases Int.lt_trichotomy x y with h | h | h
  · have ht := Lib.hid (show t = -1 by rw [HT.out, if_pos h])
    clear HT
    go_enter Tryd.func87, Tryd.ntmps87
    go_wp2_with (go_in)
    go_ret
    exact ⟨by rw [ht.out]; rfl, rfl⟩
  · have ht := Lib.hid (show t = 0 by rw [HT.out]; simp [h])
    subst h
    clear HT
    go_enter Tryd.func87, Tryd.ntmps87
    go_wp2_with (go_in)
    go_ret
    exact ⟨by rw [ht.out]; rfl, rfl⟩
  · have h2 : ¬ x < y := by omega
    have ht := Lib.hid (show t = 1 by rw [HT.out, if_neg h2, if_pos h])
    clear HT
    go_enter Tryd.func87, Tryd.ntmps87
    go_wp2_with (go_in)
    go_ret
    exact ⟨by rw [ht.out]; rfl, rfl⟩
set_option maxRecDepth 1000000 in
set_option maxHeartbeats 2000000 in
theorem cmpOr_any (x y : Int) (g : Nat) (w : World) (h0 : w.cell? ⟨g, 0, none⟩ = some (.int .i64 x)) (h1 : w.cell? ⟨g, 1, none⟩ = some (.int .i64 y)) :
    Calls Tryd.prog 86 #[.slice (some ⟨g, 0, none⟩) 2 2] w fun e w' => e = .returned (.int .i64 (if x = 0 then y else x)) ∧ w = w' := by
  obtain ⟨t, ht⟩ : ∃ t, t = if x = 0 then y else x := ⟨_, rfl⟩
  rw [← ht]
  have HT := Lib.hid ht
  clear ht
  go_enter Tryd.func86, Tryd.ntmps86
  go_wp2_with fail
  go_loopg [5, 8] 2 (fun gk s5 s8 wr => ∃ k : Nat, k + gk = 2 ∧ s8 = .int .i64 k ∧ wr = w ∧ Hid (0 < k → x = 0) ∧ Hid (1 < k → y = 0))
  case atStart => exact ⟨0, by omega, rfl, rfl, fun h => absurd h (by omega), fun h => absurd h (by omega)⟩
  case round =>
    obtain ⟨k, hkg, rfl, rfl, HX, HY⟩ := hrel
    have hk3 : k = 0 ∨ k = 1 ∨ k = 2 := by omega
    rcases hk3 with rfl | rfl | rfl
    · by_cases hx : x = 0
      · have f1 : (x != 0) = false := bneF hx
        have HX2 := Lib.hid hx
        clear hx
        obtain ⟨gj, rfl⟩ : ∃ gj, gk = gj + 1 := ⟨gk - 1, by omega⟩
        go_wp2_with fail
        go_roundg gj
        case measure => omega
        case rel => exact ⟨1, by omega, by go_num, rfl, fun _ => HX2.out, fun h => absurd h (by omega)⟩
      · have f1 : (x != 0) = true := bneT hx
        have hf := Lib.hid (show t = x by rw [HT.out, if_neg hx])
        clear hx
        go_wp2_with fail
        go_ret
        exact ⟨by rw [hf.out]; rfl, rfl⟩
    · have hx := HX.out (by omega)
      by_cases hy : y = 0
      · have f1 : (y != 0) = false := bneF hy
        have HY2 := Lib.hid hy
        have HX2 := Lib.hid hx
        clear hy hx
        obtain ⟨gj, rfl⟩ : ∃ gj, gk = gj + 1 := ⟨gk - 1, by omega⟩
        go_wp2_with fail
        go_roundg gj
        case measure => omega
        case rel => exact ⟨2, by omega, by go_num, rfl, fun _ => HX2.out, fun _ => HY2.out⟩
      · have f1 : (y != 0) = true := bneT hy
        have hf := Lib.hid (show t = y by rw [HT.out, if_pos hx])
        clear hy hx
        go_wp2_with fail
        go_ret
        exact ⟨by rw [hf.out]; rfl, rfl⟩
    · have hf := Lib.hid (show t = 0 by rw [HT.out, if_pos (HX.out (by omega))]; exact HY.out (by omega))
      go_wp2_with fail
      go_ret
      exact ⟨by rw [hf.out]; rfl, rfl⟩
end Go.Proofs.YtipipjbpjpdcbaaDoor.Al
