/- Package alerts: isIdentifier, inRange, compare, Less, follows (and cmp.Compare, cmp.Or over ints). -/
import Derived.Test.YtojhdljbpmjigaaGreatDoorAB
import Derived.BigQuiet
import Derived.Deep.RegionHeld3
namespace Go.Proofs.YtojhdljbpmjigaaGreatDoor.Al
set_option linter.unusedVariables false
set_option linter.unusedSimpArgs false
open Go.RowKit
open Go.Proofs.YtojhdljbpmjigaaGreatDoor.W
open Go.Proofs.YtojhdljbpmjigaaGreatDoor.V
open Go.Proofs.YtojhdljbpmjigaaGreatDoor.O
open Go.Proofs.YtojhdljbpmjigaaGreatDoor.Pb (Alr alrC alrsC len_alrsC alrsC_app alrsC_one alrsC_get alrsC_cell alrInfo step_append_alr reads_blk two_blk)

theorem alIsID_any (id : Int) (w : World) (h : In64 id) :
    Calls Tryz.prog 43 #[.int .i64 id] w fun e w' => e = .returned (.bool (isID id)) ∧ w = w' := by
  obtain ⟨n0, n1⟩ := h
  by_cases h1 : 1 ≤ id
  · by_cases h2 : id ≤ 1000
    · have ht := Lib.hid (show isID id = true by simp [isID, h1, h2])
      generalize isID id = r at *
      go_enter Tryz.func43, Tryz.ntmps43
      go_wp2
      go_ret
      exact ⟨by rw [ht.out]; rfl, rfl⟩
    · have ht := Lib.hid (show isID id = false by simp [isID, h2])
      generalize isID id = r at *
      go_enter Tryz.func43, Tryz.ntmps43
      go_wp2
      go_ret
      exact ⟨by rw [ht.out]; rfl, rfl⟩
  · have ht := Lib.hid (show isID id = false by simp [isID, h1])
    generalize isID id = r at *
    go_enter Tryz.func43, Tryz.ntmps43
    go_wp2
    go_ret
    exact ⟨by rw [ht.out]; rfl, rfl⟩

set_option maxRecDepth 1000000 in
set_option maxHeartbeats 2000000 in
theorem alInRange_any (a : Alr) (w : World) (ha : El a) : Calls Tryz.prog 24 #[alrV a] w (PB w (inA a)) := by
  obtain ⟨av, ar, ao, as'⟩ := a
  obtain ⟨v64, r64, o64, s64⟩ := ha
  dsimp only at v64 r64 o64 s64
  dsimp only [alrV]
  have HB := Lib.hid ((Below.refl w.heap.size w).alloc (Nat.le_refl _) (.cells #[.int .i64 av, .int .i64 ar, .int .i64 ao, .int .i64 as'] 38))
  have KO := Lib.hid (fun W => alIsID_any ao W o64)
  have KS := Lib.hid (fun W => alIsID_any as' W s64)
  have HT := Lib.hid (show inA ⟨av, ar, ao, as'⟩ = (decide (0 ≤ ar) && (decide (ar < 5) && (isID ao && isID as'))) from rfl)
  generalize inA ⟨av, ar, ao, as'⟩ = t at *
  clear v64 r64 o64 s64
  by_cases h1 : 0 ≤ ar
  case neg =>
    have hf := Lib.hid (show t = false by rw [HT.out, decide_eq_false h1]; rfl)
    have f1 : decide (0 ≤ ar) = false := decide_eq_false h1
    clear HT h1
    go_enter Tryz.func24, Tryz.ntmps24
    go_wp2_with fail
    go_ret
    exact ⟨by rw [hf.out]; rfl, HB.out⟩
  have f1 : decide (0 ≤ ar) = true := decide_eq_true h1
  by_cases h2 : ar < 5
  case neg =>
    have hf := Lib.hid (show t = false by rw [HT.out, decide_eq_false h2]; simp)
    have f2 : decide (ar < 5) = false := decide_eq_false h2
    clear HT h1 h2
    go_enter Tryz.func24, Tryz.ntmps24
    go_wp2_with fail
    go_ret
    exact ⟨by rw [hf.out]; rfl, HB.out⟩
  have f2 : decide (ar < 5) = true := decide_eq_true h2
  rw [f1, f2] at HT
  clear h1 h2
  cases ho : isID ao
  · rw [ho] at KO HT
    have hf := Lib.hid (show t = false by rw [HT.out]; rfl)
    clear HT ho
    go_enter Tryz.func24, Tryz.ntmps24
    go_wp2_with (go_at_call 43; (with_reducible refine (KO.out _).mono ?_); rintro e w1 ⟨rfl, rfl⟩)
    go_ret
    exact ⟨by rw [hf.out]; rfl, HB.out⟩
  rw [ho] at KO HT
  cases hj : isID as'
  all_goals
    rw [hj] at KS HT
    have hf := HT.out
    simp only [Bool.true_and] at hf
    have HF := Lib.hid hf
    clear hf HT ho hj
    go_enter Tryz.func24, Tryz.ntmps24
    go_wp2_with (first
      | (go_at_call 43; (with_reducible refine (KO.out _).mono ?_); rintro e w1 ⟨rfl, rfl⟩)
      | (go_at_call 43; (with_reducible refine (KS.out _).mono ?_); rintro e w1 ⟨rfl, rfl⟩)
      | fail)
    go_ret
    exact ⟨by rw [HF.out]; rfl, HB.out⟩

/-- What cmp.Compare gives of two ints, and compare of two alerts. -/
def cmpI (x y : Int) : Int := if x < y then -1 else if y < x then 1 else 0
def cmpA (a b : Alr) : Int := if cmpI a.subj b.subj = 0 then cmpI a.ring b.ring else cmpI a.subj b.subj
theorem cmpI_lt {x y : Int} : cmpI x y < 0 ↔ x < y := by unfold cmpI; split <;> (try split) <;> simp_all <;> omega
theorem cmpI_eq {x y : Int} : cmpI x y = 0 ↔ x = y := by unfold cmpI; split <;> (try split) <;> simp_all <;> omega
theorem cmpI_in (x y : Int) : cmpI x y = -1 ∨ cmpI x y = 0 ∨ cmpI x y = 1 := by unfold cmpI; split <;> (try split) <;> simp
theorem cmpA_lt {a b : Alr} : decide (cmpA a b < 0) = lessA a b := by
  rw [Bool.eq_iff_iff, decide_eq_true_iff, lessA_iff]
  unfold cmpA
  split
  · rename_i h
    rw [cmpI_eq] at h
    rw [cmpI_lt]; omega
  · rename_i h
    rw [cmpI_eq] at h
    rw [cmpI_lt]; omega
theorem cmpA_eq {a b : Alr} : cmpA a b = 0 ↔ a.subj = b.subj ∧ a.ring = b.ring := by
  unfold cmpA
  split
  · rename_i h
    rw [cmpI_eq] at h ⊢
    exact ⟨fun h2 => ⟨h, h2⟩, fun h2 => h2.2⟩
  · rename_i h
    rw [cmpI_eq] at h ⊢
    exact ⟨fun h2 => absurd h2 h, fun h2 => h2.1⟩

set_option maxRecDepth 1000000 in
set_option maxHeartbeats 2000000 in
theorem cmpI_any (x y : Int) (w : World) : Calls Tryz.prog 45 #[.int .i64 x, .int .i64 y] w fun e w' => e = .returned (.int .i64 (cmpI x y)) ∧ w = w' := by
  have HT := Lib.hid (show cmpI x y = if x < y then -1 else if y < x then 1 else 0 from rfl)
  generalize cmpI x y = t at *
  rcases Int.lt_trichotomy x y with h | h | h
  · have ht := Lib.hid (show t = -1 by rw [HT.out, if_pos h])
    clear HT
    go_enter Tryz.func45, Tryz.ntmps45
    go_wp2_with (go_in)
    go_ret
    exact ⟨by rw [ht.out]; rfl, rfl⟩
  · have ht := Lib.hid (show t = 0 by rw [HT.out]; simp [h])
    subst h
    clear HT
    go_enter Tryz.func45, Tryz.ntmps45
    go_wp2_with (go_in)
    go_ret
    exact ⟨by rw [ht.out]; rfl, rfl⟩
  · have h2 : ¬ x < y := by omega
    have ht := Lib.hid (show t = 1 by rw [HT.out, if_neg h2, if_pos h])
    clear HT
    go_enter Tryz.func45, Tryz.ntmps45
    go_wp2_with (go_in)
    go_ret
    exact ⟨by rw [ht.out]; rfl, rfl⟩

set_option maxRecDepth 1000000 in
set_option maxHeartbeats 2000000 in
theorem cmpOr_any (x y : Int) (g : Nat) (w : World) (h0 : w.cell? ⟨g, 0, none⟩ = some (.int .i64 x)) (h1 : w.cell? ⟨g, 1, none⟩ = some (.int .i64 y)) :
    Calls Tryz.prog 44 #[.slice (some ⟨g, 0, none⟩) 2 2] w fun e w' => e = .returned (.int .i64 (if x = 0 then y else x)) ∧ w = w' := by
  obtain ⟨t, ht⟩ : ∃ t, t = if x = 0 then y else x := ⟨_, rfl⟩
  rw [← ht]
  have HT := Lib.hid ht
  clear ht
  go_enter Tryz.func44, Tryz.ntmps44
  go_wp2_with fail
  go_loopg [5, 8] 2 (fun gk s5 s8 wr => ∃ k : Nat, k + gk = 2 ∧ s8 = .int .i64 k ∧ wr = w ∧ Hid (0 < k → x = 0) ∧ Hid (1 < k → y = 0))
  case atStart => exact ⟨0, by omega, rfl, rfl, fun h => absurd h (by omega), fun h => absurd h (by omega)⟩
  case round =>
    obtain ⟨k, hkg, rfl, rfl, HX, HY⟩ := hrel
    have hk3 : k = 0 ∨ k = 1 ∨ k = 2 := by omega
    rcases hk3 with rfl | rfl | rfl
    · by_cases hx : x = 0
      · have f1 : (x != 0) = false := bneF hx
        have HX2 := Lib.hid hx
        clear hx
        obtain ⟨gj, rfl⟩ : ∃ gj, gk = gj + 1 := ⟨gk - 1, by omega⟩
        go_wp2_with fail
        go_roundg gj
        case measure => omega
        case rel => exact ⟨1, by omega, by go_num, rfl, fun _ => HX2.out, fun h => absurd h (by omega)⟩
      · have f1 : (x != 0) = true := bneT hx
        have hf := Lib.hid (show t = x by rw [HT.out, if_neg hx])
        clear hx
        go_wp2_with fail
        go_ret
        exact ⟨by rw [hf.out]; rfl, rfl⟩
    · have hx := HX.out (by omega)
      by_cases hy : y = 0
      · have f1 : (y != 0) = false := bneF hy
        have HY2 := Lib.hid hy
        have HX2 := Lib.hid hx
        clear hy hx
        obtain ⟨gj, rfl⟩ : ∃ gj, gk = gj + 1 := ⟨gk - 1, by omega⟩
        go_wp2_with fail
        go_roundg gj
        case measure => omega
        case rel => exact ⟨2, by omega, by go_num, rfl, fun _ => HX2.out, fun _ => HY2.out⟩
      · have f1 : (y != 0) = true := bneT hy
        have hf := Lib.hid (show t = y by rw [HT.out, if_pos hx])
        clear hy hx
        go_wp2_with fail
        go_ret
        exact ⟨by rw [hf.out]; rfl, rfl⟩
    · have hf := Lib.hid (show t = 0 by rw [HT.out, if_pos (HX.out (by omega))]; exact HY.out (by omega))
      go_wp2_with fail
      go_ret
      exact ⟨by rw [hf.out]; rfl, rfl⟩
end Go.Proofs.YtojhdljbpmjigaaGreatDoor.Al
