/- The reference's SameValue and ValidValue. -/
import Derived.Test.YtklihjgmmliejaaDoorWRefT
namespace Go.Proofs.YtklihjgmmliejaaDoor.W
set_option linter.unusedVariables false
open Go.RowKit
open Go.Lib (byteCells byteCells_length byteCells_append byteCells_snoc)

theorem len_str0 (l : List UInt8) : (ByteArray.mk l.toArray).size = l.length := by show l.toArray.size = _; simp
set_option maxRecDepth 100000 in
set_option maxHeartbeats 1000000 in
theorem refSameValue_any (v u : GV) (I L I' L' : Option Addr) (ci cl ci' cl' B : Nat) (w : World) (h : GVarg w B v I L ci cl) (h' : GVarg w B u I' L' ci' cl') (hB : B ≤ w.heap.size) :
    Calls Tryd.prog 41 #[gvV v I L ci cl, gvV u I' L' ci' cl'] w fun e w' => e = .returned (.bool (sameV v u)) ∧ Below w.heap.size w w' := by
  have hb0 := Below.refl w.heap.size w
  have HI := Lib.hid (fun W (hW : Below w.heap.size w W) => refSameInts_any I I' ci ci' B B v.i u.i W (h.ri.below (hW.mono hB)) (h'.ri.below (hW.mono hB)) h.i40 h'.i40)
  have HL := Lib.hid (fun W (hW : Below w.heap.size w W) => refSameStrings_any L L' cl cl' B B v.l u.l W (h.rl.below (hW.mono hB)) (h'.rl.below (hW.mono hB)) h.l40 h'.l40)
  obtain ⟨k, n, s, i, l⟩ := v
  obtain ⟨k', n', s', i', l'⟩ := u
  dsimp only [gvV, strV] at *
  clear h h'
  go_enter Tryd.func41, Tryd.ntmps41
  go_wp2_with (first
    | (go_at_call 30; refine (HI.out _ ((hb0.alloc (Nat.le_refl _) _).alloc (by rw [World.size_alloc]; omega) _)).mono ?_; rintro e w1 ⟨rfl, m1, rfl⟩)
    | (go_at_call 31; refine (HL.out _ (below_drewN ((hb0.alloc (Nat.le_refl _) _).alloc (by rw [World.size_alloc]; omega) _) _)).mono ?_; rintro e w2 ⟨rfl, m2, rfl⟩))
  go_ways
  all_goals
    go_ret
    refine ⟨?_, ?_⟩
    · first | (simp [sameV, *]; done) | skip
    · repeat (first | exact hb0 | refine below_drewN ?_ _ | refine Below.alloc ?_ (by simp) _)
set_option maxRecDepth 100000 in
set_option maxHeartbeats 2000000 in
theorem refValid_k0 (k n : Int) (s : List UInt8) (i : List Int) (l : List (List UInt8)) (I L : Option Addr) (ci cl B : Nat) (w : World) (h : GVarg w B ⟨k, n, s, i, l⟩ I L ci cl) (hB : B ≤ w.heap.size) (hk : k = 0) :
    Calls Tryd.prog 43 #[gvV ⟨k, n, s, i, l⟩ I L ci cl] w fun e w' => e = .returned (.bool (GV.ok ⟨k, n, s, i, l⟩)) ∧ Below w.heap.size w w' := by
  have hb0 := Below.refl w.heap.size w
  have hrl := (h.rl.more hB).alloc (Nat.le_refl _) (.cells #[.int .i64 k, .int .i64 n, .string ⟨s.toArray⟩, .slice I i.length ci, .slice L l.length cl] 55)
  have s40 := h.s40
  have i40 := h.i40
  have l40 := h.l40
  have e40 := Lib.hid h.e40
  dsimp only [gvV, strV] at *
  clear h
  subst hk
  by_cases hn : n ≠ 0
  · have fn : (n != 0) = true := bneT hn
    have fe : (n == 0) = false := beqF hn
    have hr := Lib.hid (show GV.ok ⟨0, n, s, i, l⟩ = false by simp [GV.ok, fe])
    go_enter Tryd.func43, Tryd.ntmps43
    go_wp2_with fail
    all_goals
      go_ret
      exact ⟨retB hr.out, hb0.alloc (Nat.le_refl _) _⟩
  have hn0 : n = 0 := Classical.not_not.1 hn
  subst hn0
  by_cases hs : s ≠ []
  · have fs : (s == []) = false := by simpa using hs
    have fs2 : (s != []) = true := by simpa using hs
    have fs3 : s.isEmpty = false := by simpa using hs
    have hr := Lib.hid (show GV.ok ⟨0, 0, s, i, l⟩ = false by simp [GV.ok, fs3])
    go_enter Tryd.func43, Tryd.ntmps43
    go_wp2_with fail
    all_goals
      go_ret
      exact ⟨retB hr.out, hb0.alloc (Nat.le_refl _) _⟩
  have hs0 : s = [] := Classical.not_not.1 hs
  subst hs0
  by_cases hi : 0 < i.length
  · have fi : (0 : Int) < (i.length : Int) := by omega
    have fi2 : ((i.length : Int) == 0) = false := beqF (by omega)
    have hr := Lib.hid (show GV.ok ⟨0, 0, [], i, l⟩ = false by simp [GV.ok, fi2])
    go_enter Tryd.func43, Tryd.ntmps43
    go_wp2_with fail
    all_goals
      go_ret
      exact ⟨retB hr.out, hb0.alloc (Nat.le_refl _) _⟩
  have fi : ¬ (0 : Int) < (i.length : Int) := by omega
  by_cases hl : 0 < l.length
  · have fl : (0 : Int) < (l.length : Int) := by omega
    have fl2 : ((l.length : Int) == 0) = false := beqF (by omega)
    have hr := Lib.hid (show GV.ok ⟨0, 0, [], i, l⟩ = false by simp [GV.ok, fl2])
    go_enter Tryd.func43, Tryd.ntmps43
    go_wp2_with fail
    all_goals
      go_ret
      exact ⟨retB hr.out, hb0.alloc (Nat.le_refl _) _⟩
  have fl : ¬ (0 : Int) < (l.length : Int) := by omega
  have HS := Lib.hid (show GV.ok ⟨0, 0, [], i, l⟩ = !(tooL l) by 
    have e1 : i.length = 0 := by omega
    have e2 : l = [] := List.eq_nil_of_length_eq_zero (by omega)
    simp [GV.ok, e1, e2, tooL])
  go_enter Tryd.func43, Tryd.ntmps43
  go_wp2_with fail
  all_goals try (exfalso; omega)
  go_loop [3] (fun j => ∃ q : Nat, q ≤ l.length ∧ j = .int .i64 q ∧ tooL l = tooL (l.drop q)) (fun j => l.length - (intOf j).toNat)
  case atStart => exact ⟨0, Nat.zero_le _, rfl, rfl⟩
  case round =>
    obtain ⟨q, hq, rfl, hd⟩ := hrel
    by_cases hlt : q < l.length
    · exact absurd hlt (by omega)
    · have ht := Lib.hid (show tooL l = false by rw [hd, List.drop_eq_nil_of_le (by omega)]; rfl)
      clear hd
      have hlt2 : ¬ (q : Int) < (l.length : Int) := by omega
      go_wp2
      go_ret
      exact ⟨retB (HS.out.trans (by rw [ht.out]; rfl)), hb0.alloc (Nat.le_refl _) _⟩
set_option maxRecDepth 100000 in
set_option maxHeartbeats 2000000 in
theorem refValid_k1 (k n : Int) (s : List UInt8) (i : List Int) (l : List (List UInt8)) (I L : Option Addr) (ci cl B : Nat) (w : World) (h : GVarg w B ⟨k, n, s, i, l⟩ I L ci cl) (hB : B ≤ w.heap.size) (hk : k = 1) :
    Calls Tryd.prog 43 #[gvV ⟨k, n, s, i, l⟩ I L ci cl] w fun e w' => e = .returned (.bool (GV.ok ⟨k, n, s, i, l⟩)) ∧ Below w.heap.size w w' := by
  have hb0 := Below.refl w.heap.size w
  have hrl := (h.rl.more hB).alloc (Nat.le_refl _) (.cells #[.int .i64 k, .int .i64 n, .string ⟨s.toArray⟩, .slice I i.length ci, .slice L l.length cl] 55)
  have s40 := h.s40
  have i40 := h.i40
  have l40 := h.l40
  have e40 := Lib.hid h.e40
  dsimp only [gvV, strV] at *
  clear h
  subst hk
  by_cases hs : s ≠ []
  · have fs : (s == []) = false := by simpa using hs
    have fs2 : (s != []) = true := by simpa using hs
    have fs3 : s.isEmpty = false := by simpa using hs
    have hr := Lib.hid (show GV.ok ⟨1, n, s, i, l⟩ = false by simp [GV.ok, fs3])
    go_enter Tryd.func43, Tryd.ntmps43
    go_wp2_with fail
    all_goals
      go_ret
      exact ⟨retB hr.out, hb0.alloc (Nat.le_refl _) _⟩
  have hs0 : s = [] := Classical.not_not.1 hs
  subst hs0
  by_cases hi : 0 < i.length
  · have fi : (0 : Int) < (i.length : Int) := by omega
    have fi2 : ((i.length : Int) == 0) = false := beqF (by omega)
    have hr := Lib.hid (show GV.ok ⟨1, n, [], i, l⟩ = false by simp [GV.ok, fi2])
    go_enter Tryd.func43, Tryd.ntmps43
    go_wp2_with fail
    all_goals
      go_ret
      exact ⟨retB hr.out, hb0.alloc (Nat.le_refl _) _⟩
  have fi : ¬ (0 : Int) < (i.length : Int) := by omega
  by_cases hl : 0 < l.length
  · have fl : (0 : Int) < (l.length : Int) := by omega
    have fl2 : ((l.length : Int) == 0) = false := beqF (by omega)
    have hr := Lib.hid (show GV.ok ⟨1, n, [], i, l⟩ = false by simp [GV.ok, fl2])
    go_enter Tryd.func43, Tryd.ntmps43
    go_wp2_with fail
    all_goals
      go_ret
      exact ⟨retB hr.out, hb0.alloc (Nat.le_refl _) _⟩
  have fl : ¬ (0 : Int) < (l.length : Int) := by omega
  have HS := Lib.hid (show GV.ok ⟨1, n, [], i, l⟩ = !(tooL l) by 
    have e1 : i.length = 0 := by omega
    have e2 : l = [] := List.eq_nil_of_length_eq_zero (by omega)
    simp [GV.ok, e1, e2, tooL])
  go_enter Tryd.func43, Tryd.ntmps43
  go_wp2_with fail
  all_goals try (exfalso; omega)
  go_loop [3] (fun j => ∃ q : Nat, q ≤ l.length ∧ j = .int .i64 q ∧ tooL l = tooL (l.drop q)) (fun j => l.length - (intOf j).toNat)
  case atStart => exact ⟨0, Nat.zero_le _, rfl, rfl⟩
  case round =>
    obtain ⟨q, hq, rfl, hd⟩ := hrel
    by_cases hlt : q < l.length
    · exact absurd hlt (by omega)
    · have ht := Lib.hid (show tooL l = false by rw [hd, List.drop_eq_nil_of_le (by omega)]; rfl)
      clear hd
      have hlt2 : ¬ (q : Int) < (l.length : Int) := by omega
      go_wp2
      go_ret
      exact ⟨retB (HS.out.trans (by rw [ht.out]; rfl)), hb0.alloc (Nat.le_refl _) _⟩
set_option maxRecDepth 100000 in
set_option maxHeartbeats 2000000 in
theorem refValid_k2 (k n : Int) (s : List UInt8) (i : List Int) (l : List (List UInt8)) (I L : Option Addr) (ci cl B : Nat) (w : World) (h : GVarg w B ⟨k, n, s, i, l⟩ I L ci cl) (hB : B ≤ w.heap.size) (hk : k = 2) :
    Calls Tryd.prog 43 #[gvV ⟨k, n, s, i, l⟩ I L ci cl] w fun e w' => e = .returned (.bool (GV.ok ⟨k, n, s, i, l⟩)) ∧ Below w.heap.size w w' := by
  have hb0 := Below.refl w.heap.size w
  have hrl := (h.rl.more hB).alloc (Nat.le_refl _) (.cells #[.int .i64 k, .int .i64 n, .string ⟨s.toArray⟩, .slice I i.length ci, .slice L l.length cl] 55)
  have s40 := h.s40
  have i40 := h.i40
  have l40 := h.l40
  have e40 := Lib.hid h.e40
  dsimp only [gvV, strV] at *
  clear h
  subst hk
  by_cases hs : s ≠ []
  · have fs : (s == []) = false := by simpa using hs
    have fs2 : (s != []) = true := by simpa using hs
    have fs3 : s.isEmpty = false := by simpa using hs
    have hr := Lib.hid (show GV.ok ⟨2, n, s, i, l⟩ = false by simp [GV.ok, fs3])
    go_enter Tryd.func43, Tryd.ntmps43
    go_wp2_with fail
    all_goals
      go_ret
      exact ⟨retB hr.out, hb0.alloc (Nat.le_refl _) _⟩
  have hs0 : s = [] := Classical.not_not.1 hs
  subst hs0
  by_cases hi : 0 < i.length
  · have fi : (0 : Int) < (i.length : Int) := by omega
    have fi2 : ((i.length : Int) == 0) = false := beqF (by omega)
    have hr := Lib.hid (show GV.ok ⟨2, n, [], i, l⟩ = false by simp [GV.ok, fi2])
    go_enter Tryd.func43, Tryd.ntmps43
    go_wp2_with fail
    all_goals
      go_ret
      exact ⟨retB hr.out, hb0.alloc (Nat.le_refl _) _⟩
  have fi : ¬ (0 : Int) < (i.length : Int) := by omega
  by_cases hl : 0 < l.length
  · have fl : (0 : Int) < (l.length : Int) := by omega
    have fl2 : ((l.length : Int) == 0) = false := beqF (by omega)
    have hr := Lib.hid (show GV.ok ⟨2, n, [], i, l⟩ = false by simp [GV.ok, fl2])
    go_enter Tryd.func43, Tryd.ntmps43
    go_wp2_with fail
    all_goals
      go_ret
      exact ⟨retB hr.out, hb0.alloc (Nat.le_refl _) _⟩
  have fl : ¬ (0 : Int) < (l.length : Int) := by omega
  by_cases hm : n ≠ 0 ∧ n ≠ 1
  · have f0 : (n != 0) = true := bneT hm.1
    have f1 : (n != 1) = true := bneT hm.2
    have g0 : (n == 0) = false := beqF hm.1
    have g1 : (n == 1) = false := beqF hm.2
    have hr := Lib.hid (show GV.ok ⟨2, n, [], i, l⟩ = false by simp [GV.ok, g0, g1])
    go_enter Tryd.func43, Tryd.ntmps43
    go_wp2_with fail
    all_goals
      go_ret
      exact ⟨retB hr.out, hb0.alloc (Nat.le_refl _) _⟩
  have hm2 : n = 0 ∨ n = 1 := by omega
  have fnn : (n == 0 || n == 1) = true := by simpa using hm2
  rcases hm2 with rfl | rfl
  · have HS := Lib.hid (show GV.ok ⟨2, 0, [], i, l⟩ = !(tooL l) by
      have e1 : i.length = 0 := by omega
      have e2 : l = [] := List.eq_nil_of_length_eq_zero (by omega)
      simp [GV.ok, e1, e2, tooL])
    go_enter Tryd.func43, Tryd.ntmps43
    go_wp2_with fail
    all_goals try (exfalso; omega)
    go_loop [3] (fun j => ∃ q : Nat, q ≤ l.length ∧ j = .int .i64 q ∧ tooL l = tooL (l.drop q)) (fun j => l.length - (intOf j).toNat)
    case atStart => exact ⟨0, Nat.zero_le _, rfl, rfl⟩
    case round =>
      obtain ⟨q, hq, rfl, hd⟩ := hrel
      by_cases hlt : q < l.length
      · exact absurd hlt (by omega)
      · have ht := Lib.hid (show tooL l = false by rw [hd, List.drop_eq_nil_of_le (by omega)]; rfl)
        clear hd
        have hlt2 : ¬ (q : Int) < (l.length : Int) := by omega
        go_wp2
        go_ret
        exact ⟨retB (HS.out.trans (by rw [ht.out]; rfl)), hb0.alloc (Nat.le_refl _) _⟩
  · have HS := Lib.hid (show GV.ok ⟨2, 1, [], i, l⟩ = !(tooL l) by
      have e1 : i.length = 0 := by omega
      have e2 : l = [] := List.eq_nil_of_length_eq_zero (by omega)
      simp [GV.ok, e1, e2, tooL])
    go_enter Tryd.func43, Tryd.ntmps43
    go_wp2_with fail
    all_goals try (exfalso; omega)
    go_loop [3] (fun j => ∃ q : Nat, q ≤ l.length ∧ j = .int .i64 q ∧ tooL l = tooL (l.drop q)) (fun j => l.length - (intOf j).toNat)
    case atStart => exact ⟨0, Nat.zero_le _, rfl, rfl⟩
    case round =>
      obtain ⟨q, hq, rfl, hd⟩ := hrel
      by_cases hlt : q < l.length
      · exact absurd hlt (by omega)
      · have ht := Lib.hid (show tooL l = false by rw [hd, List.drop_eq_nil_of_le (by omega)]; rfl)
        clear hd
        have hlt2 : ¬ (q : Int) < (l.length : Int) := by omega
        go_wp2
        go_ret
        exact ⟨retB (HS.out.trans (by rw [ht.out]; rfl)), hb0.alloc (Nat.le_refl _) _⟩
set_option maxRecDepth 100000 in
set_option maxHeartbeats 2000000 in
theorem refValid_k3 (k n : Int) (s : List UInt8) (i : List Int) (l : List (List UInt8)) (I L : Option Addr) (ci cl B : Nat) (w : World) (h : GVarg w B ⟨k, n, s, i, l⟩ I L ci cl) (hB : B ≤ w.heap.size) (hk : k = 3) :
    Calls Tryd.prog 43 #[gvV ⟨k, n, s, i, l⟩ I L ci cl] w fun e w' => e = .returned (.bool (GV.ok ⟨k, n, s, i, l⟩)) ∧ Below w.heap.size w w' := by
  have hb0 := Below.refl w.heap.size w
  have hrl := (h.rl.more hB).alloc (Nat.le_refl _) (.cells #[.int .i64 k, .int .i64 n, .string ⟨s.toArray⟩, .slice I i.length ci, .slice L l.length cl] 55)
  have s40 := h.s40
  have i40 := h.i40
  have l40 := h.l40
  have e40 := Lib.hid h.e40
  dsimp only [gvV, strV] at *
  clear h
  subst hk
  by_cases hn : n ≠ 0
  · have fn : (n != 0) = true := bneT hn
    have fe : (n == 0) = false := beqF hn
    have hr := Lib.hid (show GV.ok ⟨3, n, s, i, l⟩ = false by simp [GV.ok, fe])
    go_enter Tryd.func43, Tryd.ntmps43
    go_wp2_with fail
    all_goals
      go_ret
      exact ⟨retB hr.out, hb0.alloc (Nat.le_refl _) _⟩
  have hn0 : n = 0 := Classical.not_not.1 hn
  subst hn0
  by_cases hi : 0 < i.length
  · have fi : (0 : Int) < (i.length : Int) := by omega
    have fi2 : ((i.length : Int) == 0) = false := beqF (by omega)
    have hr := Lib.hid (show GV.ok ⟨3, 0, s, i, l⟩ = false by simp [GV.ok, fi2])
    go_enter Tryd.func43, Tryd.ntmps43
    go_wp2_with fail
    all_goals
      go_ret
      exact ⟨retB hr.out, hb0.alloc (Nat.le_refl _) _⟩
  have fi : ¬ (0 : Int) < (i.length : Int) := by omega
  by_cases hl : 0 < l.length
  · have fl : (0 : Int) < (l.length : Int) := by omega
    have fl2 : ((l.length : Int) == 0) = false := beqF (by omega)
    have hr := Lib.hid (show GV.ok ⟨3, 0, s, i, l⟩ = false by simp [GV.ok, fl2])
    go_enter Tryd.func43, Tryd.ntmps43
    go_wp2_with fail
    all_goals
      go_ret
      exact ⟨retB hr.out, hb0.alloc (Nat.le_refl _) _⟩
  have fl : ¬ (0 : Int) < (l.length : Int) := by omega
  by_cases hm : 64 < s.length
  · have fm : (64 : Int) < (s.length : Int) := by omega
    have hls := len_str0 s
    have hr := Lib.hid (show GV.ok ⟨3, 0, s, i, l⟩ = false by simp [GV.ok]; omega)
    go_enter Tryd.func43, Tryd.ntmps43
    go_wp2_with fail
    all_goals
      go_ret
      exact ⟨retB hr.out, hb0.alloc (Nat.le_refl _) _⟩
  have fm : ¬ (64 : Int) < (s.length : Int) := by omega
  have hls := len_str0 s
  have HS := Lib.hid (show GV.ok ⟨3, 0, s, i, l⟩ = !(tooL l) by 
    have e1 : i.length = 0 := by omega
    have e2 : l = [] := List.eq_nil_of_length_eq_zero (by omega)
    simp [GV.ok, e1, e2, tooL]; omega)
  go_enter Tryd.func43, Tryd.ntmps43
  go_wp2_with fail
  all_goals try (exfalso; omega)
  go_loop [3] (fun j => ∃ q : Nat, q ≤ l.length ∧ j = .int .i64 q ∧ tooL l = tooL (l.drop q)) (fun j => l.length - (intOf j).toNat)
  case atStart => exact ⟨0, Nat.zero_le _, rfl, rfl⟩
  case round =>
    obtain ⟨q, hq, rfl, hd⟩ := hrel
    by_cases hlt : q < l.length
    · exact absurd hlt (by omega)
    · have ht := Lib.hid (show tooL l = false by rw [hd, List.drop_eq_nil_of_le (by omega)]; rfl)
      clear hd
      have hlt2 : ¬ (q : Int) < (l.length : Int) := by omega
      go_wp2
      go_ret
      exact ⟨retB (HS.out.trans (by rw [ht.out]; rfl)), hb0.alloc (Nat.le_refl _) _⟩
set_option maxRecDepth 100000 in
set_option maxHeartbeats 2000000 in
theorem refValid_k4 (k n : Int) (s : List UInt8) (i : List Int) (l : List (List UInt8)) (I L : Option Addr) (ci cl B : Nat) (w : World) (h : GVarg w B ⟨k, n, s, i, l⟩ I L ci cl) (hB : B ≤ w.heap.size) (hk : k = 4) :
    Calls Tryd.prog 43 #[gvV ⟨k, n, s, i, l⟩ I L ci cl] w fun e w' => e = .returned (.bool (GV.ok ⟨k, n, s, i, l⟩)) ∧ Below w.heap.size w w' := by
  have hb0 := Below.refl w.heap.size w
  have hrl := (h.rl.more hB).alloc (Nat.le_refl _) (.cells #[.int .i64 k, .int .i64 n, .string ⟨s.toArray⟩, .slice I i.length ci, .slice L l.length cl] 55)
  have s40 := h.s40
  have i40 := h.i40
  have l40 := h.l40
  have e40 := Lib.hid h.e40
  dsimp only [gvV, strV] at *
  clear h
  subst hk
  by_cases hn : n ≠ 0
  · have fn : (n != 0) = true := bneT hn
    have fe : (n == 0) = false := beqF hn
    have hr := Lib.hid (show GV.ok ⟨4, n, s, i, l⟩ = false by simp [GV.ok, fe])
    go_enter Tryd.func43, Tryd.ntmps43
    go_wp2_with fail
    all_goals
      go_ret
      exact ⟨retB hr.out, hb0.alloc (Nat.le_refl _) _⟩
  have hn0 : n = 0 := Classical.not_not.1 hn
  subst hn0
  by_cases hs : s ≠ []
  · have fs : (s == []) = false := by simpa using hs
    have fs2 : (s != []) = true := by simpa using hs
    have fs3 : s.isEmpty = false := by simpa using hs
    have hr := Lib.hid (show GV.ok ⟨4, 0, s, i, l⟩ = false by simp [GV.ok, fs3])
    go_enter Tryd.func43, Tryd.ntmps43
    go_wp2_with fail
    all_goals
      go_ret
      exact ⟨retB hr.out, hb0.alloc (Nat.le_refl _) _⟩
  have hs0 : s = [] := Classical.not_not.1 hs
  subst hs0
  by_cases hl : 0 < l.length
  · have fl : (0 : Int) < (l.length : Int) := by omega
    have fl2 : ((l.length : Int) == 0) = false := beqF (by omega)
    have hr := Lib.hid (show GV.ok ⟨4, 0, [], i, l⟩ = false by simp [GV.ok, fl2])
    go_enter Tryd.func43, Tryd.ntmps43
    go_wp2_with fail
    all_goals
      go_ret
      exact ⟨retB hr.out, hb0.alloc (Nat.le_refl _) _⟩
  have fl : ¬ (0 : Int) < (l.length : Int) := by omega
  by_cases hm : 16 < i.length
  · have fm : (16 : Int) < (i.length : Int) := by omega
    have hr := Lib.hid (show GV.ok ⟨4, 0, [], i, l⟩ = false by simp [GV.ok]; omega)
    go_enter Tryd.func43, Tryd.ntmps43
    go_wp2_with fail
    all_goals
      go_ret
      exact ⟨retB hr.out, hb0.alloc (Nat.le_refl _) _⟩
  have fm : ¬ (16 : Int) < (i.length : Int) := by omega
  have HS := Lib.hid (show GV.ok ⟨4, 0, [], i, l⟩ = !(tooL l) by 
    have e2 : l = [] := List.eq_nil_of_length_eq_zero (by omega)
    simp [GV.ok, e2, tooL]; omega)
  go_enter Tryd.func43, Tryd.ntmps43
  go_wp2_with fail
  all_goals try (exfalso; omega)
  go_loop [3] (fun j => ∃ q : Nat, q ≤ l.length ∧ j = .int .i64 q ∧ tooL l = tooL (l.drop q)) (fun j => l.length - (intOf j).toNat)
  case atStart => exact ⟨0, Nat.zero_le _, rfl, rfl⟩
  case round =>
    obtain ⟨q, hq, rfl, hd⟩ := hrel
    by_cases hlt : q < l.length
    · exact absurd hlt (by omega)
    · have ht := Lib.hid (show tooL l = false by rw [hd, List.drop_eq_nil_of_le (by omega)]; rfl)
      clear hd
      have hlt2 : ¬ (q : Int) < (l.length : Int) := by omega
      go_wp2
      go_ret
      exact ⟨retB (HS.out.trans (by rw [ht.out]; rfl)), hb0.alloc (Nat.le_refl _) _⟩
set_option maxRecDepth 100000 in
set_option maxHeartbeats 2000000 in
theorem refValid_k5 (k n : Int) (s : List UInt8) (i : List Int) (l : List (List UInt8)) (I L : Option Addr) (ci cl B : Nat) (w : World) (h : GVarg w B ⟨k, n, s, i, l⟩ I L ci cl) (hB : B ≤ w.heap.size) (hk : k = 5) :
    Calls Tryd.prog 43 #[gvV ⟨k, n, s, i, l⟩ I L ci cl] w fun e w' => e = .returned (.bool (GV.ok ⟨k, n, s, i, l⟩)) ∧ Below w.heap.size w w' := by
  have hb0 := Below.refl w.heap.size w
  have hrl := (h.rl.more hB).alloc (Nat.le_refl _) (.cells #[.int .i64 k, .int .i64 n, .string ⟨s.toArray⟩, .slice I i.length ci, .slice L l.length cl] 55)
  have s40 := h.s40
  have i40 := h.i40
  have l40 := h.l40
  have e40 := Lib.hid h.e40
  dsimp only [gvV, strV] at *
  clear h
  subst hk
  by_cases hn : n ≠ 0
  · have fn : (n != 0) = true := bneT hn
    have fe : (n == 0) = false := beqF hn
    have hr := Lib.hid (show GV.ok ⟨5, n, s, i, l⟩ = false by simp [GV.ok, fe])
    go_enter Tryd.func43, Tryd.ntmps43
    go_wp2_with fail
    all_goals
      go_ret
      exact ⟨retB hr.out, hb0.alloc (Nat.le_refl _) _⟩
  have hn0 : n = 0 := Classical.not_not.1 hn
  subst hn0
  by_cases hs : s ≠ []
  · have fs : (s == []) = false := by simpa using hs
    have fs2 : (s != []) = true := by simpa using hs
    have fs3 : s.isEmpty = false := by simpa using hs
    have hr := Lib.hid (show GV.ok ⟨5, 0, s, i, l⟩ = false by simp [GV.ok, fs3])
    go_enter Tryd.func43, Tryd.ntmps43
    go_wp2_with fail
    all_goals
      go_ret
      exact ⟨retB hr.out, hb0.alloc (Nat.le_refl _) _⟩
  have hs0 : s = [] := Classical.not_not.1 hs
  subst hs0
  by_cases hi : 0 < i.length
  · have fi : (0 : Int) < (i.length : Int) := by omega
    have fi2 : ((i.length : Int) == 0) = false := beqF (by omega)
    have hr := Lib.hid (show GV.ok ⟨5, 0, [], i, l⟩ = false by simp [GV.ok, fi2])
    go_enter Tryd.func43, Tryd.ntmps43
    go_wp2_with fail
    all_goals
      go_ret
      exact ⟨retB hr.out, hb0.alloc (Nat.le_refl _) _⟩
  have fi : ¬ (0 : Int) < (i.length : Int) := by omega
  by_cases hm : 16 < l.length
  · have fm : (16 : Int) < (l.length : Int) := by omega
    have hr := Lib.hid (show GV.ok ⟨5, 0, [], i, l⟩ = false by simp [GV.ok]; omega)
    go_enter Tryd.func43, Tryd.ntmps43
    go_wp2_with fail
    all_goals
      go_ret
      exact ⟨retB hr.out, hb0.alloc (Nat.le_refl _) _⟩
  have fm : ¬ (16 : Int) < (l.length : Int) := by omega
  have HS := Lib.hid (show GV.ok ⟨5, 0, [], i, l⟩ = !(tooL l) by 
    have e1 : i.length = 0 := by omega
    simp [GV.ok, e1]; omega)
  go_enter Tryd.func43, Tryd.ntmps43
  go_wp2_with fail
  all_goals try (exfalso; omega)
  go_loop [3] (fun j => ∃ q : Nat, q ≤ l.length ∧ j = .int .i64 q ∧ tooL l = tooL (l.drop q)) (fun j => l.length - (intOf j).toNat)
  case atStart => exact ⟨0, Nat.zero_le _, rfl, rfl⟩
  case round =>
    obtain ⟨q, hq, rfl, hd⟩ := hrel
    by_cases hlt : q < l.length
    · obtain ⟨ad, u, rfl, _, hx, hcell⟩ := hrl.at_ hlt
      have hux : u = .string ⟨(l[q]).toArray⟩ := by simp [hlt, strV] at hx; exact hx.symm
      rw [hux] at hcell
      have hdk : l.drop q = l[q] :: l.drop (q + 1) := List.drop_eq_getElem_cons hlt
      have hxs := e40.out l[q] (List.getElem_mem hlt)
      generalize l[q] = x at *
      rw [hdk] at hd
      have HD := Lib.hid hd
      clear hd hdk hx hux
      have hlt2 : (q : Int) < (l.length : Int) := by omega
      by_cases hb : 64 < x.length
      · have ht := Lib.hid (show tooL l = true by rw [HD.out]; simp [tooL, hb])
        have hb2 : (64 : Int) < (x.length : Int) := by omega
        go_wp2_with fail
        go_ret
        exact ⟨retB (HS.out.trans (by rw [ht.out]; rfl)), hb0.alloc (Nat.le_refl _) _⟩
      · have ht := Lib.hid (show tooL l = tooL (l.drop (q + 1)) by rw [HD.out]; simp [tooL, hb])
        have hb2 : ¬ (64 : Int) < (x.length : Int) := by omega
        go_wp2_with fail
        go_round
        case rel => exact ⟨q + 1, by omega, by go_num, ht.out⟩
        case measure => simp [intOf]; omega
    · have ht := Lib.hid (show tooL l = false by rw [hd, List.drop_eq_nil_of_le (by omega)]; rfl)
      clear hd
      have hlt2 : ¬ (q : Int) < (l.length : Int) := by omega
      go_wp2
      go_ret
      exact ⟨retB (HS.out.trans (by rw [ht.out]; rfl)), hb0.alloc (Nat.le_refl _) _⟩
set_option maxRecDepth 100000 in
set_option maxHeartbeats 2000000 in
theorem refValid_kx (k n : Int) (s : List UInt8) (i : List Int) (l : List (List UInt8)) (I L : Option Addr) (ci cl B : Nat) (w : World) (h : GVarg w B ⟨k, n, s, i, l⟩ I L ci cl) (hB : B ≤ w.heap.size) (hk : k < 0 ∨ 5 < k) :
    Calls Tryd.prog 43 #[gvV ⟨k, n, s, i, l⟩ I L ci cl] w fun e w' => e = .returned (.bool (GV.ok ⟨k, n, s, i, l⟩)) ∧ Below w.heap.size w w' := by
  have hb0 := Below.refl w.heap.size w
  have hrl := (h.rl.more hB).alloc (Nat.le_refl _) (.cells #[.int .i64 k, .int .i64 n, .string ⟨s.toArray⟩, .slice I i.length ci, .slice L l.length cl] 55)
  have s40 := h.s40
  have i40 := h.i40
  have l40 := h.l40
  have e40 := Lib.hid h.e40
  dsimp only [gvV, strV] at *
  clear h
  have hk0 : (k == 0) = false := beqF (by omega)
  have hj0 : (k != 0) = true := bneT (by omega)
  have hk1 : (k == 1) = false := beqF (by omega)
  have hj1 : (k != 1) = true := bneT (by omega)
  have hk2 : (k == 2) = false := beqF (by omega)
  have hj2 : (k != 2) = true := bneT (by omega)
  have hk3 : (k == 3) = false := beqF (by omega)
  have hj3 : (k != 3) = true := bneT (by omega)
  have hk4 : (k == 4) = false := beqF (by omega)
  have hj4 : (k != 4) = true := bneT (by omega)
  have hk5 : (k == 5) = false := beqF (by omega)
  have hj5 : (k != 5) = true := bneT (by omega)
  by_cases hn : n ≠ 0
  · have fn : (n != 0) = true := bneT hn
    have fe : (n == 0) = false := beqF hn
    have hr := Lib.hid (show GV.ok ⟨k, n, s, i, l⟩ = false by simp [GV.ok, hk0, hk1, hk2, hk3, hk4, hk5, fe])
    go_enter Tryd.func43, Tryd.ntmps43
    go_wp2_with fail
    all_goals
      go_ret
      exact ⟨retB hr.out, hb0.alloc (Nat.le_refl _) _⟩
  have hn0 : n = 0 := Classical.not_not.1 hn
  subst hn0
  by_cases hs : s ≠ []
  · have fs : (s == []) = false := by simpa using hs
    have fs2 : (s != []) = true := by simpa using hs
    have fs3 : s.isEmpty = false := by simpa using hs
    have hr := Lib.hid (show GV.ok ⟨k, 0, s, i, l⟩ = false by simp [GV.ok, hk0, hk1, hk2, hk3, hk4, hk5, fs3])
    go_enter Tryd.func43, Tryd.ntmps43
    go_wp2_with fail
    all_goals
      go_ret
      exact ⟨retB hr.out, hb0.alloc (Nat.le_refl _) _⟩
  have hs0 : s = [] := Classical.not_not.1 hs
  subst hs0
  by_cases hi : 0 < i.length
  · have fi : (0 : Int) < (i.length : Int) := by omega
    have fi2 : ((i.length : Int) == 0) = false := beqF (by omega)
    have hr := Lib.hid (show GV.ok ⟨k, 0, [], i, l⟩ = false by simp [GV.ok, hk0, hk1, hk2, hk3, hk4, hk5, fi2])
    go_enter Tryd.func43, Tryd.ntmps43
    go_wp2_with fail
    all_goals
      go_ret
      exact ⟨retB hr.out, hb0.alloc (Nat.le_refl _) _⟩
  have fi : ¬ (0 : Int) < (i.length : Int) := by omega
  by_cases hl : 0 < l.length
  · have fl : (0 : Int) < (l.length : Int) := by omega
    have fl2 : ((l.length : Int) == 0) = false := beqF (by omega)
    have hr := Lib.hid (show GV.ok ⟨k, 0, [], i, l⟩ = false by simp [GV.ok, hk0, hk1, hk2, hk3, hk4, hk5, fl2])
    go_enter Tryd.func43, Tryd.ntmps43
    go_wp2_with fail
    all_goals
      go_ret
      exact ⟨retB hr.out, hb0.alloc (Nat.le_refl _) _⟩
  have fl : ¬ (0 : Int) < (l.length : Int) := by omega
  have hr := Lib.hid (show GV.ok ⟨k, 0, [], i, l⟩ = false by simp [GV.ok, hk0, hk1, hk2, hk3, hk4, hk5])
  by_cases hneg : k < 0
  · clear hk
    go_enter Tryd.func43, Tryd.ntmps43
    go_wp2_with fail
    all_goals
      go_ret
      exact ⟨retB hr.out, hb0.alloc (Nat.le_refl _) _⟩
  · have hpos : 5 < k := by omega
    clear hk
    go_enter Tryd.func43, Tryd.ntmps43
    go_wp2_with fail
    all_goals
      go_ret
      exact ⟨retB hr.out, hb0.alloc (Nat.le_refl _) _⟩

/-- WHAT the reference's ValidValue GIVES. -/
theorem refValid_any (v : GV) (I L : Option Addr) (ci cl B : Nat) (w : World) (h : GVarg w B v I L ci cl) (hB : B ≤ w.heap.size) :
    Calls Tryd.prog 43 #[gvV v I L ci cl] w fun e w' => e = .returned (.bool v.ok) ∧ Below w.heap.size w w' := by
  obtain ⟨k, n, s, i, l⟩ := v
  by_cases k0 : k = 0
  · exact refValid_k0 k n s i l I L ci cl B w h hB k0
  by_cases k1 : k = 1
  · exact refValid_k1 k n s i l I L ci cl B w h hB k1
  by_cases k2 : k = 2
  · exact refValid_k2 k n s i l I L ci cl B w h hB k2
  by_cases k3 : k = 3
  · exact refValid_k3 k n s i l I L ci cl B w h hB k3
  by_cases k4 : k = 4
  · exact refValid_k4 k n s i l I L ci cl B w h hB k4
  by_cases k5 : k = 5
  · exact refValid_k5 k n s i l I L ci cl B w h hB k5
  exact refValid_kx k n s i l I L ci cl B w h hB (by omega)
end Go.Proofs.YtklihjgmmliejaaDoor.W
