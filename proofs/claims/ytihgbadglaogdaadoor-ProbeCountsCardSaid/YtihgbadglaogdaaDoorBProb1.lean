/- Package probe: windows. -/
import Derived.Test.YtihgbadglaogdaaDoorBB
import Derived.BigQuiet
namespace Go.Proofs.YtihgbadglaogdaaDoor.Pb
set_option linter.unusedVariables false
open Go.RowKit
open Go.Proofs.YtihgbadglaogdaaDoor.W
open Go.Proofs.YtihgbadglaogdaaDoor.V
open Go.Proofs.YtihgbadglaogdaaDoor.O

set_option maxRecDepth 1000000 in
set_option maxHeartbeats 2000000 in
theorem probeOkWin_any (b : Nat) (c : Int) (w : World) (hb : b < 4294967296) (hc : In64 c) :
    Calls Tryd.prog 10 #[winV b c] w (PB w (okWin b c)) := by
  obtain ⟨n0, n1⟩ := hc
  have HT := Lib.hid (show okWin b c = (decide (0 ≤ c) && (decide (c ≤ 10) && decide (b < 2 ^ c.toNat))) from rfl)
  generalize okWin b c = t at *
  unfold winV
  by_cases h0 : 0 ≤ c
  case neg =>
    have ht := Lib.hid (show t = false by rw [HT.out]; simp [h0])
    have g0 : decide (0 ≤ c) = false := by simp [h0]
    go_enter Tryd.func10, Tryd.ntmps10
    go_wp2_with fail
    go_quiet (fail)
    go_wp2_with fail
    go_ret
    exact ⟨by rw [ht.out]; rfl, below_drewN' ((Below.refl _ _).alloc (Nat.le_refl _) _) _⟩
  by_cases h1 : c ≤ 10
  case neg =>
    have ht := Lib.hid (show t = false by rw [HT.out]; simp [h1])
    have g0 : decide (0 ≤ c) = true := by simp [h0]
    have g1 : decide (c ≤ 10) = false := by simp [h1]
    go_enter Tryd.func10, Tryd.ntmps10
    go_wp2_with fail
    go_quiet (fail)
    go_wp2_with fail
    go_ret
    exact ⟨by rw [ht.out]; rfl, below_drewN' ((Below.refl _ _).alloc (Nat.le_refl _) _) _⟩
  obtain ⟨k, rfl⟩ : ∃ k : Nat, c = k := ⟨c.toNat, by omega⟩
  have hk : k ≤ 10 := by omega
  have g0 : decide (0 ≤ (k : Int)) = true := by simp
  have g1 : decide ((k : Int) ≤ 10) = true := by simp; omega
  go_enter Tryd.func10, Tryd.ntmps10
  go_wp2_with fail
  go_quiet (fail)
  go_wp2_with fail
  go_ret
  have e : decide ((b : Int) < 2 ^ k % 4294967296) = t := by
    rw [pow_in hk, HT.out, decide_eq_true h0, decide_eq_true h1, Bool.true_and, Bool.true_and, decide_eq_decide]
    show (b : Int) < ((2 ^ k : Nat) : Int) ↔ b < 2 ^ k
    omega
  exact ⟨by rw [← e]; rfl, below_drewN' ((Below.refl _ _).alloc (Nat.le_refl _) _) _⟩

set_option maxRecDepth 1000000 in
set_option maxHeartbeats 2000000 in
theorem probeRecord_any (b : Nat) (c : Int) (ok : Bool) (w : World) (hb : b < 4294967296) (hc : In64 c) :
    Calls Tryd.prog 12 #[winV b c, .bool ok] w (OutW w (recW b c ok)) := by
  have h01 : Below w.heap.size w ((w.alloc (.cells #[.int .u32 (b : Int), .int .i64 c] 24)).alloc (.cells #[.int .u32 0, .int .i64 0] 24)) := ((Below.refl w.heap.size w).alloc (Nat.le_refl _) _).alloc (by simp) _
  have hz := two_blk w 24 24 #[.int .u32 (b : Int), .int .i64 c] #[.int .u32 0, .int .i64 0]
  have FB := Lib.hid (fun W (hW : Below ((w.alloc (.cells #[.int .u32 (b : Int), .int .i64 c] 24)).alloc (.cells #[.int .u32 0, .int .i64 0] 24)).heap.size ((w.alloc (.cells #[.int .u32 (b : Int), .int .i64 c] 24)).alloc (.cells #[.int .u32 0, .int .i64 0] 24)) W) => h01.trans (hW.mono (by simp; omega)))
  have FV := Lib.hid (fun W (hW : Below ((w.alloc (.cells #[.int .u32 (b : Int), .int .i64 c] 24)).alloc (.cells #[.int .u32 0, .int .i64 0] 24)).heap.size ((w.alloc (.cells #[.int .u32 (b : Int), .int .i64 c] 24)).alloc (.cells #[.int .u32 0, .int .i64 0] 24)) W) => cells22 (hz.1.below hW hz.1.lt) (hz.2.below hW hz.2.lt))
  have KV := Lib.hid (fun W => probeOkWin_any b c W hb hc)
  obtain ⟨n0, n1⟩ := hc
  clear hz h01
  cases hv : okWin b c
  · have ht := Lib.hid (show recW b c ok = (0, 0) by unfold recW; rw [hv]; rfl)
    generalize recW b c ok = t at *
    rw [hv] at KV
    unfold winV at *
    go_enter Tryd.func12, Tryd.ntmps12
    go_wp2_with (go_at_call 10; (with_reducible refine (KV.out _).mono ?_); rintro e w1 ⟨rfl, b1⟩; obtain ⟨q0, q1, z0, z1, f0, f1⟩ := FV.out _ b1)
    refine bodyPost_ret (v := winV 0 0) (by simp [results, Tryd.results12, go_sem, winV, z0, z1]) rfl ⟨by rw [ht.out], ?_⟩
    repeat (with_reducible refine below_setV ?_ (by simp) _)
    exact FB.out _ b1
  · obtain ⟨h0, h1, h2⟩ := okWin_iff.1 hv
    have hb10 := okWin_lt hv
    have ht0 := (show recW b c ok = (recB b ok, min (c + 1) 10) by unfold recW; rw [if_pos hv])
    obtain ⟨m, hm⟩ : ∃ m, m = min (c + 1) 10 := ⟨_, rfl⟩
    obtain ⟨r, hr⟩ : ∃ r, r = recB b ok := ⟨_, rfl⟩
    rw [← hm, ← hr] at ht0
    have hr' : (r : Int) = (b : Int) * 2 % 1024 + (if ok then 0 else 1) := by rw [hr]; unfold recB; cases ok <;> simp
    have HT := Lib.hid ht0
    have HR := Lib.hid hr'
    have HM := Lib.hid hm
    rw [hv] at KV
    generalize recW b c ok = t at *
    clear hv ht0 hr hr' hm
    unfold winV at *
    have wc : IntKind.i64.wrap (c + 1) = c + 1 := IntWalk.i64_in _ (by omega)
    by_cases hc1 : 10 < c + 1
    all_goals
      cases ok
      all_goals
        go_enter Tryd.func12, Tryd.ntmps12
        go_wp2_with (go_at_call 10; (with_reducible refine (KV.out _).mono ?_); rintro e w1 ⟨rfl, b1⟩; obtain ⟨q0, q1, z0, z1, f0, f1⟩ := FV.out _ b1)
        refine bodyPost_ret (v := winV r m) (by simp [results, Tryd.results12, go_sem, winV, z0, z1]; have := HR.out; have := HM.out; simp at *; omega) rfl ⟨by rw [HT.out], ?_⟩
        repeat (with_reducible refine below_setV ?_ (by simp) _)
        exact FB.out _ b1
end Go.Proofs.YtihgbadglaogdaaDoor.Pb
