/- Layer 5: the walk of ProbeWindows. -/
import Derived.Test.YtihgbadglaogdaaDoorBAwake
namespace Go.Proofs.YtihgbadglaogdaaDoor.Pb
set_option linter.unusedVariables false
open Go.RowKit
open Go.Proofs.YtihgbadglaogdaaDoor.W
open Go.Proofs.YtihgbadglaogdaaDoor.V
open Go.Proofs.YtihgbadglaogdaaDoor.O

theorem bst {a b c : World} (h : Below a.heap.size a b) (hq : Below b.heap.size b c) : Below a.heap.size a c := h.trans (hq.mono h.size)
set_option maxRecDepth 1000000 in
set_option maxHeartbeats 4000000 in
theorem windows_walk (b : Nat) (c : Int) (ok : Bool) (w : World) (hb : b < 4294967296) (hc : In64 c) (ht : H.Tab w) :
    Calls Tryd.prog 3 #[winV b c, .bool ok] w (PB w true) := by
  have hb0 := (Below.refl w.heap.size w).alloc (Nat.le_refl _) (.cells #[.int .u32 (b : Int), .int .i64 c] 24)
  have hz := Blk.new w 24 #[.int .u32 (b : Int), .int .i64 c]
  have AW := Lib.hid (awake_any (w.alloc (.cells #[.int .u32 (b : Int), .int .i64 c] 24)) (ht.on hb0))
  have HS := Lib.hid (fun W (hW : Below (w.alloc (.cells #[.int .u32 (b : Int), .int .i64 c] 24)).heap.size (w.alloc (.cells #[.int .u32 (b : Int), .int .i64 c] 24)) W) => blk2 (hz.below hW hz.lt))
  have HB0 := Lib.hid hb0
  have K1 := Lib.hid (fun W => probeOkWin_any b c W hb hc)
  have K2 := Lib.hid (fun W => refOkWin_any b c W hb hc)
  have K3 := Lib.hid (fun W => (probeRecord_any b c ok W hb hc).mono fun _ _ h => h.to (recW b c ok).1 (recW b c ok).2 rfl)
  have K4 := Lib.hid (fun W => (refRecord_any b c ok W hb hc).mono fun _ _ h => h.to (recW b c ok).1 (recW b c ok).2 rfl)
  have K5 := Lib.hid (fun W => probeFailing_any b c W hb hc)
  have K6 := Lib.hid (fun W => refFailing_any b c W hb hc)
  generalize (recW b c ok).1 = b2 at *
  generalize (recW b c ok).2 = c2 at *
  generalize okWin b c = v at *
  generalize failW b c = f at *
  have hq := eql_win b2 b2 c2 c2
  rw [decide_eq_true rfl] at hq
  dsimp only [winV] at *
  clear hz hb0 hb hc ht
  cases v <;> cases f
  all_goals
    go_enter Tryd.func3, Tryd.ntmps3
    go_wp2_with (go_at_call 9; (with_reducible refine AW.out.mono ?_); rintro e w2 ⟨rfl, b2'⟩; have s2 := HS.out _ b2')
    go_region_held3 (fun W' => W'.cell? ⟨w.heap.size, 0, none⟩ = some (.int .u32 (b : Int)) ∧ W'.cell? ⟨w.heap.size, 1, none⟩ = some (.int .i64 c)) (first | exact s8 | exact s7 | exact s6 | exact s5 | exact s4 | exact s3 | exact s2) (first
      | (go_at_call 10; (with_reducible refine (K1.out _).mono ?_); rintro e w3 ⟨rfl, q3⟩; have b3 := bst (b2'.drew) q3; have s3 := HS.out _ b3)
      | (go_at_call 11; (with_reducible refine (K2.out _).mono ?_); rintro e w4 ⟨rfl, q4⟩; have b4 := bst b3 q4; have s4 := HS.out _ b4)
      | (go_at_call 12; (with_reducible refine (K3.out _).mono ?_); rintro e w5 ⟨rfl, q5⟩; have b5 := bst b4 q5; have s5 := HS.out _ b5)
      | (go_at_call 13; (with_reducible refine (K4.out _).mono ?_); rintro e w6 ⟨rfl, q6⟩; have b6 := bst b5 q6; have s6 := HS.out _ b6)
      | (go_at_call 14; (with_reducible refine (K5.out _).mono ?_); rintro e w7 ⟨rfl, q7⟩; have b7 := bst b6 q7; have s7 := HS.out _ b7)
      | (go_at_call 15; (with_reducible refine (K6.out _).mono ?_); rintro e w8 ⟨rfl, q8⟩; have b8 := bst b7 q8; have s8 := HS.out _ b8)
      | fail)
    all_goals
      go_wp2_with fail
      go_ret
      exact ⟨rfl, HB0.out.trans (b8.mono (by simp))⟩
end Go.Proofs.YtihgbadglaogdaaDoor.Pb
