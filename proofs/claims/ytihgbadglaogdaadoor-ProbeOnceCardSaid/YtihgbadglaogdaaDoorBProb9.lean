/- Package probe: the ones of a word. -/
import Derived.Test.YtihgbadglaogdaaDoorBProb1
import Derived.BigQuiet
import Derived.Lib.BitFns
namespace Go.Proofs.YtihgbadglaogdaaDoor.Pb
set_option linter.unusedVariables false
open Go.RowKit
open Go.Proofs.YtihgbadglaogdaaDoor.W
open Go.Proofs.YtihgbadglaogdaaDoor.V
open Go.Proofs.YtihgbadglaogdaaDoor.O
/-- bits.OnesCount32 as it stands in the program, the table by its name. -/
def onesF : Func := { name := "math/bits.OnesCount32", origin := "", params := #[22], resultTypes := #[3], nfree := 0, ntmps := 21, results := #[ResultVar.tmp 2], body := some ((Code.region 0 #[{ dst := some 2, op := Op.assign (Operand.const (Value.int IntKind.i64 0)), type := 3, pos := "bits.go:135", after := #[], guard := none }] false).seq ((Code.region 1 #[{ dst := some 3, op := Op.move (Operand.tmp 0), type := 22, pos := "bits.go:136", after := #[], guard := none }, { dst := some 4, op := Op.binOp BinOp.shr 22 (Operand.tmp 3) (Operand.const (Value.int IntKind.u64 24)) 59, type := 22, pos := "bits.go:136", after := #[{ on := 0, ground := Ground.data }], guard := none }, { dst := some 5, op := Op.index 9 (Operand.const (Value.string Go.Lib.pop8tab)) (Operand.tmp 4), type := 5, pos := "bits.go:136", after := #[{ on := 1, ground := Ground.data }], guard := none }, { dst := some 6, op := Op.move (Operand.tmp 0), type := 22, pos := "bits.go:136", after := #[], guard := none }, { dst := some 7, op := Op.binOp BinOp.shr 22 (Operand.tmp 6) (Operand.const (Value.int IntKind.u64 16)) 59, type := 22, pos := "bits.go:136", after := #[{ on := 3, ground := Ground.data }], guard := none }, { dst := some 8, op := Op.binOp BinOp.and 22 (Operand.tmp 7) (Operand.const (Value.int IntKind.u32 255)) 22, type := 22, pos := "bits.go:136", after := #[{ on := 4, ground := Ground.data }], guard := none }, { dst := some 9, op := Op.index 9 (Operand.const (Value.string Go.Lib.pop8tab)) (Operand.tmp 8), type := 5, pos := "bits.go:136", after := #[{ on := 5, ground := Ground.data }], guard := none }, { dst := some 10, op := Op.binOp BinOp.add 5 (Operand.tmp 5) (Operand.tmp 9) 5, type := 5, pos := "bits.go:136", after := #[{ on := 2, ground := Ground.data }, { on := 6, ground := Ground.data }], guard := none }, { dst := some 11, op := Op.move (Operand.tmp 0), type := 22, pos := "bits.go:136", after := #[], guard := none }, { dst := some 12, op := Op.binOp BinOp.shr 22 (Operand.tmp 11) (Operand.const (Value.int IntKind.u64 8)) 59, type := 22, pos := "bits.go:136", after := #[{ on := 8, ground := Ground.data }], guard := none }, { dst := some 13, op := Op.binOp BinOp.and 22 (Operand.tmp 12) (Operand.const (Value.int IntKind.u32 255)) 22, type := 22, pos := "bits.go:136", after := #[{ on := 9, ground := Ground.data }], guard := none }, { dst := some 14, op := Op.index 9 (Operand.const (Value.string Go.Lib.pop8tab)) (Operand.tmp 13), type := 5, pos := "bits.go:136", after := #[{ on := 10, ground := Ground.data }], guard := none }, { dst := some 15, op := Op.binOp BinOp.add 5 (Operand.tmp 10) (Operand.tmp 14) 5, type := 5, pos := "bits.go:136", after := #[{ on := 7, ground := Ground.data }, { on := 11, ground := Ground.data }], guard := none }, { dst := some 16, op := Op.move (Operand.tmp 0), type := 22, pos := "bits.go:136", after := #[], guard := none }, { dst := some 17, op := Op.binOp BinOp.and 22 (Operand.tmp 16) (Operand.const (Value.int IntKind.u32 255)) 22, type := 22, pos := "bits.go:136", after := #[{ on := 13, ground := Ground.data }], guard := none }, { dst := some 18, op := Op.index 9 (Operand.const (Value.string Go.Lib.pop8tab)) (Operand.tmp 17), type := 5, pos := "bits.go:136", after := #[{ on := 14, ground := Ground.data }], guard := none }, { dst := some 19, op := Op.binOp BinOp.add 5 (Operand.tmp 15) (Operand.tmp 18) 5, type := 5, pos := "bits.go:136", after := #[{ on := 12, ground := Ground.data }, { on := 15, ground := Ground.data }], guard := none }, { dst := some 20, op := Op.convert 5 3 (Operand.tmp 19), type := 3, pos := "bits.go:136", after := #[{ on := 16, ground := Ground.data }], guard := none }, { dst := some 2, op := Op.assign (Operand.tmp 20), type := 3, pos := "bits.go:136", after := #[{ on := 17, ground := Ground.data }, { on := 0, ground := Ground.phase }, { on := 1, ground := Ground.phase }, { on := 2, ground := Ground.phase }, { on := 3, ground := Ground.phase }, { on := 4, ground := Ground.phase }, { on := 5, ground := Ground.phase }, { on := 6, ground := Ground.phase }, { on := 7, ground := Ground.phase }, { on := 8, ground := Ground.phase }, { on := 9, ground := Ground.phase }, { on := 10, ground := Ground.phase }, { on := 11, ground := Ground.phase }, { on := 12, ground := Ground.phase }, { on := 13, ground := Ground.phase }, { on := 14, ground := Ground.phase }, { on := 15, ground := Ground.phase }, { on := 16, ground := Ground.phase }, { on := 17, ground := Ground.phase }], guard := none }] true).seq Code.ret)), norace := false, file := "math/bits/bits.go", endLine := 137, tmpNames := #["x", "x", "", "", "", "", "", "", "", "", "", "", "", "", "", "", "", "", "", "", ""] }
theorem onesF_is : Tryd.prog.funcs[29]? = some onesF := Tryd.func29.trans (congrArg some (by kernel_rfl))
theorem onesF_n : onesF.ntmps = 21 := rfl
theorem pops_at : ∀ hi : Fin 4, ∀ lo : Fin 256, Lib.pop8 0 + Lib.pop8 0 + Lib.pop8 (hi.val : Int) + Lib.pop8 (lo.val : Int) = (ones (hi.val * 256 + lo.val) 10 : Int) ∧ ones (hi.val * 256 + lo.val) 10 ≤ 10 := by decide +kernel
set_option maxRecDepth 1000000 in
set_option maxHeartbeats 2000000 in
theorem ones_any (b : Nat) (w : World) (hb : b < 1024) :
    Calls Tryd.prog 29 #[.int .u32 (b : Int)] w (PI w (ones b 10 : Nat)) := by
  obtain ⟨hi, hhi⟩ : ∃ hi, hi = b / 256 := ⟨_, rfl⟩
  obtain ⟨lo, hlo⟩ : ∃ lo, lo = b % 256 := ⟨_, rfl⟩
  have e1 : (b : Int) / 16777216 = 0 := by omega
  have e2 : (b : Int) / 65536 = 0 := by omega
  have e3 : (b : Int) / 256 = (hi : Int) := by omega
  have hi4 : hi < 4 := by omega
  have lo256 : lo < 256 := by omega
  have a0 : bits .and .u32 0 255 = 0 := by decide
  have a1 : bits .and .u32 (hi : Int) 255 = (hi : Int) := by
    have h := bits_mask .u32 32 (by decide) wraps_u32 8 (by decide) (hi : Int) (by omega) (by omega)
    rw [show ((2 : Int) ^ 8 - 1) = 255 by decide] at h
    rw [h]; omega
  have a2 : bits .and .u32 (b : Int) 255 = (lo : Int) := by
    have h := bits_mask .u32 32 (by decide) wraps_u32 8 (by decide) (b : Int) (by omega) (by omega)
    rw [show ((2 : Int) ^ 8 - 1) = 255 by decide] at h
    rw [h]; omega
  have hp := pops_at ⟨hi, hi4⟩ ⟨lo, lo256⟩
  have eb : hi * 256 + lo = b := by omega
  simp only [eb] at hp
  have HP := Lib.hid hp
  have h1 : (hi : Int) ≤ 255 := by omega
  have h2 : (lo : Int) ≤ 255 := by omega
  clear hhi hlo eb hp
  generalize ones b 10 = n at *
  go_enter onesF_is, onesF_n
  go_wp2_with fail
  go_quiet (fail)
  go_wp2_with fail
  go_ret
  have e : (Lib.pop8 0 + Lib.pop8 0 + Lib.pop8 (hi : Int) + Lib.pop8 (lo : Int)) % 256 = (n : Int) := by
    rw [HP.out.1]
    have := HP.out.2
    omega
  exact ⟨by rw [e]; rfl, below_drewN' (Below.refl _ _) _⟩

set_option maxRecDepth 1000000 in
set_option maxHeartbeats 2000000 in
theorem probeFailing_any (b : Nat) (c : Int) (w : World) (hb : b < 4294967296) (hc : In64 c) : Calls Tryd.prog 14 #[winV b c] w (PB w (failW b c)) := by
  have KV := Lib.hid (fun W => probeOkWin_any b c W hb hc)
  obtain ⟨n0, n1⟩ := hc
  have HT := Lib.hid (show failW b c = (okWin b c && (decide (c = 10) && decide (4 ≤ ones b 10))) from rfl)
  have hb0 := (Below.refl w.heap.size w).alloc (Nat.le_refl _) (.cells #[.int .u32 (b : Int), .int .i64 c] 24)
  have HB0 := Lib.hid hb0
  have hz := Blk.new w 24 #[.int .u32 (b : Int), .int .i64 c]
  have HZ := Lib.hid (fun W (hW : Below (w.alloc (.cells #[.int .u32 (b : Int), .int .i64 c] 24)).heap.size (w.alloc (.cells #[.int .u32 (b : Int), .int .i64 c] 24)) W) => blk2 (hz.below hW hz.lt))
  have KO := Lib.hid (fun W (h : b < 1024) => ones_any b W h)
  have HL := Lib.hid (fun (h : okWin b c = true) => okWin_lt h)
  generalize failW b c = t at *
  generalize hn : ones b 10 = n at *
  clear hn
  generalize hok : okWin b c = ok at *
  clear hok hz hb0
  unfold winV at *
  cases ok
  · have ht := Lib.hid (show t = false by rw [HT.out]; rfl)
    go_enter Tryd.func14, Tryd.ntmps14
    go_wp2_with (go_at_call 10; (with_reducible refine (KV.out _).mono ?_); rintro e w1 ⟨rfl, b1⟩; obtain ⟨q0, q1⟩ := HZ.out _ b1)
    go_ret
    exact ⟨by rw [ht.out]; rfl, HB0.out.trans (b1.mono HB0.out.size)⟩
  have h10 := HL.out rfl
  have KN := Lib.hid (fun W => KO.out W h10)
  by_cases hc : c = 10
  case neg =>
    have ht := Lib.hid (show t = false by rw [HT.out]; simp [hc])
    have e0 : (c == 10) = false := beqF hc
    clear hc KO HL
    go_enter Tryd.func14, Tryd.ntmps14
    go_wp2_with (go_at_call 10; (with_reducible refine (KV.out _).mono ?_); rintro e w1 ⟨rfl, b1⟩; obtain ⟨q0, q1⟩ := HZ.out _ b1)
    go_ret
    exact ⟨by rw [ht.out]; rfl, HB0.out.trans (b1.mono HB0.out.size)⟩
  subst hc
  by_cases h4 : 4 ≤ n
  · have ht := Lib.hid (show t = true by rw [HT.out]; simp [h4])
    have h4' : (4 : Int) ≤ (n : Int) := by omega
    clear KO HL
    go_enter Tryd.func14, Tryd.ntmps14
    go_wp2_with (first
      | (go_at_call 10; (with_reducible refine (KV.out _).mono ?_); rintro e w1 ⟨rfl, b1⟩; obtain ⟨q0, q1⟩ := HZ.out _ b1)
      | (go_at_call 29; (with_reducible refine (KN.out _).mono ?_); rintro e w2 ⟨rfl, b2⟩)
      | fail)
    go_ret
    exact ⟨by rw [ht.out]; rfl, HB0.out.trans ((b1.trans (b2.mono b1.size)).mono HB0.out.size)⟩
  · have ht := Lib.hid (show t = false by rw [HT.out]; simp [h4])
    have h4' : ¬ (4 : Int) ≤ (n : Int) := by omega
    clear KO HL
    go_enter Tryd.func14, Tryd.ntmps14
    go_wp2_with (first
      | (go_at_call 10; (with_reducible refine (KV.out _).mono ?_); rintro e w1 ⟨rfl, b1⟩; obtain ⟨q0, q1⟩ := HZ.out _ b1)
      | (go_at_call 29; (with_reducible refine (KN.out _).mono ?_); rintro e w2 ⟨rfl, b2⟩)
      | fail)
    go_ret
    have e4 : decide (4 ≤ (n : Int)) = t := by rw [ht.out]; simp; omega
    exact ⟨by rw [← e4]; rfl, HB0.out.trans ((b1.trans (b2.mono b1.size)).mono HB0.out.size)⟩
end Go.Proofs.YtihgbadglaogdaaDoor.Pb
