/-
  NARROWER THAN 'FOR EVERY INPUT', by the rows' own cells (each row's printed sentence says how): CutTells: laid · CutHolds: laid · CutCrash: laid · CutNoise: laid · CutFull: laid · CutGrows: laid.
  DERIVED. THE GIVEN ROWS OF THIS SEAT. 6 by the template 'for every input the law returns true; each argument reads behind the call as it read before'; 0 by the template 'total and deterministic' (their statements: YtipipjbpjpdcbaaDoorTotals.lean).
  GIVEN WITH THE SEED: the statements are not yours to turn. If you find one false, say at which input.
  Laid BY PROGRAM, IN A SANDBOX (cutbox-rows.mjs): the forced cells as the released guide's own fill.sh prints them over the translation b2e161b38886d872… (all of the seat's roots in one cut). By AI agents, Wed Nov 11 2026. No macro, syntax, notation, axiom, sorry.
-/
import Derived.Test.YtipipjbpjpdcbaaDoorChecked
import GoSem.Claim
import GoSem.ClaimJoined
import GoSem.ClaimMapViews
import Derived.JoinedTies
import Derived.KernelRfl
namespace Go.Proofs.YtipipjbpjpdcbaaDoor
/- THE CELL 'sum', in the pinned program and in every row, IS THE sha256 OF THE DUMP (.gsa) THAT YtipipjbpjpdcbaaDoorProg.lean LOADS. Nothing in Lean hashes anything: it is a label: what it is worth is what the hold of that sum in a sandbox is worth. -/
noncomputable def Tryd.pinned : Pinned := { name := "ytipipjbpjpdcbaadoor", sum := "b2e161b38886d872b8c78d4907a9241737c16e5fccf530962e778e905ee38d23", checked := Tryd.checked }
namespace Rows
def none {H : Type} : Left H := { results := [], args := [] }

/- WHAT THE LISTED PACKAGE-LEVEL VARIABLES READ AS WHEN THE CALL BEGINS. Each datum BY PROGRAM (the guide's laid-datum.mjs) off the statement by which the dump's own 'gosem.cut.vars' lays the variable. In a bare row this is a premise. The card (YtipipjbpjpdcbaaDoorCards.lean) ties it to the program's text. -/
def laid_actorgrid_hashing_shifts {H : Type} : DataW H := .agg [.lit (.int .u64 30), .lit (.int .u64 27), .lit (.int .u64 31)]
def laid_actorgrid_hashing_factors {H : Type} : DataW H := .agg [.lit (.int .u64 13787848793156543929), .lit (.int .u64 10723151780598845931)]

/-- 'actorgridlaw7.CutTells': WHATEVER THE INPUT: true; the input reads as it did. -/
def cutTellsSpec : ChangeSpec := { name := "cutTells", fn := fun _ => fun
  | [d1, d2] => { results := [.lit (.bool true)], args := [d1, d2] }
  | _ => none }
def cutTellsRow : OpenClaim := { program := "ytipipjbpjpdcbaadoor", sum := "b2e161b38886d872b8c78d4907a9241737c16e5fccf530962e778e905ee38d23", func := "actorgrid/actorgridlaw7.CutTells", spec := "cutTells", unfollowed := true, recurses := true, named := ["actorgrid/hashing.shifts", "actorgrid/hashing.factors"], apart := false, laid := [("actorgrid/hashing.shifts", laid_actorgrid_hashing_shifts), ("actorgrid/hashing.factors", laid_actorgrid_hashing_factors)] }
def CutTellsSaid : Prop := cutTellsRow.holds Tryd.pinned (OpenSpec.ofChange cutTellsSpec)

/-- ITS FALSE NEIGHBOUR: 'it returns false'. Refute it at one input. -/
def cutTellsWrong : ChangeSpec := { name := "cutTells", fn := fun _ => fun
  | [d1, d2] => { results := [.lit (.bool false)], args := [d1, d2] }
  | _ => none }
def CutTellsWrongFalsely : Prop := cutTellsRow.holds Tryd.pinned (OpenSpec.ofChange cutTellsWrong)

/-- 'actorgridlaw7.CutHolds': WHATEVER THE INPUT: true; the input reads as it did. -/
def cutHoldsSpec : ChangeSpec := { name := "cutHolds", fn := fun _ => fun
  | [d1, d2] => { results := [.lit (.bool true)], args := [d1, d2] }
  | _ => none }
def cutHoldsRow : OpenClaim := { program := "ytipipjbpjpdcbaadoor", sum := "b2e161b38886d872b8c78d4907a9241737c16e5fccf530962e778e905ee38d23", func := "actorgrid/actorgridlaw7.CutHolds", spec := "cutHolds", unfollowed := true, recurses := true, named := ["actorgrid/hashing.shifts", "actorgrid/hashing.factors"], apart := false, laid := [("actorgrid/hashing.shifts", laid_actorgrid_hashing_shifts), ("actorgrid/hashing.factors", laid_actorgrid_hashing_factors)] }
def CutHoldsSaid : Prop := cutHoldsRow.holds Tryd.pinned (OpenSpec.ofChange cutHoldsSpec)

/-- ITS FALSE NEIGHBOUR: 'it returns false'. Refute it at one input. -/
def cutHoldsWrong : ChangeSpec := { name := "cutHolds", fn := fun _ => fun
  | [d1, d2] => { results := [.lit (.bool false)], args := [d1, d2] }
  | _ => none }
def CutHoldsWrongFalsely : Prop := cutHoldsRow.holds Tryd.pinned (OpenSpec.ofChange cutHoldsWrong)

/-- 'actorgridlaw7.CutCrash': WHATEVER THE INPUT: true; the input reads as it did. -/
def cutCrashSpec : ChangeSpec := { name := "cutCrash", fn := fun _ => fun
  | [d1, d2] => { results := [.lit (.bool true)], args := [d1, d2] }
  | _ => none }
def cutCrashRow : OpenClaim := { program := "ytipipjbpjpdcbaadoor", sum := "b2e161b38886d872b8c78d4907a9241737c16e5fccf530962e778e905ee38d23", func := "actorgrid/actorgridlaw7.CutCrash", spec := "cutCrash", unfollowed := true, recurses := true, named := ["actorgrid/hashing.shifts", "actorgrid/hashing.factors"], apart := false, laid := [("actorgrid/hashing.shifts", laid_actorgrid_hashing_shifts), ("actorgrid/hashing.factors", laid_actorgrid_hashing_factors)] }
def CutCrashSaid : Prop := cutCrashRow.holds Tryd.pinned (OpenSpec.ofChange cutCrashSpec)

/-- ITS FALSE NEIGHBOUR: 'it returns false'. Refute it at one input. -/
def cutCrashWrong : ChangeSpec := { name := "cutCrash", fn := fun _ => fun
  | [d1, d2] => { results := [.lit (.bool false)], args := [d1, d2] }
  | _ => none }
def CutCrashWrongFalsely : Prop := cutCrashRow.holds Tryd.pinned (OpenSpec.ofChange cutCrashWrong)

/-- 'actorgridlaw7.CutNoise': WHATEVER THE INPUT: true; the input reads as it did. -/
def cutNoiseSpec : ChangeSpec := { name := "cutNoise", fn := fun _ => fun
  | [d1, d2, d3] => { results := [.lit (.bool true)], args := [d1, d2, d3] }
  | _ => none }
def cutNoiseRow : OpenClaim := { program := "ytipipjbpjpdcbaadoor", sum := "b2e161b38886d872b8c78d4907a9241737c16e5fccf530962e778e905ee38d23", func := "actorgrid/actorgridlaw7.CutNoise", spec := "cutNoise", unfollowed := true, recurses := true, named := ["actorgrid/hashing.shifts", "actorgrid/hashing.factors"], apart := false, laid := [("actorgrid/hashing.shifts", laid_actorgrid_hashing_shifts), ("actorgrid/hashing.factors", laid_actorgrid_hashing_factors)] }
def CutNoiseSaid : Prop := cutNoiseRow.holds Tryd.pinned (OpenSpec.ofChange cutNoiseSpec)

/-- ITS FALSE NEIGHBOUR: 'it returns false'. Refute it at one input. -/
def cutNoiseWrong : ChangeSpec := { name := "cutNoise", fn := fun _ => fun
  | [d1, d2, d3] => { results := [.lit (.bool false)], args := [d1, d2, d3] }
  | _ => none }
def CutNoiseWrongFalsely : Prop := cutNoiseRow.holds Tryd.pinned (OpenSpec.ofChange cutNoiseWrong)

/-- 'actorgridlaw7.CutFull': WHATEVER THE INPUT: true; the input reads as it did. -/
def cutFullSpec : ChangeSpec := { name := "cutFull", fn := fun _ => fun
  | [d1, d2] => { results := [.lit (.bool true)], args := [d1, d2] }
  | _ => none }
def cutFullRow : OpenClaim := { program := "ytipipjbpjpdcbaadoor", sum := "b2e161b38886d872b8c78d4907a9241737c16e5fccf530962e778e905ee38d23", func := "actorgrid/actorgridlaw7.CutFull", spec := "cutFull", unfollowed := true, recurses := true, named := ["actorgrid/hashing.shifts", "actorgrid/hashing.factors"], apart := false, laid := [("actorgrid/hashing.shifts", laid_actorgrid_hashing_shifts), ("actorgrid/hashing.factors", laid_actorgrid_hashing_factors)] }
def CutFullSaid : Prop := cutFullRow.holds Tryd.pinned (OpenSpec.ofChange cutFullSpec)

/-- ITS FALSE NEIGHBOUR: 'it returns false'. Refute it at one input. -/
def cutFullWrong : ChangeSpec := { name := "cutFull", fn := fun _ => fun
  | [d1, d2] => { results := [.lit (.bool false)], args := [d1, d2] }
  | _ => none }
def CutFullWrongFalsely : Prop := cutFullRow.holds Tryd.pinned (OpenSpec.ofChange cutFullWrong)

/-- 'actorgridlaw7.CutGrows': WHATEVER THE INPUT: true; the input reads as it did. -/
def cutGrowsSpec : ChangeSpec := { name := "cutGrows", fn := fun _ => fun
  | [d1, d2, d3] => { results := [.lit (.bool true)], args := [d1, d2, d3] }
  | _ => none }
def cutGrowsRow : OpenClaim := { program := "ytipipjbpjpdcbaadoor", sum := "b2e161b38886d872b8c78d4907a9241737c16e5fccf530962e778e905ee38d23", func := "actorgrid/actorgridlaw7.CutGrows", spec := "cutGrows", unfollowed := true, recurses := true, named := ["actorgrid/hashing.shifts", "actorgrid/hashing.factors"], apart := false, laid := [("actorgrid/hashing.shifts", laid_actorgrid_hashing_shifts), ("actorgrid/hashing.factors", laid_actorgrid_hashing_factors)] }
def CutGrowsSaid : Prop := cutGrowsRow.holds Tryd.pinned (OpenSpec.ofChange cutGrowsSpec)

/-- ITS FALSE NEIGHBOUR: 'it returns false'. Refute it at one input. -/
def cutGrowsWrong : ChangeSpec := { name := "cutGrows", fn := fun _ => fun
  | [d1, d2, d3] => { results := [.lit (.bool false)], args := [d1, d2, d3] }
  | _ => none }
def CutGrowsWrongFalsely : Prop := cutGrowsRow.holds Tryd.pinned (OpenSpec.ofChange cutGrowsWrong)

/- THE SECOND FORM. 'bulk': how many values and letters a reading holds, each counted each time it is reached (what is shared counts as often as it is met; a slice's spare places count too). A statement '..UptoSaid' is the law's where the arguments, and the package variables that the reading takes, are together of bulk at most 1048576: NARROWER than '..Said'. Prove '..Said' where nothing that the law and all that it calls make is longer than what came in: it says more and counts as full. Else prove '..UptoSaid'. A law counts once. -/
mutual
def uptoBulk {H : Type} : DataW H → Nat
  | .lit (.string bytes) => bytes.length + 1
  | .lit _ => 1
  | .nil => 1
  | .ptr d => uptoBulk d + 1
  | .slice elems spare => uptoBulkAll elems + uptoBulkAll spare + 1
  | .agg parts => uptoBulkAll parts + 1
  | .iface _ d => uptoBulk d + 1
  | .map entries => uptoBulkEntries entries + 1
  | .held _ => 1
def uptoBulkAll {H : Type} : List (DataW H) → Nat
  | [] => 0
  | d :: r => uptoBulk d + uptoBulkAll r
def uptoBulkEntries {H : Type} : List (Lit × DataW H) → Nat
  | [] => 0
  | x :: r => uptoBulkEntry x + uptoBulkEntries r
def uptoBulkEntry {H : Type} : Lit × DataW H → Nat
  | (.string bytes, d) => bytes.length + uptoBulk d + 1
  | (_, d) => uptoBulk d + 1
 end
def uptoSmall : (H : Type) → List (DataW H) → Bool := fun _ ds => decide (uptoBulkAll ds ≤ 1048576)
def OpenSpec.upto (s : _root_.Go.ChangeSpec) : _root_.Go.OpenSpec := { _root_.Go.OpenSpec.ofChange s with cond := some uptoSmall }

/-- 'actorgridlaw7.CutTells', WHERE WHAT IT READS IS OF BULK AT MOST 1048576: true; the input reads as it did. -/
def cutTellsUptoRow : OpenClaim := { program := "ytipipjbpjpdcbaadoor", sum := "b2e161b38886d872b8c78d4907a9241737c16e5fccf530962e778e905ee38d23", func := "actorgrid/actorgridlaw7.CutTells", spec := "cutTells", unfollowed := true, recurses := true, named := ["actorgrid/hashing.shifts", "actorgrid/hashing.factors"], apart := false, laid := [("actorgrid/hashing.shifts", laid_actorgrid_hashing_shifts), ("actorgrid/hashing.factors", laid_actorgrid_hashing_factors)], narrowed := true }
def CutTellsUptoSaid : Prop := cutTellsUptoRow.holds Tryd.pinned (OpenSpec.upto cutTellsSpec)

/-- 'actorgridlaw7.CutHolds', WHERE WHAT IT READS IS OF BULK AT MOST 1048576: true; the input reads as it did. -/
def cutHoldsUptoRow : OpenClaim := { program := "ytipipjbpjpdcbaadoor", sum := "b2e161b38886d872b8c78d4907a9241737c16e5fccf530962e778e905ee38d23", func := "actorgrid/actorgridlaw7.CutHolds", spec := "cutHolds", unfollowed := true, recurses := true, named := ["actorgrid/hashing.shifts", "actorgrid/hashing.factors"], apart := false, laid := [("actorgrid/hashing.shifts", laid_actorgrid_hashing_shifts), ("actorgrid/hashing.factors", laid_actorgrid_hashing_factors)], narrowed := true }
def CutHoldsUptoSaid : Prop := cutHoldsUptoRow.holds Tryd.pinned (OpenSpec.upto cutHoldsSpec)

/-- 'actorgridlaw7.CutCrash', WHERE WHAT IT READS IS OF BULK AT MOST 1048576: true; the input reads as it did. -/
def cutCrashUptoRow : OpenClaim := { program := "ytipipjbpjpdcbaadoor", sum := "b2e161b38886d872b8c78d4907a9241737c16e5fccf530962e778e905ee38d23", func := "actorgrid/actorgridlaw7.CutCrash", spec := "cutCrash", unfollowed := true, recurses := true, named := ["actorgrid/hashing.shifts", "actorgrid/hashing.factors"], apart := false, laid := [("actorgrid/hashing.shifts", laid_actorgrid_hashing_shifts), ("actorgrid/hashing.factors", laid_actorgrid_hashing_factors)], narrowed := true }
def CutCrashUptoSaid : Prop := cutCrashUptoRow.holds Tryd.pinned (OpenSpec.upto cutCrashSpec)

/-- 'actorgridlaw7.CutNoise', WHERE WHAT IT READS IS OF BULK AT MOST 1048576: true; the input reads as it did. -/
def cutNoiseUptoRow : OpenClaim := { program := "ytipipjbpjpdcbaadoor", sum := "b2e161b38886d872b8c78d4907a9241737c16e5fccf530962e778e905ee38d23", func := "actorgrid/actorgridlaw7.CutNoise", spec := "cutNoise", unfollowed := true, recurses := true, named := ["actorgrid/hashing.shifts", "actorgrid/hashing.factors"], apart := false, laid := [("actorgrid/hashing.shifts", laid_actorgrid_hashing_shifts), ("actorgrid/hashing.factors", laid_actorgrid_hashing_factors)], narrowed := true }
def CutNoiseUptoSaid : Prop := cutNoiseUptoRow.holds Tryd.pinned (OpenSpec.upto cutNoiseSpec)

/-- 'actorgridlaw7.CutFull', WHERE WHAT IT READS IS OF BULK AT MOST 1048576: true; the input reads as it did. -/
def cutFullUptoRow : OpenClaim := { program := "ytipipjbpjpdcbaadoor", sum := "b2e161b38886d872b8c78d4907a9241737c16e5fccf530962e778e905ee38d23", func := "actorgrid/actorgridlaw7.CutFull", spec := "cutFull", unfollowed := true, recurses := true, named := ["actorgrid/hashing.shifts", "actorgrid/hashing.factors"], apart := false, laid := [("actorgrid/hashing.shifts", laid_actorgrid_hashing_shifts), ("actorgrid/hashing.factors", laid_actorgrid_hashing_factors)], narrowed := true }
def CutFullUptoSaid : Prop := cutFullUptoRow.holds Tryd.pinned (OpenSpec.upto cutFullSpec)

/-- 'actorgridlaw7.CutGrows', WHERE WHAT IT READS IS OF BULK AT MOST 1048576: true; the input reads as it did. -/
def cutGrowsUptoRow : OpenClaim := { program := "ytipipjbpjpdcbaadoor", sum := "b2e161b38886d872b8c78d4907a9241737c16e5fccf530962e778e905ee38d23", func := "actorgrid/actorgridlaw7.CutGrows", spec := "cutGrows", unfollowed := true, recurses := true, named := ["actorgrid/hashing.shifts", "actorgrid/hashing.factors"], apart := false, laid := [("actorgrid/hashing.shifts", laid_actorgrid_hashing_shifts), ("actorgrid/hashing.factors", laid_actorgrid_hashing_factors)], narrowed := true }
def CutGrowsUptoSaid : Prop := cutGrowsUptoRow.holds Tryd.pinned (OpenSpec.upto cutGrowsSpec)

end Rows
end Go.Proofs.YtipipjbpjpdcbaaDoor
