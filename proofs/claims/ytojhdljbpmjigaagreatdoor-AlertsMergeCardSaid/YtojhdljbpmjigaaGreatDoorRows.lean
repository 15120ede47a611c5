/-
  NARROWER THAN 'FOR EVERY INPUT', by the rows' own cells (each row's printed sentence says how): AlertsMerge: laid.
  DERIVED. THE GIVEN ROWS OF THIS SEAT. 1 by the template 'for every input the law returns true; each argument reads behind the call as it read before'; 0 by the template 'total and deterministic' (their statements: YtojhdljbpmjigaaGreatDoorTotals.lean).
  GIVEN WITH THE SEED: the statements are not yours to turn. If you find one false, say at which input.
  Laid BY PROGRAM, IN A SANDBOX (cutbox-rows.mjs): the forced cells as the released guide's own fill.sh prints them over the translation 815f5e55283fbdef… (all of the seat's roots in one cut). By AI agents, Wed Nov 11 2026. No macro, syntax, notation, axiom, sorry.
-/
import Derived.Test.YtojhdljbpmjigaaGreatDoorChecked
import GoSem.Claim
import GoSem.ClaimJoined
import GoSem.ClaimMapViews
import Derived.JoinedTies
import Derived.KernelRfl
namespace Go.Proofs.YtojhdljbpmjigaaGreatDoor
/- THE CELL 'sum', in the pinned program and in every row, IS THE sha256 OF THE DUMP (.gsa) THAT YtojhdljbpmjigaaGreatDoorProg.lean LOADS. Nothing in Lean hashes anything: it is a label: what it is worth is what the hold of that sum in a sandbox is worth. -/
noncomputable def Tryz.pinned : Pinned := { name := "ytojhdljbpmjigaagreatdoor", sum := "815f5e55283fbdefae7ad14a69d404ee9b7e5eae768f51b6a1c8597f050fc824", checked := Tryz.checked }
namespace Rows
def none {H : Type} : Left H := { results := [], args := [] }

/- WHAT THE LISTED PACKAGE-LEVEL VARIABLES READ AS WHEN THE CALL BEGINS. Each datum BY PROGRAM (the guide's laid-datum.mjs) off the statement by which the dump's own 'gosem.cut.vars' lays the variable. In a bare row this is a premise. The card (YtojhdljbpmjigaaGreatDoorCards.lean) ties it to the program's text. -/
def laid_actorgrid_hashing_shifts {H : Type} : DataW H := .agg [.lit (.int .u64 30), .lit (.int .u64 27), .lit (.int .u64 31)]
def laid_actorgrid_hashing_factors {H : Type} : DataW H := .agg [.lit (.int .u64 13787848793156543929), .lit (.int .u64 10723151780598845931)]

/-- 'actorgridlaw6.AlertsMerge': WHATEVER THE INPUT: true; the input reads as it did. -/
def alertsMergeSpec : ChangeSpec := { name := "alertsMerge", fn := fun _ => fun
  | [d1, d2, d3, d4] => { results := [.lit (.bool true)], args := [d1, d2, d3, d4] }
  | _ => none }
def alertsMergeRow : OpenClaim := { program := "ytojhdljbpmjigaagreatdoor", sum := "815f5e55283fbdefae7ad14a69d404ee9b7e5eae768f51b6a1c8597f050fc824", func := "actorgrid/actorgridlaw6.AlertsMerge", spec := "alertsMerge", unfollowed := true, recurses := true, named := ["actorgrid/hashing.shifts", "actorgrid/hashing.factors"], apart := false, laid := [("actorgrid/hashing.shifts", laid_actorgrid_hashing_shifts), ("actorgrid/hashing.factors", laid_actorgrid_hashing_factors)] }
def AlertsMergeSaid : Prop := alertsMergeRow.holds Tryz.pinned (OpenSpec.ofChange alertsMergeSpec)

/-- ITS FALSE NEIGHBOUR: 'it returns false'. Refute it at one input. -/
def alertsMergeWrong : ChangeSpec := { name := "alertsMerge", fn := fun _ => fun
  | [d1, d2, d3, d4] => { results := [.lit (.bool false)], args := [d1, d2, d3, d4] }
  | _ => none }
def AlertsMergeWrongFalsely : Prop := alertsMergeRow.holds Tryz.pinned (OpenSpec.ofChange alertsMergeWrong)

/- THE SECOND FORM. 'bulk': how many values and letters a reading holds, each counted each time it is reached (what is shared counts as often as it is met; a slice's spare places count too). A statement '..UptoSaid' is the law's where the arguments, and the package variables that the reading takes, are together of bulk at most 1048576: NARROWER than '..Said'. Prove '..Said' where nothing that the law and all that it calls make is longer than what came in: it says more and counts as full. Else prove '..UptoSaid'. A law counts once. -/
mutual
def uptoBulk {H : Type} : DataW H → Nat
  | .lit (.string bytes) => bytes.length + 1
  | .lit _ => 1
  | .nil => 1
  | .ptr d => uptoBulk d + 1
  | .slice elems spare => uptoBulkAll elems + uptoBulkAll spare + 1
  | .agg parts => uptoBulkAll parts + 1
  | .iface _ d => uptoBulk d + 1
  | .map entries => uptoBulkEntries entries + 1
  | .held _ => 1
def uptoBulkAll {H : Type} : List (DataW H) → Nat
  | [] => 0
  | d :: r => uptoBulk d + uptoBulkAll r
def uptoBulkEntries {H : Type} : List (Lit × DataW H) → Nat
  | [] => 0
  | x :: r => uptoBulkEntry x + uptoBulkEntries r
def uptoBulkEntry {H : Type} : Lit × DataW H → Nat
  | (.string bytes, d) => bytes.length + uptoBulk d + 1
  | (_, d) => uptoBulk d + 1
 end
def uptoSmall : (H : Type) → List (DataW H) → Bool := fun _ ds => decide (uptoBulkAll ds ≤ 1048576)
def OpenSpec.upto (s : _root_.Go.ChangeSpec) : _root_.Go.OpenSpec := { _root_.Go.OpenSpec.ofChange s with cond := some uptoSmall }

/-- 'actorgridlaw6.AlertsMerge', WHERE WHAT IT READS IS OF BULK AT MOST 1048576: true; the input reads as it did. -/
def alertsMergeUptoRow : OpenClaim := { program := "ytojhdljbpmjigaagreatdoor", sum := "815f5e55283fbdefae7ad14a69d404ee9b7e5eae768f51b6a1c8597f050fc824", func := "actorgrid/actorgridlaw6.AlertsMerge", spec := "alertsMerge", unfollowed := true, recurses := true, named := ["actorgrid/hashing.shifts", "actorgrid/hashing.factors"], apart := false, laid := [("actorgrid/hashing.shifts", laid_actorgrid_hashing_shifts), ("actorgrid/hashing.factors", laid_actorgrid_hashing_factors)], narrowed := true }
def AlertsMergeUptoSaid : Prop := alertsMergeUptoRow.holds Tryz.pinned (OpenSpec.upto alertsMergeSpec)

end Rows
end Go.Proofs.YtojhdljbpmjigaaGreatDoor
