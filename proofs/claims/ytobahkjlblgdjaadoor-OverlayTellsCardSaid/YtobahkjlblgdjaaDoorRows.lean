/-
  NARROWER THAN 'FOR EVERY INPUT', by the rows' own cells (each row's printed sentence says how): OverlayTells: laid · OverlayCircle: laid · OverlayDegree: laid · OverlayRemoval: laid · OverlayJoin: laid · OverlayNeighbours: laid.
  DERIVED. THE GIVEN ROWS OF THIS SEAT. 6 by the template 'for every input the law returns true; each argument reads behind the call as it read before'; 0 by the template 'total and deterministic' (their statements: YtobahkjlblgdjaaDoorTotals.lean).
  GIVEN WITH THE SEED: the statements are not yours to turn. If you find one false, say at which input.
  Laid BY PROGRAM, IN A SANDBOX (cutbox-rows.mjs): the forced cells as the released guide's own fill.sh prints them over the translation 3cd81f22e16dc48c… (all of the seat's roots in one cut). By AI agents, Wed Nov 11 2026. No macro, syntax, notation, axiom, sorry.
-/
import Derived.Test.YtobahkjlblgdjaaDoorChecked
import GoSem.Claim
import GoSem.ClaimJoined
import GoSem.ClaimMapViews
import Derived.JoinedTies
import Derived.KernelRfl
namespace Go.Proofs.YtobahkjlblgdjaaDoor
/- THE CELL 'sum', in the pinned program and in every row, IS THE sha256 OF THE DUMP (.gsa) THAT YtobahkjlblgdjaaDoorProg.lean LOADS. Nothing in Lean hashes anything: it is a label: what it is worth is what the hold of that sum in a sandbox is worth. -/
noncomputable def Tryd.pinned : Pinned := { name := "ytobahkjlblgdjaadoor", sum := "3cd81f22e16dc48c214418bdd2cf370aeaf090188b7c22a2ce4bae5ca3785286", checked := Tryd.checked }
namespace Rows
def none {H : Type} : Left H := { results := [], args := [] }

/- WHAT THE LISTED PACKAGE-LEVEL VARIABLES READ AS WHEN THE CALL BEGINS. Each datum BY PROGRAM (the guide's laid-datum.mjs) off the statement by which the dump's own 'gosem.cut.vars' lays the variable. In a bare row this is a premise. The card (YtobahkjlblgdjaaDoorCards.lean) ties it to the program's text. -/
def laid_actorgrid_hashing_shifts {H : Type} : DataW H := .agg [.lit (.int .u64 30), .lit (.int .u64 27), .lit (.int .u64 31)]
def laid_actorgrid_hashing_factors {H : Type} : DataW H := .agg [.lit (.int .u64 13787848793156543929), .lit (.int .u64 10723151780598845931)]

/-- 'actorgridlaw4.OverlayTells': WHATEVER THE INPUT: true; the input reads as it did. -/
def overlayTellsSpec : ChangeSpec := { name := "overlayTells", fn := fun _ => fun
  | [d1, d2, d3, d4] => { results := [.lit (.bool true)], args := [d1, d2, d3, d4] }
  | _ => none }
def overlayTellsRow : OpenClaim := { program := "ytobahkjlblgdjaadoor", sum := "3cd81f22e16dc48c214418bdd2cf370aeaf090188b7c22a2ce4bae5ca3785286", func := "actorgrid/actorgridlaw4.OverlayTells", spec := "overlayTells", unfollowed := true, recurses := true, named := ["actorgrid/hashing.shifts", "actorgrid/hashing.factors"], apart := false, laid := [("actorgrid/hashing.shifts", laid_actorgrid_hashing_shifts), ("actorgrid/hashing.factors", laid_actorgrid_hashing_factors)] }
def OverlayTellsSaid : Prop := overlayTellsRow.holds Tryd.pinned (OpenSpec.ofChange overlayTellsSpec)

/-- ITS FALSE NEIGHBOUR: 'it returns false'. Refute it at one input. -/
def overlayTellsWrong : ChangeSpec := { name := "overlayTells", fn := fun _ => fun
  | [d1, d2, d3, d4] => { results := [.lit (.bool false)], args := [d1, d2, d3, d4] }
  | _ => none }
def OverlayTellsWrongFalsely : Prop := overlayTellsRow.holds Tryd.pinned (OpenSpec.ofChange overlayTellsWrong)

/-- 'actorgridlaw4.OverlayCircle': WHATEVER THE INPUT: true; the input reads as it did. -/
def overlayCircleSpec : ChangeSpec := { name := "overlayCircle", fn := fun _ => fun
  | [d1, d2] => { results := [.lit (.bool true)], args := [d1, d2] }
  | _ => none }
def overlayCircleRow : OpenClaim := { program := "ytobahkjlblgdjaadoor", sum := "3cd81f22e16dc48c214418bdd2cf370aeaf090188b7c22a2ce4bae5ca3785286", func := "actorgrid/actorgridlaw4.OverlayCircle", spec := "overlayCircle", unfollowed := true, recurses := true, named := ["actorgrid/hashing.shifts", "actorgrid/hashing.factors"], apart := false, laid := [("actorgrid/hashing.shifts", laid_actorgrid_hashing_shifts), ("actorgrid/hashing.factors", laid_actorgrid_hashing_factors)] }
def OverlayCircleSaid : Prop := overlayCircleRow.holds Tryd.pinned (OpenSpec.ofChange overlayCircleSpec)

/-- ITS FALSE NEIGHBOUR: 'it returns false'. Refute it at one input. -/
def overlayCircleWrong : ChangeSpec := { name := "overlayCircle", fn := fun _ => fun
  | [d1, d2] => { results := [.lit (.bool false)], args := [d1, d2] }
  | _ => none }
def OverlayCircleWrongFalsely : Prop := overlayCircleRow.holds Tryd.pinned (OpenSpec.ofChange overlayCircleWrong)

/-- 'actorgridlaw4.OverlayDegree': WHATEVER THE INPUT: true; the input reads as it did. -/
def overlayDegreeSpec : ChangeSpec := { name := "overlayDegree", fn := fun _ => fun
  | [d] => { results := [.lit (.bool true)], args := [d] }
  | _ => none }
def overlayDegreeRow : OpenClaim := { program := "ytobahkjlblgdjaadoor", sum := "3cd81f22e16dc48c214418bdd2cf370aeaf090188b7c22a2ce4bae5ca3785286", func := "actorgrid/actorgridlaw4.OverlayDegree", spec := "overlayDegree", unfollowed := true, recurses := true, named := ["actorgrid/hashing.shifts", "actorgrid/hashing.factors"], apart := false, laid := [("actorgrid/hashing.shifts", laid_actorgrid_hashing_shifts), ("actorgrid/hashing.factors", laid_actorgrid_hashing_factors)] }
def OverlayDegreeSaid : Prop := overlayDegreeRow.holds Tryd.pinned (OpenSpec.ofChange overlayDegreeSpec)

/-- ITS FALSE NEIGHBOUR: 'it returns false'. Refute it at one input. -/
def overlayDegreeWrong : ChangeSpec := { name := "overlayDegree", fn := fun _ => fun
  | [d] => { results := [.lit (.bool false)], args := [d] }
  | _ => none }
def OverlayDegreeWrongFalsely : Prop := overlayDegreeRow.holds Tryd.pinned (OpenSpec.ofChange overlayDegreeWrong)

/-- 'actorgridlaw4.OverlayRemoval': WHATEVER THE INPUT: true; the input reads as it did. -/
def overlayRemovalSpec : ChangeSpec := { name := "overlayRemoval", fn := fun _ => fun
  | [d1, d2] => { results := [.lit (.bool true)], args := [d1, d2] }
  | _ => none }
def overlayRemovalRow : OpenClaim := { program := "ytobahkjlblgdjaadoor", sum := "3cd81f22e16dc48c214418bdd2cf370aeaf090188b7c22a2ce4bae5ca3785286", func := "actorgrid/actorgridlaw4.OverlayRemoval", spec := "overlayRemoval", unfollowed := true, recurses := true, named := ["actorgrid/hashing.shifts", "actorgrid/hashing.factors"], apart := false, laid := [("actorgrid/hashing.shifts", laid_actorgrid_hashing_shifts), ("actorgrid/hashing.factors", laid_actorgrid_hashing_factors)] }
def OverlayRemovalSaid : Prop := overlayRemovalRow.holds Tryd.pinned (OpenSpec.ofChange overlayRemovalSpec)

/-- ITS FALSE NEIGHBOUR: 'it returns false'. Refute it at one input. -/
def overlayRemovalWrong : ChangeSpec := { name := "overlayRemoval", fn := fun _ => fun
  | [d1, d2] => { results := [.lit (.bool false)], args := [d1, d2] }
  | _ => none }
def OverlayRemovalWrongFalsely : Prop := overlayRemovalRow.holds Tryd.pinned (OpenSpec.ofChange overlayRemovalWrong)

/-- 'actorgridlaw4.OverlayJoin': WHATEVER THE INPUT: true; the input reads as it did. -/
def overlayJoinSpec : ChangeSpec := { name := "overlayJoin", fn := fun _ => fun
  | [d1, d2] => { results := [.lit (.bool true)], args := [d1, d2] }
  | _ => none }
def overlayJoinRow : OpenClaim := { program := "ytobahkjlblgdjaadoor", sum := "3cd81f22e16dc48c214418bdd2cf370aeaf090188b7c22a2ce4bae5ca3785286", func := "actorgrid/actorgridlaw4.OverlayJoin", spec := "overlayJoin", unfollowed := true, recurses := true, named := ["actorgrid/hashing.shifts", "actorgrid/hashing.factors"], apart := false, laid := [("actorgrid/hashing.shifts", laid_actorgrid_hashing_shifts), ("actorgrid/hashing.factors", laid_actorgrid_hashing_factors)] }
def OverlayJoinSaid : Prop := overlayJoinRow.holds Tryd.pinned (OpenSpec.ofChange overlayJoinSpec)

/-- ITS FALSE NEIGHBOUR: 'it returns false'. Refute it at one input. -/
def overlayJoinWrong : ChangeSpec := { name := "overlayJoin", fn := fun _ => fun
  | [d1, d2] => { results := [.lit (.bool false)], args := [d1, d2] }
  | _ => none }
def OverlayJoinWrongFalsely : Prop := overlayJoinRow.holds Tryd.pinned (OpenSpec.ofChange overlayJoinWrong)

/-- 'actorgridlaw4.OverlayNeighbours': WHATEVER THE INPUT: true; the input reads as it did. -/
def overlayNeighboursSpec : ChangeSpec := { name := "overlayNeighbours", fn := fun _ => fun
  | [d1, d2, d3] => { results := [.lit (.bool true)], args := [d1, d2, d3] }
  | _ => none }
def overlayNeighboursRow : OpenClaim := { program := "ytobahkjlblgdjaadoor", sum := "3cd81f22e16dc48c214418bdd2cf370aeaf090188b7c22a2ce4bae5ca3785286", func := "actorgrid/actorgridlaw4.OverlayNeighbours", spec := "overlayNeighbours", unfollowed := true, recurses := true, named := ["actorgrid/hashing.shifts", "actorgrid/hashing.factors"], apart := false, laid := [("actorgrid/hashing.shifts", laid_actorgrid_hashing_shifts), ("actorgrid/hashing.factors", laid_actorgrid_hashing_factors)] }
def OverlayNeighboursSaid : Prop := overlayNeighboursRow.holds Tryd.pinned (OpenSpec.ofChange overlayNeighboursSpec)

/-- ITS FALSE NEIGHBOUR: 'it returns false'. Refute it at one input. -/
def overlayNeighboursWrong : ChangeSpec := { name := "overlayNeighbours", fn := fun _ => fun
  | [d1, d2, d3] => { results := [.lit (.bool false)], args := [d1, d2, d3] }
  | _ => none }
def OverlayNeighboursWrongFalsely : Prop := overlayNeighboursRow.holds Tryd.pinned (OpenSpec.ofChange overlayNeighboursWrong)

/- THE SECOND FORM. 'bulk': how many values and letters a reading holds, each counted each time it is reached (what is shared counts as often as it is met; a slice's spare places count too). A statement '..UptoSaid' is the law's where the arguments, and the package variables that the reading takes, are together of bulk at most 1048576: NARROWER than '..Said'. Prove '..Said' where nothing that the law and all that it calls make is longer than what came in: it says more and counts as full. Else prove '..UptoSaid'. A law counts once. -/
mutual
def uptoBulk {H : Type} : DataW H → Nat
  | .lit (.string bytes) => bytes.length + 1
  | .lit _ => 1
  | .nil => 1
  | .ptr d => uptoBulk d + 1
  | .slice elems spare => uptoBulkAll elems + uptoBulkAll spare + 1
  | .agg parts => uptoBulkAll parts + 1
  | .iface _ d => uptoBulk d + 1
  | .map entries => uptoBulkEntries entries + 1
  | .held _ => 1
def uptoBulkAll {H : Type} : List (DataW H) → Nat
  | [] => 0
  | d :: r => uptoBulk d + uptoBulkAll r
def uptoBulkEntries {H : Type} : List (Lit × DataW H) → Nat
  | [] => 0
  | x :: r => uptoBulkEntry x + uptoBulkEntries r
def uptoBulkEntry {H : Type} : Lit × DataW H → Nat
  | (.string bytes, d) => bytes.length + uptoBulk d + 1
  | (_, d) => uptoBulk d + 1
 end
def uptoSmall : (H : Type) → List (DataW H) → Bool := fun _ ds => decide (uptoBulkAll ds ≤ 1048576)
def OpenSpec.upto (s : _root_.Go.ChangeSpec) : _root_.Go.OpenSpec := { _root_.Go.OpenSpec.ofChange s with cond := some uptoSmall }

/-- 'actorgridlaw4.OverlayTells', WHERE WHAT IT READS IS OF BULK AT MOST 1048576: true; the input reads as it did. -/
def overlayTellsUptoRow : OpenClaim := { program := "ytobahkjlblgdjaadoor", sum := "3cd81f22e16dc48c214418bdd2cf370aeaf090188b7c22a2ce4bae5ca3785286", func := "actorgrid/actorgridlaw4.OverlayTells", spec := "overlayTells", unfollowed := true, recurses := true, named := ["actorgrid/hashing.shifts", "actorgrid/hashing.factors"], apart := false, laid := [("actorgrid/hashing.shifts", laid_actorgrid_hashing_shifts), ("actorgrid/hashing.factors", laid_actorgrid_hashing_factors)], narrowed := true }
def OverlayTellsUptoSaid : Prop := overlayTellsUptoRow.holds Tryd.pinned (OpenSpec.upto overlayTellsSpec)

/-- 'actorgridlaw4.OverlayCircle', WHERE WHAT IT READS IS OF BULK AT MOST 1048576: true; the input reads as it did. -/
def overlayCircleUptoRow : OpenClaim := { program := "ytobahkjlblgdjaadoor", sum := "3cd81f22e16dc48c214418bdd2cf370aeaf090188b7c22a2ce4bae5ca3785286", func := "actorgrid/actorgridlaw4.OverlayCircle", spec := "overlayCircle", unfollowed := true, recurses := true, named := ["actorgrid/hashing.shifts", "actorgrid/hashing.factors"], apart := false, laid := [("actorgrid/hashing.shifts", laid_actorgrid_hashing_shifts), ("actorgrid/hashing.factors", laid_actorgrid_hashing_factors)], narrowed := true }
def OverlayCircleUptoSaid : Prop := overlayCircleUptoRow.holds Tryd.pinned (OpenSpec.upto overlayCircleSpec)

/-- 'actorgridlaw4.OverlayDegree', WHERE WHAT IT READS IS OF BULK AT MOST 1048576: true; the input reads as it did. -/
def overlayDegreeUptoRow : OpenClaim := { program := "ytobahkjlblgdjaadoor", sum := "3cd81f22e16dc48c214418bdd2cf370aeaf090188b7c22a2ce4bae5ca3785286", func := "actorgrid/actorgridlaw4.OverlayDegree", spec := "overlayDegree", unfollowed := true, recurses := true, named := ["actorgrid/hashing.shifts", "actorgrid/hashing.factors"], apart := false, laid := [("actorgrid/hashing.shifts", laid_actorgrid_hashing_shifts), ("actorgrid/hashing.factors", laid_actorgrid_hashing_factors)], narrowed := true }
def OverlayDegreeUptoSaid : Prop := overlayDegreeUptoRow.holds Tryd.pinned (OpenSpec.upto overlayDegreeSpec)

/-- 'actorgridlaw4.OverlayRemoval', WHERE WHAT IT READS IS OF BULK AT MOST 1048576: true; the input reads as it did. -/
def overlayRemovalUptoRow : OpenClaim := { program := "ytobahkjlblgdjaadoor", sum := "3cd81f22e16dc48c214418bdd2cf370aeaf090188b7c22a2ce4bae5ca3785286", func := "actorgrid/actorgridlaw4.OverlayRemoval", spec := "overlayRemoval", unfollowed := true, recurses := true, named := ["actorgrid/hashing.shifts", "actorgrid/hashing.factors"], apart := false, laid := [("actorgrid/hashing.shifts", laid_actorgrid_hashing_shifts), ("actorgrid/hashing.factors", laid_actorgrid_hashing_factors)], narrowed := true }
def OverlayRemovalUptoSaid : Prop := overlayRemovalUptoRow.holds Tryd.pinned (OpenSpec.upto overlayRemovalSpec)

/-- 'actorgridlaw4.OverlayJoin', WHERE WHAT IT READS IS OF BULK AT MOST 1048576: true; the input reads as it did. -/
def overlayJoinUptoRow : OpenClaim := { program := "ytobahkjlblgdjaadoor", sum := "3cd81f22e16dc48c214418bdd2cf370aeaf090188b7c22a2ce4bae5ca3785286", func := "actorgrid/actorgridlaw4.OverlayJoin", spec := "overlayJoin", unfollowed := true, recurses := true, named := ["actorgrid/hashing.shifts", "actorgrid/hashing.factors"], apart := false, laid := [("actorgrid/hashing.shifts", laid_actorgrid_hashing_shifts), ("actorgrid/hashing.factors", laid_actorgrid_hashing_factors)], narrowed := true }
def OverlayJoinUptoSaid : Prop := overlayJoinUptoRow.holds Tryd.pinned (OpenSpec.upto overlayJoinSpec)

/-- 'actorgridlaw4.OverlayNeighbours', WHERE WHAT IT READS IS OF BULK AT MOST 1048576: true; the input reads as it did. -/
def overlayNeighboursUptoRow : OpenClaim := { program := "ytobahkjlblgdjaadoor", sum := "3cd81f22e16dc48c214418bdd2cf370aeaf090188b7c22a2ce4bae5ca3785286", func := "actorgrid/actorgridlaw4.OverlayNeighbours", spec := "overlayNeighbours", unfollowed := true, recurses := true, named := ["actorgrid/hashing.shifts", "actorgrid/hashing.factors"], apart := false, laid := [("actorgrid/hashing.shifts", laid_actorgrid_hashing_shifts), ("actorgrid/hashing.factors", laid_actorgrid_hashing_factors)], narrowed := true }
def OverlayNeighboursUptoSaid : Prop := overlayNeighboursUptoRow.holds Tryd.pinned (OpenSpec.upto overlayNeighboursSpec)

end Rows
end Go.Proofs.YtobahkjlblgdjaaDoor
