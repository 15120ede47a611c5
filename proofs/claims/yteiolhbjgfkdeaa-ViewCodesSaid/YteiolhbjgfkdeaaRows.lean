/-
  No cell of these rows narrows 'for every input' (looked for: loops, veiled, ifaces, maps, wideKeys, modest, calm, conditions, laid).
  DERIVED. THE GIVEN ROWS OF THIS SEAT. 7 by the template 'for every input the law returns true; each argument reads behind the call as it read before'; 0 by the template 'total and deterministic' (their statements: YteiolhbjgfkdeaaTotals.lean).
  GIVEN WITH THE SEED: the statements are not yours to turn. If you find one false, say at which input.
  Laid BY PROGRAM, IN A SANDBOX (cutbox-rows.mjs): the forced cells as the released guide's own fill.sh prints them over the translation c49cd3e01bfbd317… (all of the seat's roots in one cut). By AI agents, Wed Nov 11 2026. No macro, syntax, notation, axiom, sorry.
-/
import Derived.Test.YteiolhbjgfkdeaaChecked
import GoSem.Claim
import GoSem.ClaimJoined
import GoSem.ClaimMapViews
import Derived.JoinedTies
import Derived.KernelRfl
namespace Go.Proofs.Yteiolhbjgfkdeaa
/- THE CELL 'sum', in the pinned program and in every row, IS THE sha256 OF THE DUMP (.gsa) THAT YteiolhbjgfkdeaaProg.lean LOADS. Nothing in Lean hashes anything: it is a label: what it is worth is what the hold of that sum in a sandbox is worth. -/
noncomputable def Try.pinned : Pinned := { name := "yteiolhbjgfkdeaa", sum := "c49cd3e01bfbd3176d4171eeb4f2c29146b1e8da106f012fb7bcb6534d70c2e4", checked := Try.checked }
namespace Rows
def none {H : Type} : Left H := { results := [], args := [] }

/-- 'actorgridlaw3.ViewLists': WHATEVER THE INPUT: true; the input reads as it did. -/
def viewListsSpec : ChangeSpec := { name := "viewLists", fn := fun _ => fun
  | [d1, d2, d3] => { results := [.lit (.bool true)], args := [d1, d2, d3] }
  | _ => none }
def viewListsRow : OpenClaim := { program := "yteiolhbjgfkdeaa", sum := "c49cd3e01bfbd3176d4171eeb4f2c29146b1e8da106f012fb7bcb6534d70c2e4", func := "actorgrid/actorgridlaw3.ViewLists", spec := "viewLists", unfollowed := true, recurses := true, apart := false }
def ViewListsSaid : Prop := viewListsRow.holds Try.pinned (OpenSpec.ofChange viewListsSpec)

/-- ITS FALSE NEIGHBOUR: 'it returns false'. Refute it at one input. -/
def viewListsWrong : ChangeSpec := { name := "viewLists", fn := fun _ => fun
  | [d1, d2, d3] => { results := [.lit (.bool false)], args := [d1, d2, d3] }
  | _ => none }
def ViewListsWrongFalsely : Prop := viewListsRow.holds Try.pinned (OpenSpec.ofChange viewListsWrong)

/-- 'actorgridlaw3.ViewNext': WHATEVER THE INPUT: true; the input reads as it did. -/
def viewNextSpec : ChangeSpec := { name := "viewNext", fn := fun _ => fun
  | [d1, d2] => { results := [.lit (.bool true)], args := [d1, d2] }
  | _ => none }
def viewNextRow : OpenClaim := { program := "yteiolhbjgfkdeaa", sum := "c49cd3e01bfbd3176d4171eeb4f2c29146b1e8da106f012fb7bcb6534d70c2e4", func := "actorgrid/actorgridlaw3.ViewNext", spec := "viewNext", unfollowed := true, recurses := true, apart := false }
def ViewNextSaid : Prop := viewNextRow.holds Try.pinned (OpenSpec.ofChange viewNextSpec)

/-- ITS FALSE NEIGHBOUR: 'it returns false'. Refute it at one input. -/
def viewNextWrong : ChangeSpec := { name := "viewNext", fn := fun _ => fun
  | [d1, d2] => { results := [.lit (.bool false)], args := [d1, d2] }
  | _ => none }
def ViewNextWrongFalsely : Prop := viewNextRow.holds Try.pinned (OpenSpec.ofChange viewNextWrong)

/-- 'actorgridlaw3.ViewCodes': WHATEVER THE INPUT: true; the input reads as it did. -/
def viewCodesSpec : ChangeSpec := { name := "viewCodes", fn := fun _ => fun
  | [d1, d2, d3] => { results := [.lit (.bool true)], args := [d1, d2, d3] }
  | _ => none }
def viewCodesRow : OpenClaim := { program := "yteiolhbjgfkdeaa", sum := "c49cd3e01bfbd3176d4171eeb4f2c29146b1e8da106f012fb7bcb6534d70c2e4", func := "actorgrid/actorgridlaw3.ViewCodes", spec := "viewCodes", unfollowed := true, recurses := true, apart := false }
def ViewCodesSaid : Prop := viewCodesRow.holds Try.pinned (OpenSpec.ofChange viewCodesSpec)

/-- ITS FALSE NEIGHBOUR: 'it returns false'. Refute it at one input. -/
def viewCodesWrong : ChangeSpec := { name := "viewCodes", fn := fun _ => fun
  | [d1, d2, d3] => { results := [.lit (.bool false)], args := [d1, d2, d3] }
  | _ => none }
def ViewCodesWrongFalsely : Prop := viewCodesRow.holds Try.pinned (OpenSpec.ofChange viewCodesWrong)

/-- 'actorgridlaw3.ViewPartition': WHATEVER THE INPUT: true; the input reads as it did. -/
def viewPartitionSpec : ChangeSpec := { name := "viewPartition", fn := fun _ => fun
  | [d1, d2, d3] => { results := [.lit (.bool true)], args := [d1, d2, d3] }
  | _ => none }
def viewPartitionRow : OpenClaim := { program := "yteiolhbjgfkdeaa", sum := "c49cd3e01bfbd3176d4171eeb4f2c29146b1e8da106f012fb7bcb6534d70c2e4", func := "actorgrid/actorgridlaw3.ViewPartition", spec := "viewPartition", unfollowed := true, recurses := true, apart := false }
def ViewPartitionSaid : Prop := viewPartitionRow.holds Try.pinned (OpenSpec.ofChange viewPartitionSpec)

/-- ITS FALSE NEIGHBOUR: 'it returns false'. Refute it at one input. -/
def viewPartitionWrong : ChangeSpec := { name := "viewPartition", fn := fun _ => fun
  | [d1, d2, d3] => { results := [.lit (.bool false)], args := [d1, d2, d3] }
  | _ => none }
def ViewPartitionWrongFalsely : Prop := viewPartitionRow.holds Try.pinned (OpenSpec.ofChange viewPartitionWrong)

/-- 'actorgridlaw3.ViewDiff': WHATEVER THE INPUT: true; the input reads as it did. -/
def viewDiffSpec : ChangeSpec := { name := "viewDiff", fn := fun _ => fun
  | [d1, d2, d3, d4] => { results := [.lit (.bool true)], args := [d1, d2, d3, d4] }
  | _ => none }
def viewDiffRow : OpenClaim := { program := "yteiolhbjgfkdeaa", sum := "c49cd3e01bfbd3176d4171eeb4f2c29146b1e8da106f012fb7bcb6534d70c2e4", func := "actorgrid/actorgridlaw3.ViewDiff", spec := "viewDiff", unfollowed := true, recurses := true, apart := false }
def ViewDiffSaid : Prop := viewDiffRow.holds Try.pinned (OpenSpec.ofChange viewDiffSpec)

/-- ITS FALSE NEIGHBOUR: 'it returns false'. Refute it at one input. -/
def viewDiffWrong : ChangeSpec := { name := "viewDiff", fn := fun _ => fun
  | [d1, d2, d3, d4] => { results := [.lit (.bool false)], args := [d1, d2, d3, d4] }
  | _ => none }
def ViewDiffWrongFalsely : Prop := viewDiffRow.holds Try.pinned (OpenSpec.ofChange viewDiffWrong)

/-- 'actorgridlaw3.ViewQuorums': WHATEVER THE INPUT: true; the input reads as it did. -/
def viewQuorumsSpec : ChangeSpec := { name := "viewQuorums", fn := fun _ => fun
  | [d1, d2, d3, d4] => { results := [.lit (.bool true)], args := [d1, d2, d3, d4] }
  | _ => none }
def viewQuorumsRow : OpenClaim := { program := "yteiolhbjgfkdeaa", sum := "c49cd3e01bfbd3176d4171eeb4f2c29146b1e8da106f012fb7bcb6534d70c2e4", func := "actorgrid/actorgridlaw3.ViewQuorums", spec := "viewQuorums", unfollowed := true, recurses := true, apart := false }
def ViewQuorumsSaid : Prop := viewQuorumsRow.holds Try.pinned (OpenSpec.ofChange viewQuorumsSpec)

/-- ITS FALSE NEIGHBOUR: 'it returns false'. Refute it at one input. -/
def viewQuorumsWrong : ChangeSpec := { name := "viewQuorums", fn := fun _ => fun
  | [d1, d2, d3, d4] => { results := [.lit (.bool false)], args := [d1, d2, d3, d4] }
  | _ => none }
def ViewQuorumsWrongFalsely : Prop := viewQuorumsRow.holds Try.pinned (OpenSpec.ofChange viewQuorumsWrong)

/-- 'actorgridlaw3.ViewBack': WHATEVER THE INPUT: true; the input reads as it did. -/
def viewBackSpec : ChangeSpec := { name := "viewBack", fn := fun _ => fun
  | [d1, d2] => { results := [.lit (.bool true)], args := [d1, d2] }
  | _ => none }
def viewBackRow : OpenClaim := { program := "yteiolhbjgfkdeaa", sum := "c49cd3e01bfbd3176d4171eeb4f2c29146b1e8da106f012fb7bcb6534d70c2e4", func := "actorgrid/actorgridlaw3.ViewBack", spec := "viewBack", unfollowed := true, recurses := true, apart := false }
def ViewBackSaid : Prop := viewBackRow.holds Try.pinned (OpenSpec.ofChange viewBackSpec)

/-- ITS FALSE NEIGHBOUR: 'it returns false'. Refute it at one input. -/
def viewBackWrong : ChangeSpec := { name := "viewBack", fn := fun _ => fun
  | [d1, d2] => { results := [.lit (.bool false)], args := [d1, d2] }
  | _ => none }
def ViewBackWrongFalsely : Prop := viewBackRow.holds Try.pinned (OpenSpec.ofChange viewBackWrong)

/- THE SECOND FORM. 'bulk': how many values and letters a reading holds, each counted each time it is reached (what is shared counts as often as it is met; a slice's spare places count too). A statement '..UptoSaid' is the law's where the arguments, and the package variables that the reading takes, are together of bulk at most 1048576: NARROWER than '..Said'. Prove '..Said' where nothing that the law and all that it calls make is longer than what came in: it says more and counts as full. Else prove '..UptoSaid'. A law counts once. -/
mutual
def uptoBulk {H : Type} : DataW H → Nat
  | .lit (.string bytes) => bytes.length + 1
  | .lit _ => 1
  | .nil => 1
  | .ptr d => uptoBulk d + 1
  | .slice elems spare => uptoBulkAll elems + uptoBulkAll spare + 1
  | .agg parts => uptoBulkAll parts + 1
  | .iface _ d => uptoBulk d + 1
  | .map entries => uptoBulkEntries entries + 1
  | .held _ => 1
def uptoBulkAll {H : Type} : List (DataW H) → Nat
  | [] => 0
  | d :: r => uptoBulk d + uptoBulkAll r
def uptoBulkEntries {H : Type} : List (Lit × DataW H) → Nat
  | [] => 0
  | x :: r => uptoBulkEntry x + uptoBulkEntries r
def uptoBulkEntry {H : Type} : Lit × DataW H → Nat
  | (.string bytes, d) => bytes.length + uptoBulk d + 1
  | (_, d) => uptoBulk d + 1
 end
def uptoSmall : (H : Type) → List (DataW H) → Bool := fun _ ds => decide (uptoBulkAll ds ≤ 1048576)
def OpenSpec.upto (s : _root_.Go.ChangeSpec) : _root_.Go.OpenSpec := { _root_.Go.OpenSpec.ofChange s with cond := some uptoSmall }

/-- 'actorgridlaw3.ViewLists', WHERE WHAT IT READS IS OF BULK AT MOST 1048576: true; the input reads as it did. -/
def viewListsUptoRow : OpenClaim := { program := "yteiolhbjgfkdeaa", sum := "c49cd3e01bfbd3176d4171eeb4f2c29146b1e8da106f012fb7bcb6534d70c2e4", func := "actorgrid/actorgridlaw3.ViewLists", spec := "viewLists", unfollowed := true, recurses := true, apart := false, narrowed := true }
def ViewListsUptoSaid : Prop := viewListsUptoRow.holds Try.pinned (OpenSpec.upto viewListsSpec)

/-- 'actorgridlaw3.ViewNext', WHERE WHAT IT READS IS OF BULK AT MOST 1048576: true; the input reads as it did. -/
def viewNextUptoRow : OpenClaim := { program := "yteiolhbjgfkdeaa", sum := "c49cd3e01bfbd3176d4171eeb4f2c29146b1e8da106f012fb7bcb6534d70c2e4", func := "actorgrid/actorgridlaw3.ViewNext", spec := "viewNext", unfollowed := true, recurses := true, apart := false, narrowed := true }
def ViewNextUptoSaid : Prop := viewNextUptoRow.holds Try.pinned (OpenSpec.upto viewNextSpec)

/-- 'actorgridlaw3.ViewCodes', WHERE WHAT IT READS IS OF BULK AT MOST 1048576: true; the input reads as it did. -/
def viewCodesUptoRow : OpenClaim := { program := "yteiolhbjgfkdeaa", sum := "c49cd3e01bfbd3176d4171eeb4f2c29146b1e8da106f012fb7bcb6534d70c2e4", func := "actorgrid/actorgridlaw3.ViewCodes", spec := "viewCodes", unfollowed := true, recurses := true, apart := false, narrowed := true }
def ViewCodesUptoSaid : Prop := viewCodesUptoRow.holds Try.pinned (OpenSpec.upto viewCodesSpec)

/-- 'actorgridlaw3.ViewPartition', WHERE WHAT IT READS IS OF BULK AT MOST 1048576: true; the input reads as it did. -/
def viewPartitionUptoRow : OpenClaim := { program := "yteiolhbjgfkdeaa", sum := "c49cd3e01bfbd3176d4171eeb4f2c29146b1e8da106f012fb7bcb6534d70c2e4", func := "actorgrid/actorgridlaw3.ViewPartition", spec := "viewPartition", unfollowed := true, recurses := true, apart := false, narrowed := true }
def ViewPartitionUptoSaid : Prop := viewPartitionUptoRow.holds Try.pinned (OpenSpec.upto viewPartitionSpec)

/-- 'actorgridlaw3.ViewDiff', WHERE WHAT IT READS IS OF BULK AT MOST 1048576: true; the input reads as it did. -/
def viewDiffUptoRow : OpenClaim := { program := "yteiolhbjgfkdeaa", sum := "c49cd3e01bfbd3176d4171eeb4f2c29146b1e8da106f012fb7bcb6534d70c2e4", func := "actorgrid/actorgridlaw3.ViewDiff", spec := "viewDiff", unfollowed := true, recurses := true, apart := false, narrowed := true }
def ViewDiffUptoSaid : Prop := viewDiffUptoRow.holds Try.pinned (OpenSpec.upto viewDiffSpec)

/-- 'actorgridlaw3.ViewQuorums', WHERE WHAT IT READS IS OF BULK AT MOST 1048576: true; the input reads as it did. -/
def viewQuorumsUptoRow : OpenClaim := { program := "yteiolhbjgfkdeaa", sum := "c49cd3e01bfbd3176d4171eeb4f2c29146b1e8da106f012fb7bcb6534d70c2e4", func := "actorgrid/actorgridlaw3.ViewQuorums", spec := "viewQuorums", unfollowed := true, recurses := true, apart := false, narrowed := true }
def ViewQuorumsUptoSaid : Prop := viewQuorumsUptoRow.holds Try.pinned (OpenSpec.upto viewQuorumsSpec)

/-- 'actorgridlaw3.ViewBack', WHERE WHAT IT READS IS OF BULK AT MOST 1048576: true; the input reads as it did. -/
def viewBackUptoRow : OpenClaim := { program := "yteiolhbjgfkdeaa", sum := "c49cd3e01bfbd3176d4171eeb4f2c29146b1e8da106f012fb7bcb6534d70c2e4", func := "actorgrid/actorgridlaw3.ViewBack", spec := "viewBack", unfollowed := true, recurses := true, apart := false, narrowed := true }
def ViewBackUptoSaid : Prop := viewBackUptoRow.holds Try.pinned (OpenSpec.upto viewBackSpec)

end Rows
end Go.Proofs.Yteiolhbjgfkdeaa
