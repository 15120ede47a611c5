/-
  No cell of these rows narrows 'for every input' (looked for: loops, veiled, ifaces, maps, wideKeys, modest, calm, conditions, laid).
  DERIVED. THE GIVEN ROWS OF THIS SEAT. 4 by the template 'for every input the law returns true; each argument reads behind the call as it read before'; 0 by the template 'total and deterministic' (their statements: YtmnagkjdnmnbkaaTotals.lean).
  GIVEN WITH THE SEED: the statements are not yours to turn. If you find one false, say at which input.
  Laid BY PROGRAM, IN A SANDBOX (cutbox-rows.mjs): the forced cells as the released guide's own fill.sh prints them over the translation 86cf434f81155230… (all of the seat's roots in one cut). By AI agents, Wed Nov 11 2026. No macro, syntax, notation, axiom, sorry.
-/
import Derived.Test.YtmnagkjdnmnbkaaChecked
import GoSem.Claim
import GoSem.ClaimJoined
import GoSem.ClaimMapViews
import Derived.JoinedTies
import Derived.KernelRfl
namespace Go.Proofs.Ytmnagkjdnmnbkaa
/- THE CELL 'sum', in the pinned program and in every row, IS THE sha256 OF THE DUMP (.gsa) THAT YtmnagkjdnmnbkaaProg.lean LOADS. Nothing in Lean hashes anything: it is a label: what it is worth is what the hold of that sum in a sandbox is worth. -/
noncomputable def Try.pinned : Pinned := { name := "ytmnagkjdnmnbkaa", sum := "86cf434f81155230500535ce4b521377a3d7dadefe1c561f5bff7f168b438125", checked := Try.checked }
namespace Rows
def none {H : Type} : Left H := { results := [], args := [] }

/-- 'actorgridlaw8.VoteCasts': WHATEVER THE INPUT: true; the input reads as it did. -/
def voteCastsSpec : ChangeSpec := { name := "voteCasts", fn := fun _ => fun
  | [d1, d2, d3, d4, d5] => { results := [.lit (.bool true)], args := [d1, d2, d3, d4, d5] }
  | _ => none }
def voteCastsRow : OpenClaim := { program := "ytmnagkjdnmnbkaa", sum := "86cf434f81155230500535ce4b521377a3d7dadefe1c561f5bff7f168b438125", func := "actorgrid/actorgridlaw8.VoteCasts", spec := "voteCasts", unfollowed := true, recurses := true, apart := false }
def VoteCastsSaid : Prop := voteCastsRow.holds Try.pinned (OpenSpec.ofChange voteCastsSpec)

/-- ITS FALSE NEIGHBOUR: 'it returns false'. Refute it at one input. -/
def voteCastsWrong : ChangeSpec := { name := "voteCasts", fn := fun _ => fun
  | [d1, d2, d3, d4, d5] => { results := [.lit (.bool false)], args := [d1, d2, d3, d4, d5] }
  | _ => none }
def VoteCastsWrongFalsely : Prop := voteCastsRow.holds Try.pinned (OpenSpec.ofChange voteCastsWrong)

/-- 'actorgridlaw8.VoteCounts': WHATEVER THE INPUT: true; the input reads as it did. -/
def voteCountsSpec : ChangeSpec := { name := "voteCounts", fn := fun _ => fun
  | [d1, d2, d3] => { results := [.lit (.bool true)], args := [d1, d2, d3] }
  | _ => none }
def voteCountsRow : OpenClaim := { program := "ytmnagkjdnmnbkaa", sum := "86cf434f81155230500535ce4b521377a3d7dadefe1c561f5bff7f168b438125", func := "actorgrid/actorgridlaw8.VoteCounts", spec := "voteCounts", unfollowed := true, recurses := true, apart := false }
def VoteCountsSaid : Prop := voteCountsRow.holds Try.pinned (OpenSpec.ofChange voteCountsSpec)

/-- ITS FALSE NEIGHBOUR: 'it returns false'. Refute it at one input. -/
def voteCountsWrong : ChangeSpec := { name := "voteCounts", fn := fun _ => fun
  | [d1, d2, d3] => { results := [.lit (.bool false)], args := [d1, d2, d3] }
  | _ => none }
def VoteCountsWrongFalsely : Prop := voteCountsRow.holds Try.pinned (OpenSpec.ofChange voteCountsWrong)

/-- 'actorgridlaw8.VoteOnce': WHATEVER THE INPUT: true; the input reads as it did. -/
def voteOnceSpec : ChangeSpec := { name := "voteOnce", fn := fun _ => fun
  | [d1, d2, d3] => { results := [.lit (.bool true)], args := [d1, d2, d3] }
  | _ => none }
def voteOnceRow : OpenClaim := { program := "ytmnagkjdnmnbkaa", sum := "86cf434f81155230500535ce4b521377a3d7dadefe1c561f5bff7f168b438125", func := "actorgrid/actorgridlaw8.VoteOnce", spec := "voteOnce", unfollowed := true, recurses := true, apart := false }
def VoteOnceSaid : Prop := voteOnceRow.holds Try.pinned (OpenSpec.ofChange voteOnceSpec)

/-- ITS FALSE NEIGHBOUR: 'it returns false'. Refute it at one input. -/
def voteOnceWrong : ChangeSpec := { name := "voteOnce", fn := fun _ => fun
  | [d1, d2, d3] => { results := [.lit (.bool false)], args := [d1, d2, d3] }
  | _ => none }
def VoteOnceWrongFalsely : Prop := voteOnceRow.holds Try.pinned (OpenSpec.ofChange voteOnceWrong)

/-- 'actorgridlaw8.VoteTogether': WHATEVER THE INPUT: true; the input reads as it did. -/
def voteTogetherSpec : ChangeSpec := { name := "voteTogether", fn := fun _ => fun
  | [d1, d2] => { results := [.lit (.bool true)], args := [d1, d2] }
  | _ => none }
def voteTogetherRow : OpenClaim := { program := "ytmnagkjdnmnbkaa", sum := "86cf434f81155230500535ce4b521377a3d7dadefe1c561f5bff7f168b438125", func := "actorgrid/actorgridlaw8.VoteTogether", spec := "voteTogether", unfollowed := true, recurses := true, apart := false }
def VoteTogetherSaid : Prop := voteTogetherRow.holds Try.pinned (OpenSpec.ofChange voteTogetherSpec)

/-- ITS FALSE NEIGHBOUR: 'it returns false'. Refute it at one input. -/
def voteTogetherWrong : ChangeSpec := { name := "voteTogether", fn := fun _ => fun
  | [d1, d2] => { results := [.lit (.bool false)], args := [d1, d2] }
  | _ => none }
def VoteTogetherWrongFalsely : Prop := voteTogetherRow.holds Try.pinned (OpenSpec.ofChange voteTogetherWrong)

/- THE SECOND FORM. 'bulk': how many values and letters a reading holds, each counted each time it is reached (what is shared counts as often as it is met; a slice's spare places count too). A statement '..UptoSaid' is the law's where the arguments, and the package variables that the reading takes, are together of bulk at most 1048576: NARROWER than '..Said'. Prove '..Said' where nothing that the law and all that it calls make is longer than what came in: it says more and counts as full. Else prove '..UptoSaid'. A law counts once. -/
mutual
def uptoBulk {H : Type} : DataW H → Nat
  | .lit (.string bytes) => bytes.length + 1
  | .lit _ => 1
  | .nil => 1
  | .ptr d => uptoBulk d + 1
  | .slice elems spare => uptoBulkAll elems + uptoBulkAll spare + 1
  | .agg parts => uptoBulkAll parts + 1
  | .iface _ d => uptoBulk d + 1
  | .map entries => uptoBulkEntries entries + 1
  | .held _ => 1
def uptoBulkAll {H : Type} : List (DataW H) → Nat
  | [] => 0
  | d :: r => uptoBulk d + uptoBulkAll r
def uptoBulkEntries {H : Type} : List (Lit × DataW H) → Nat
  | [] => 0
  | x :: r => uptoBulkEntry x + uptoBulkEntries r
def uptoBulkEntry {H : Type} : Lit × DataW H → Nat
  | (.string bytes, d) => bytes.length + uptoBulk d + 1
  | (_, d) => uptoBulk d + 1
 end
def uptoSmall : (H : Type) → List (DataW H) → Bool := fun _ ds => decide (uptoBulkAll ds ≤ 1048576)
def OpenSpec.upto (s : _root_.Go.ChangeSpec) : _root_.Go.OpenSpec := { _root_.Go.OpenSpec.ofChange s with cond := some uptoSmall }

/-- 'actorgridlaw8.VoteCasts', WHERE WHAT IT READS IS OF BULK AT MOST 1048576: true; the input reads as it did. -/
def voteCastsUptoRow : OpenClaim := { program := "ytmnagkjdnmnbkaa", sum := "86cf434f81155230500535ce4b521377a3d7dadefe1c561f5bff7f168b438125", func := "actorgrid/actorgridlaw8.VoteCasts", spec := "voteCasts", unfollowed := true, recurses := true, apart := false, narrowed := true }
def VoteCastsUptoSaid : Prop := voteCastsUptoRow.holds Try.pinned (OpenSpec.upto voteCastsSpec)

/-- 'actorgridlaw8.VoteCounts', WHERE WHAT IT READS IS OF BULK AT MOST 1048576: true; the input reads as it did. -/
def voteCountsUptoRow : OpenClaim := { program := "ytmnagkjdnmnbkaa", sum := "86cf434f81155230500535ce4b521377a3d7dadefe1c561f5bff7f168b438125", func := "actorgrid/actorgridlaw8.VoteCounts", spec := "voteCounts", unfollowed := true, recurses := true, apart := false, narrowed := true }
def VoteCountsUptoSaid : Prop := voteCountsUptoRow.holds Try.pinned (OpenSpec.upto voteCountsSpec)

/-- 'actorgridlaw8.VoteOnce', WHERE WHAT IT READS IS OF BULK AT MOST 1048576: true; the input reads as it did. -/
def voteOnceUptoRow : OpenClaim := { program := "ytmnagkjdnmnbkaa", sum := "86cf434f81155230500535ce4b521377a3d7dadefe1c561f5bff7f168b438125", func := "actorgrid/actorgridlaw8.VoteOnce", spec := "voteOnce", unfollowed := true, recurses := true, apart := false, narrowed := true }
def VoteOnceUptoSaid : Prop := voteOnceUptoRow.holds Try.pinned (OpenSpec.upto voteOnceSpec)

/-- 'actorgridlaw8.VoteTogether', WHERE WHAT IT READS IS OF BULK AT MOST 1048576: true; the input reads as it did. -/
def voteTogetherUptoRow : OpenClaim := { program := "ytmnagkjdnmnbkaa", sum := "86cf434f81155230500535ce4b521377a3d7dadefe1c561f5bff7f168b438125", func := "actorgrid/actorgridlaw8.VoteTogether", spec := "voteTogether", unfollowed := true, recurses := true, apart := false, narrowed := true }
def VoteTogetherUptoSaid : Prop := voteTogetherUptoRow.holds Try.pinned (OpenSpec.upto voteTogetherSpec)

end Rows
end Go.Proofs.Ytmnagkjdnmnbkaa
