/-
  NARROWER THAN 'FOR EVERY INPUT', by the rows' own cells (each row's printed sentence says how): HashMixes: laid · HashTexts: laid · HashPlaces: laid · HashBijective: laid · HashInjective: laid.
  DERIVED. THE GIVEN ROWS OF THIS SEAT. 5 by the template 'for every input the law returns true; each argument reads behind the call as it read before'; 0 by the template 'total and deterministic' (their statements: YtecjnojbnklbbaaDoorTotals.lean).
  GIVEN WITH THE SEED: the statements are not yours to turn. If you find one false, say at which input.
  Laid BY PROGRAM, IN A SANDBOX (cutbox-rows.mjs): the forced cells as the released guide's own fill.sh prints them over the translation be6c551f40af88f2… (all of the seat's roots in one cut). By AI agents, Wed Nov 11 2026. No macro, syntax, notation, axiom, sorry.
-/
import Derived.Test.YtecjnojbnklbbaaDoorChecked
import GoSem.Claim
import GoSem.ClaimJoined
import GoSem.ClaimMapViews
import Derived.JoinedTies
import Derived.KernelRfl
namespace Go.Proofs.YtecjnojbnklbbaaDoor
/- THE CELL 'sum', in the pinned program and in every row, IS THE sha256 OF THE DUMP (.gsa) THAT YtecjnojbnklbbaaDoorProg.lean LOADS. Nothing in Lean hashes anything: it is a label: what it is worth is what the hold of that sum in a sandbox is worth. -/
noncomputable def Tryd.pinned : Pinned := { name := "ytecjnojbnklbbaadoor", sum := "be6c551f40af88f25a2d78448bd6e0b1eba8e0fc4a0cd0e1151f901cdd91279a", checked := Tryd.checked }
namespace Rows
def none {H : Type} : Left H := { results := [], args := [] }

/- WHAT THE LISTED PACKAGE-LEVEL VARIABLES READ AS WHEN THE CALL BEGINS. Each datum BY PROGRAM (the guide's laid-datum.mjs) off the statement by which the dump's own 'gosem.cut.vars' lays the variable. In a bare row this is a premise. The card (YtecjnojbnklbbaaDoorCards.lean) ties it to the program's text. -/
def laid_actorgrid_hashing_shifts {H : Type} : DataW H := .agg [.lit (.int .u64 30), .lit (.int .u64 27), .lit (.int .u64 31)]
def laid_actorgrid_hashing_factors {H : Type} : DataW H := .agg [.lit (.int .u64 13787848793156543929), .lit (.int .u64 10723151780598845931)]
def laid_actorgrid_hashing_inverses {H : Type} : DataW H := .agg [.lit (.int .u64 10871156337175269513), .lit (.int .u64 3573116690164977347)]

/-- 'actorgridlaw2.HashMixes': WHATEVER THE INPUT: true; the input reads as it did. -/
def hashMixesSpec : ChangeSpec := { name := "hashMixes", fn := fun _ => fun
  | [d] => { results := [.lit (.bool true)], args := [d] }
  | _ => none }
def hashMixesRow : OpenClaim := { program := "ytecjnojbnklbbaadoor", sum := "be6c551f40af88f25a2d78448bd6e0b1eba8e0fc4a0cd0e1151f901cdd91279a", func := "actorgrid/actorgridlaw2.HashMixes", spec := "hashMixes", named := ["actorgrid/hashing.shifts", "actorgrid/hashing.factors", "actorgrid/hashing.inverses"], apart := false, laid := [("actorgrid/hashing.shifts", laid_actorgrid_hashing_shifts), ("actorgrid/hashing.factors", laid_actorgrid_hashing_factors), ("actorgrid/hashing.inverses", laid_actorgrid_hashing_inverses)] }
def HashMixesSaid : Prop := hashMixesRow.holds Tryd.pinned (OpenSpec.ofChange hashMixesSpec)

/-- ITS FALSE NEIGHBOUR: 'it returns false'. Refute it at one input. -/
def hashMixesWrong : ChangeSpec := { name := "hashMixes", fn := fun _ => fun
  | [d] => { results := [.lit (.bool false)], args := [d] }
  | _ => none }
def HashMixesWrongFalsely : Prop := hashMixesRow.holds Tryd.pinned (OpenSpec.ofChange hashMixesWrong)

/-- 'actorgridlaw2.HashTexts': WHATEVER THE INPUT: true; the input reads as it did. -/
def hashTextsSpec : ChangeSpec := { name := "hashTexts", fn := fun _ => fun
  | [d1, d2, d3] => { results := [.lit (.bool true)], args := [d1, d2, d3] }
  | _ => none }
def hashTextsRow : OpenClaim := { program := "ytecjnojbnklbbaadoor", sum := "be6c551f40af88f25a2d78448bd6e0b1eba8e0fc4a0cd0e1151f901cdd91279a", func := "actorgrid/actorgridlaw2.HashTexts", spec := "hashTexts", named := ["actorgrid/hashing.shifts", "actorgrid/hashing.factors", "actorgrid/hashing.inverses"], apart := false, laid := [("actorgrid/hashing.shifts", laid_actorgrid_hashing_shifts), ("actorgrid/hashing.factors", laid_actorgrid_hashing_factors), ("actorgrid/hashing.inverses", laid_actorgrid_hashing_inverses)] }
def HashTextsSaid : Prop := hashTextsRow.holds Tryd.pinned (OpenSpec.ofChange hashTextsSpec)

/-- ITS FALSE NEIGHBOUR: 'it returns false'. Refute it at one input. -/
def hashTextsWrong : ChangeSpec := { name := "hashTexts", fn := fun _ => fun
  | [d1, d2, d3] => { results := [.lit (.bool false)], args := [d1, d2, d3] }
  | _ => none }
def HashTextsWrongFalsely : Prop := hashTextsRow.holds Tryd.pinned (OpenSpec.ofChange hashTextsWrong)

/-- 'actorgridlaw2.HashPlaces': WHATEVER THE INPUT: true; the input reads as it did. -/
def hashPlacesSpec : ChangeSpec := { name := "hashPlaces", fn := fun _ => fun
  | [d1, d2, d3, d4, d5] => { results := [.lit (.bool true)], args := [d1, d2, d3, d4, d5] }
  | _ => none }
def hashPlacesRow : OpenClaim := { program := "ytecjnojbnklbbaadoor", sum := "be6c551f40af88f25a2d78448bd6e0b1eba8e0fc4a0cd0e1151f901cdd91279a", func := "actorgrid/actorgridlaw2.HashPlaces", spec := "hashPlaces", named := ["actorgrid/hashing.shifts", "actorgrid/hashing.factors", "actorgrid/hashing.inverses"], apart := false, laid := [("actorgrid/hashing.shifts", laid_actorgrid_hashing_shifts), ("actorgrid/hashing.factors", laid_actorgrid_hashing_factors), ("actorgrid/hashing.inverses", laid_actorgrid_hashing_inverses)] }
def HashPlacesSaid : Prop := hashPlacesRow.holds Tryd.pinned (OpenSpec.ofChange hashPlacesSpec)

/-- ITS FALSE NEIGHBOUR: 'it returns false'. Refute it at one input. -/
def hashPlacesWrong : ChangeSpec := { name := "hashPlaces", fn := fun _ => fun
  | [d1, d2, d3, d4, d5] => { results := [.lit (.bool false)], args := [d1, d2, d3, d4, d5] }
  | _ => none }
def HashPlacesWrongFalsely : Prop := hashPlacesRow.holds Tryd.pinned (OpenSpec.ofChange hashPlacesWrong)

/-- 'actorgridlaw2.HashBijective': WHATEVER THE INPUT: true; the input reads as it did. -/
def hashBijectiveSpec : ChangeSpec := { name := "hashBijective", fn := fun _ => fun
  | [d1, d2] => { results := [.lit (.bool true)], args := [d1, d2] }
  | _ => none }
def hashBijectiveRow : OpenClaim := { program := "ytecjnojbnklbbaadoor", sum := "be6c551f40af88f25a2d78448bd6e0b1eba8e0fc4a0cd0e1151f901cdd91279a", func := "actorgrid/actorgridlaw2.HashBijective", spec := "hashBijective", named := ["actorgrid/hashing.shifts", "actorgrid/hashing.factors", "actorgrid/hashing.inverses"], apart := false, laid := [("actorgrid/hashing.shifts", laid_actorgrid_hashing_shifts), ("actorgrid/hashing.factors", laid_actorgrid_hashing_factors), ("actorgrid/hashing.inverses", laid_actorgrid_hashing_inverses)] }
def HashBijectiveSaid : Prop := hashBijectiveRow.holds Tryd.pinned (OpenSpec.ofChange hashBijectiveSpec)

/-- ITS FALSE NEIGHBOUR: 'it returns false'. Refute it at one input. -/
def hashBijectiveWrong : ChangeSpec := { name := "hashBijective", fn := fun _ => fun
  | [d1, d2] => { results := [.lit (.bool false)], args := [d1, d2] }
  | _ => none }
def HashBijectiveWrongFalsely : Prop := hashBijectiveRow.holds Tryd.pinned (OpenSpec.ofChange hashBijectiveWrong)

/-- 'actorgridlaw2.HashInjective': WHATEVER THE INPUT: true; the input reads as it did. -/
def hashInjectiveSpec : ChangeSpec := { name := "hashInjective", fn := fun _ => fun
  | [d1, d2, d3, d4, d5, d6] => { results := [.lit (.bool true)], args := [d1, d2, d3, d4, d5, d6] }
  | _ => none }
def hashInjectiveRow : OpenClaim := { program := "ytecjnojbnklbbaadoor", sum := "be6c551f40af88f25a2d78448bd6e0b1eba8e0fc4a0cd0e1151f901cdd91279a", func := "actorgrid/actorgridlaw2.HashInjective", spec := "hashInjective", named := ["actorgrid/hashing.shifts", "actorgrid/hashing.factors", "actorgrid/hashing.inverses"], apart := false, laid := [("actorgrid/hashing.shifts", laid_actorgrid_hashing_shifts), ("actorgrid/hashing.factors", laid_actorgrid_hashing_factors), ("actorgrid/hashing.inverses", laid_actorgrid_hashing_inverses)] }
def HashInjectiveSaid : Prop := hashInjectiveRow.holds Tryd.pinned (OpenSpec.ofChange hashInjectiveSpec)

/-- ITS FALSE NEIGHBOUR: 'it returns false'. Refute it at one input. -/
def hashInjectiveWrong : ChangeSpec := { name := "hashInjective", fn := fun _ => fun
  | [d1, d2, d3, d4, d5, d6] => { results := [.lit (.bool false)], args := [d1, d2, d3, d4, d5, d6] }
  | _ => none }
def HashInjectiveWrongFalsely : Prop := hashInjectiveRow.holds Tryd.pinned (OpenSpec.ofChange hashInjectiveWrong)

/- THE SECOND FORM. 'bulk': how many values and letters a reading holds, each counted each time it is reached (what is shared counts as often as it is met; a slice's spare places count too). A statement '..UptoSaid' is the law's where the arguments, and the package variables that the reading takes, are together of bulk at most 1048576: NARROWER than '..Said'. Prove '..Said' where nothing that the law and all that it calls make is longer than what came in: it says more and counts as full. Else prove '..UptoSaid'. A law counts once. -/
mutual
def uptoBulk {H : Type} : DataW H → Nat
  | .lit (.string bytes) => bytes.length + 1
  | .lit _ => 1
  | .nil => 1
  | .ptr d => uptoBulk d + 1
  | .slice elems spare => uptoBulkAll elems + uptoBulkAll spare + 1
  | .agg parts => uptoBulkAll parts + 1
  | .iface _ d => uptoBulk d + 1
  | .map entries => uptoBulkEntries entries + 1
  | .held _ => 1
def uptoBulkAll {H : Type} : List (DataW H) → Nat
  | [] => 0
  | d :: r => uptoBulk d + uptoBulkAll r
def uptoBulkEntries {H : Type} : List (Lit × DataW H) → Nat
  | [] => 0
  | x :: r => uptoBulkEntry x + uptoBulkEntries r
def uptoBulkEntry {H : Type} : Lit × DataW H → Nat
  | (.string bytes, d) => bytes.length + uptoBulk d + 1
  | (_, d) => uptoBulk d + 1
 end
def uptoSmall : (H : Type) → List (DataW H) → Bool := fun _ ds => decide (uptoBulkAll ds ≤ 1048576)
def OpenSpec.upto (s : _root_.Go.ChangeSpec) : _root_.Go.OpenSpec := { _root_.Go.OpenSpec.ofChange s with cond := some uptoSmall }

/-- 'actorgridlaw2.HashMixes', WHERE WHAT IT READS IS OF BULK AT MOST 1048576: true; the input reads as it did. -/
def hashMixesUptoRow : OpenClaim := { program := "ytecjnojbnklbbaadoor", sum := "be6c551f40af88f25a2d78448bd6e0b1eba8e0fc4a0cd0e1151f901cdd91279a", func := "actorgrid/actorgridlaw2.HashMixes", spec := "hashMixes", named := ["actorgrid/hashing.shifts", "actorgrid/hashing.factors", "actorgrid/hashing.inverses"], apart := false, laid := [("actorgrid/hashing.shifts", laid_actorgrid_hashing_shifts), ("actorgrid/hashing.factors", laid_actorgrid_hashing_factors), ("actorgrid/hashing.inverses", laid_actorgrid_hashing_inverses)], narrowed := true }
def HashMixesUptoSaid : Prop := hashMixesUptoRow.holds Tryd.pinned (OpenSpec.upto hashMixesSpec)

/-- 'actorgridlaw2.HashTexts', WHERE WHAT IT READS IS OF BULK AT MOST 1048576: true; the input reads as it did. -/
def hashTextsUptoRow : OpenClaim := { program := "ytecjnojbnklbbaadoor", sum := "be6c551f40af88f25a2d78448bd6e0b1eba8e0fc4a0cd0e1151f901cdd91279a", func := "actorgrid/actorgridlaw2.HashTexts", spec := "hashTexts", named := ["actorgrid/hashing.shifts", "actorgrid/hashing.factors", "actorgrid/hashing.inverses"], apart := false, laid := [("actorgrid/hashing.shifts", laid_actorgrid_hashing_shifts), ("actorgrid/hashing.factors", laid_actorgrid_hashing_factors), ("actorgrid/hashing.inverses", laid_actorgrid_hashing_inverses)], narrowed := true }
def HashTextsUptoSaid : Prop := hashTextsUptoRow.holds Tryd.pinned (OpenSpec.upto hashTextsSpec)

/-- 'actorgridlaw2.HashPlaces', WHERE WHAT IT READS IS OF BULK AT MOST 1048576: true; the input reads as it did. -/
def hashPlacesUptoRow : OpenClaim := { program := "ytecjnojbnklbbaadoor", sum := "be6c551f40af88f25a2d78448bd6e0b1eba8e0fc4a0cd0e1151f901cdd91279a", func := "actorgrid/actorgridlaw2.HashPlaces", spec := "hashPlaces", named := ["actorgrid/hashing.shifts", "actorgrid/hashing.factors", "actorgrid/hashing.inverses"], apart := false, laid := [("actorgrid/hashing.shifts", laid_actorgrid_hashing_shifts), ("actorgrid/hashing.factors", laid_actorgrid_hashing_factors), ("actorgrid/hashing.inverses", laid_actorgrid_hashing_inverses)], narrowed := true }
def HashPlacesUptoSaid : Prop := hashPlacesUptoRow.holds Tryd.pinned (OpenSpec.upto hashPlacesSpec)

/-- 'actorgridlaw2.HashBijective', WHERE WHAT IT READS IS OF BULK AT MOST 1048576: true; the input reads as it did. -/
def hashBijectiveUptoRow : OpenClaim := { program := "ytecjnojbnklbbaadoor", sum := "be6c551f40af88f25a2d78448bd6e0b1eba8e0fc4a0cd0e1151f901cdd91279a", func := "actorgrid/actorgridlaw2.HashBijective", spec := "hashBijective", named := ["actorgrid/hashing.shifts", "actorgrid/hashing.factors", "actorgrid/hashing.inverses"], apart := false, laid := [("actorgrid/hashing.shifts", laid_actorgrid_hashing_shifts), ("actorgrid/hashing.factors", laid_actorgrid_hashing_factors), ("actorgrid/hashing.inverses", laid_actorgrid_hashing_inverses)], narrowed := true }
def HashBijectiveUptoSaid : Prop := hashBijectiveUptoRow.holds Tryd.pinned (OpenSpec.upto hashBijectiveSpec)

/-- 'actorgridlaw2.HashInjective', WHERE WHAT IT READS IS OF BULK AT MOST 1048576: true; the input reads as it did. -/
def hashInjectiveUptoRow : OpenClaim := { program := "ytecjnojbnklbbaadoor", sum := "be6c551f40af88f25a2d78448bd6e0b1eba8e0fc4a0cd0e1151f901cdd91279a", func := "actorgrid/actorgridlaw2.HashInjective", spec := "hashInjective", named := ["actorgrid/hashing.shifts", "actorgrid/hashing.factors", "actorgrid/hashing.inverses"], apart := false, laid := [("actorgrid/hashing.shifts", laid_actorgrid_hashing_shifts), ("actorgrid/hashing.factors", laid_actorgrid_hashing_factors), ("actorgrid/hashing.inverses", laid_actorgrid_hashing_inverses)], narrowed := true }
def HashInjectiveUptoSaid : Prop := hashInjectiveUptoRow.holds Tryd.pinned (OpenSpec.upto hashInjectiveSpec)

end Rows
end Go.Proofs.YtecjnojbnklbbaaDoor
