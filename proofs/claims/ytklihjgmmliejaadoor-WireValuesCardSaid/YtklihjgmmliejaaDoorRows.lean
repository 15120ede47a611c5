/-
  NARROWER THAN 'FOR EVERY INPUT', by the rows' own cells (each row's printed sentence says how): WireNumbers: laid · WireTexts: laid · WireValues: laid · WireFrames: laid · WireRoundTrip: laid · WireCanonical: laid · WireTruncated: laid · WireBursts: laid · WireSums: laid · WireAppends: laid.
  DERIVED. THE GIVEN ROWS OF THIS SEAT. 10 by the template 'for every input the law returns true; each argument reads behind the call as it read before'; 0 by the template 'total and deterministic' (their statements: YtklihjgmmliejaaDoorTotals.lean).
  GIVEN WITH THE SEED: the statements are not yours to turn. If you find one false, say at which input.
  Laid BY PROGRAM, IN A SANDBOX (cutbox-rows.mjs): the forced cells as the released guide's own fill.sh prints them over the translation 2c4c9e2c8629bfb2… (all of the seat's roots in one cut). By AI agents, Wed Nov 11 2026. No macro, syntax, notation, axiom, sorry.
-/
import Derived.Test.YtklihjgmmliejaaDoorChecked
import GoSem.Claim
import GoSem.ClaimJoined
import GoSem.ClaimMapViews
import Derived.JoinedTies
import Derived.KernelRfl
namespace Go.Proofs.YtklihjgmmliejaaDoor
/- THE CELL 'sum', in the pinned program and in every row, IS THE sha256 OF THE DUMP (.gsa) THAT YtklihjgmmliejaaDoorProg.lean LOADS. Nothing in Lean hashes anything: it is a label: what it is worth is what the hold of that sum in a sandbox is worth. -/
noncomputable def Tryd.pinned : Pinned := { name := "ytklihjgmmliejaadoor", sum := "2c4c9e2c8629bfb2453529fbefd300bc5d5512f76378e35f14d8956cd37ef52d", checked := Tryd.checked }
namespace Rows
def none {H : Type} : Left H := { results := [], args := [] }

/- WHAT THE LISTED PACKAGE-LEVEL VARIABLES READ AS WHEN THE CALL BEGINS. Each datum BY PROGRAM (the guide's laid-datum.mjs) off the statement by which the dump's own 'gosem.cut.vars' lays the variable. In a bare row this is a premise. The card (YtklihjgmmliejaaDoorCards.lean) ties it to the program's text. -/
def laid_actorgrid_wire_halfSums {H : Type} : DataW H := .agg [.lit (.int .u32 0), .lit (.int .u32 498536548), .lit (.int .u32 997073096), .lit (.int .u32 651767980), .lit (.int .u32 1994146192), .lit (.int .u32 1802195444), .lit (.int .u32 1303535960), .lit (.int .u32 1342533948), .lit (.int .u32 3988292384), .lit (.int .u32 4027552580), .lit (.int .u32 3604390888), .lit (.int .u32 3412177804), .lit (.int .u32 2607071920), .lit (.int .u32 2262029012), .lit (.int .u32 2685067896), .lit (.int .u32 3183342108)]

/-- 'actorgridlaw1.WireNumbers': WHATEVER THE INPUT: true; the input reads as it did. -/
def wireNumbersSpec : ChangeSpec := { name := "wireNumbers", fn := fun _ => fun
  | [d1, d2, d3] => { results := [.lit (.bool true)], args := [d1, d2, d3] }
  | _ => none }
def wireNumbersRow : OpenClaim := { program := "ytklihjgmmliejaadoor", sum := "2c4c9e2c8629bfb2453529fbefd300bc5d5512f76378e35f14d8956cd37ef52d", func := "actorgrid/actorgridlaw1.WireNumbers", spec := "wireNumbers", unfollowed := true, recurses := true, named := ["actorgrid/wire.halfSums"], apart := false, laid := [("actorgrid/wire.halfSums", laid_actorgrid_wire_halfSums)] }
def WireNumbersSaid : Prop := wireNumbersRow.holds Tryd.pinned (OpenSpec.ofChange wireNumbersSpec)

/-- ITS FALSE NEIGHBOUR: 'it returns false'. Refute it at one input. -/
def wireNumbersWrong : ChangeSpec := { name := "wireNumbers", fn := fun _ => fun
  | [d1, d2, d3] => { results := [.lit (.bool false)], args := [d1, d2, d3] }
  | _ => none }
def WireNumbersWrongFalsely : Prop := wireNumbersRow.holds Tryd.pinned (OpenSpec.ofChange wireNumbersWrong)

/-- 'actorgridlaw1.WireTexts': WHATEVER THE INPUT: true; the input reads as it did. -/
def wireTextsSpec : ChangeSpec := { name := "wireTexts", fn := fun _ => fun
  | [d1, d2, d3, d4, d5] => { results := [.lit (.bool true)], args := [d1, d2, d3, d4, d5] }
  | _ => none }
def wireTextsRow : OpenClaim := { program := "ytklihjgmmliejaadoor", sum := "2c4c9e2c8629bfb2453529fbefd300bc5d5512f76378e35f14d8956cd37ef52d", func := "actorgrid/actorgridlaw1.WireTexts", spec := "wireTexts", unfollowed := true, recurses := true, named := ["actorgrid/wire.halfSums"], apart := false, laid := [("actorgrid/wire.halfSums", laid_actorgrid_wire_halfSums)] }
def WireTextsSaid : Prop := wireTextsRow.holds Tryd.pinned (OpenSpec.ofChange wireTextsSpec)

/-- ITS FALSE NEIGHBOUR: 'it returns false'. Refute it at one input. -/
def wireTextsWrong : ChangeSpec := { name := "wireTexts", fn := fun _ => fun
  | [d1, d2, d3, d4, d5] => { results := [.lit (.bool false)], args := [d1, d2, d3, d4, d5] }
  | _ => none }
def WireTextsWrongFalsely : Prop := wireTextsRow.holds Tryd.pinned (OpenSpec.ofChange wireTextsWrong)

/-- 'actorgridlaw1.WireValues': WHATEVER THE INPUT: true; the input reads as it did. -/
def wireValuesSpec : ChangeSpec := { name := "wireValues", fn := fun _ => fun
  | [d1, d2, d3] => { results := [.lit (.bool true)], args := [d1, d2, d3] }
  | _ => none }
def wireValuesRow : OpenClaim := { program := "ytklihjgmmliejaadoor", sum := "2c4c9e2c8629bfb2453529fbefd300bc5d5512f76378e35f14d8956cd37ef52d", func := "actorgrid/actorgridlaw1.WireValues", spec := "wireValues", unfollowed := true, recurses := true, named := ["actorgrid/wire.halfSums"], apart := false, laid := [("actorgrid/wire.halfSums", laid_actorgrid_wire_halfSums)] }
def WireValuesSaid : Prop := wireValuesRow.holds Tryd.pinned (OpenSpec.ofChange wireValuesSpec)

/-- ITS FALSE NEIGHBOUR: 'it returns false'. Refute it at one input. -/
def wireValuesWrong : ChangeSpec := { name := "wireValues", fn := fun _ => fun
  | [d1, d2, d3] => { results := [.lit (.bool false)], args := [d1, d2, d3] }
  | _ => none }
def WireValuesWrongFalsely : Prop := wireValuesRow.holds Tryd.pinned (OpenSpec.ofChange wireValuesWrong)

/-- 'actorgridlaw1.WireFrames': WHATEVER THE INPUT: true; the input reads as it did. -/
def wireFramesSpec : ChangeSpec := { name := "wireFrames", fn := fun _ => fun
  | [d1, d2, d3] => { results := [.lit (.bool true)], args := [d1, d2, d3] }
  | _ => none }
def wireFramesRow : OpenClaim := { program := "ytklihjgmmliejaadoor", sum := "2c4c9e2c8629bfb2453529fbefd300bc5d5512f76378e35f14d8956cd37ef52d", func := "actorgrid/actorgridlaw1.WireFrames", spec := "wireFrames", unfollowed := true, recurses := true, named := ["actorgrid/wire.halfSums"], apart := false, laid := [("actorgrid/wire.halfSums", laid_actorgrid_wire_halfSums)] }
def WireFramesSaid : Prop := wireFramesRow.holds Tryd.pinned (OpenSpec.ofChange wireFramesSpec)

/-- ITS FALSE NEIGHBOUR: 'it returns false'. Refute it at one input. -/
def wireFramesWrong : ChangeSpec := { name := "wireFrames", fn := fun _ => fun
  | [d1, d2, d3] => { results := [.lit (.bool false)], args := [d1, d2, d3] }
  | _ => none }
def WireFramesWrongFalsely : Prop := wireFramesRow.holds Tryd.pinned (OpenSpec.ofChange wireFramesWrong)

/-- 'actorgridlaw1.WireRoundTrip': WHATEVER THE INPUT: true; the input reads as it did. -/
def wireRoundTripSpec : ChangeSpec := { name := "wireRoundTrip", fn := fun _ => fun
  | [d1, d2, d3, d4, d5] => { results := [.lit (.bool true)], args := [d1, d2, d3, d4, d5] }
  | _ => none }
def wireRoundTripRow : OpenClaim := { program := "ytklihjgmmliejaadoor", sum := "2c4c9e2c8629bfb2453529fbefd300bc5d5512f76378e35f14d8956cd37ef52d", func := "actorgrid/actorgridlaw1.WireRoundTrip", spec := "wireRoundTrip", unfollowed := true, recurses := true, named := ["actorgrid/wire.halfSums"], apart := false, laid := [("actorgrid/wire.halfSums", laid_actorgrid_wire_halfSums)] }
def WireRoundTripSaid : Prop := wireRoundTripRow.holds Tryd.pinned (OpenSpec.ofChange wireRoundTripSpec)

/-- ITS FALSE NEIGHBOUR: 'it returns false'. Refute it at one input. -/
def wireRoundTripWrong : ChangeSpec := { name := "wireRoundTrip", fn := fun _ => fun
  | [d1, d2, d3, d4, d5] => { results := [.lit (.bool false)], args := [d1, d2, d3, d4, d5] }
  | _ => none }
def WireRoundTripWrongFalsely : Prop := wireRoundTripRow.holds Tryd.pinned (OpenSpec.ofChange wireRoundTripWrong)

/-- 'actorgridlaw1.WireCanonical': WHATEVER THE INPUT: true; the input reads as it did. -/
def wireCanonicalSpec : ChangeSpec := { name := "wireCanonical", fn := fun _ => fun
  | [d1, d2] => { results := [.lit (.bool true)], args := [d1, d2] }
  | _ => none }
def wireCanonicalRow : OpenClaim := { program := "ytklihjgmmliejaadoor", sum := "2c4c9e2c8629bfb2453529fbefd300bc5d5512f76378e35f14d8956cd37ef52d", func := "actorgrid/actorgridlaw1.WireCanonical", spec := "wireCanonical", unfollowed := true, recurses := true, named := ["actorgrid/wire.halfSums"], apart := false, laid := [("actorgrid/wire.halfSums", laid_actorgrid_wire_halfSums)] }
def WireCanonicalSaid : Prop := wireCanonicalRow.holds Tryd.pinned (OpenSpec.ofChange wireCanonicalSpec)

/-- ITS FALSE NEIGHBOUR: 'it returns false'. Refute it at one input. -/
def wireCanonicalWrong : ChangeSpec := { name := "wireCanonical", fn := fun _ => fun
  | [d1, d2] => { results := [.lit (.bool false)], args := [d1, d2] }
  | _ => none }
def WireCanonicalWrongFalsely : Prop := wireCanonicalRow.holds Tryd.pinned (OpenSpec.ofChange wireCanonicalWrong)

/-- 'actorgridlaw1.WireTruncated': WHATEVER THE INPUT: true; the input reads as it did. -/
def wireTruncatedSpec : ChangeSpec := { name := "wireTruncated", fn := fun _ => fun
  | [d1, d2, d3] => { results := [.lit (.bool true)], args := [d1, d2, d3] }
  | _ => none }
def wireTruncatedRow : OpenClaim := { program := "ytklihjgmmliejaadoor", sum := "2c4c9e2c8629bfb2453529fbefd300bc5d5512f76378e35f14d8956cd37ef52d", func := "actorgrid/actorgridlaw1.WireTruncated", spec := "wireTruncated", unfollowed := true, recurses := true, named := ["actorgrid/wire.halfSums"], apart := false, laid := [("actorgrid/wire.halfSums", laid_actorgrid_wire_halfSums)] }
def WireTruncatedSaid : Prop := wireTruncatedRow.holds Tryd.pinned (OpenSpec.ofChange wireTruncatedSpec)

/-- ITS FALSE NEIGHBOUR: 'it returns false'. Refute it at one input. -/
def wireTruncatedWrong : ChangeSpec := { name := "wireTruncated", fn := fun _ => fun
  | [d1, d2, d3] => { results := [.lit (.bool false)], args := [d1, d2, d3] }
  | _ => none }
def WireTruncatedWrongFalsely : Prop := wireTruncatedRow.holds Tryd.pinned (OpenSpec.ofChange wireTruncatedWrong)

/-- 'actorgridlaw1.WireBursts': WHATEVER THE INPUT: true; the input reads as it did. -/
def wireBurstsSpec : ChangeSpec := { name := "wireBursts", fn := fun _ => fun
  | [d1, d2, d3, d4] => { results := [.lit (.bool true)], args := [d1, d2, d3, d4] }
  | _ => none }
def wireBurstsRow : OpenClaim := { program := "ytklihjgmmliejaadoor", sum := "2c4c9e2c8629bfb2453529fbefd300bc5d5512f76378e35f14d8956cd37ef52d", func := "actorgrid/actorgridlaw1.WireBursts", spec := "wireBursts", unfollowed := true, recurses := true, named := ["actorgrid/wire.halfSums"], apart := false, laid := [("actorgrid/wire.halfSums", laid_actorgrid_wire_halfSums)] }
def WireBurstsSaid : Prop := wireBurstsRow.holds Tryd.pinned (OpenSpec.ofChange wireBurstsSpec)

/-- ITS FALSE NEIGHBOUR: 'it returns false'. Refute it at one input. -/
def wireBurstsWrong : ChangeSpec := { name := "wireBursts", fn := fun _ => fun
  | [d1, d2, d3, d4] => { results := [.lit (.bool false)], args := [d1, d2, d3, d4] }
  | _ => none }
def WireBurstsWrongFalsely : Prop := wireBurstsRow.holds Tryd.pinned (OpenSpec.ofChange wireBurstsWrong)

/-- 'actorgridlaw1.WireSums': WHATEVER THE INPUT: true; the input reads as it did. -/
def wireSumsSpec : ChangeSpec := { name := "wireSums", fn := fun _ => fun
  | [d1, d2] => { results := [.lit (.bool true)], args := [d1, d2] }
  | _ => none }
def wireSumsRow : OpenClaim := { program := "ytklihjgmmliejaadoor", sum := "2c4c9e2c8629bfb2453529fbefd300bc5d5512f76378e35f14d8956cd37ef52d", func := "actorgrid/actorgridlaw1.WireSums", spec := "wireSums", unfollowed := true, recurses := true, named := ["actorgrid/wire.halfSums"], apart := false, laid := [("actorgrid/wire.halfSums", laid_actorgrid_wire_halfSums)] }
def WireSumsSaid : Prop := wireSumsRow.holds Tryd.pinned (OpenSpec.ofChange wireSumsSpec)

/-- ITS FALSE NEIGHBOUR: 'it returns false'. Refute it at one input. -/
def wireSumsWrong : ChangeSpec := { name := "wireSums", fn := fun _ => fun
  | [d1, d2] => { results := [.lit (.bool false)], args := [d1, d2] }
  | _ => none }
def WireSumsWrongFalsely : Prop := wireSumsRow.holds Tryd.pinned (OpenSpec.ofChange wireSumsWrong)

/-- 'actorgridlaw1.WireAppends': WHATEVER THE INPUT: true; the input reads as it did. -/
def wireAppendsSpec : ChangeSpec := { name := "wireAppends", fn := fun _ => fun
  | [d1, d2, d3, d4, d5] => { results := [.lit (.bool true)], args := [d1, d2, d3, d4, d5] }
  | _ => none }
def wireAppendsRow : OpenClaim := { program := "ytklihjgmmliejaadoor", sum := "2c4c9e2c8629bfb2453529fbefd300bc5d5512f76378e35f14d8956cd37ef52d", func := "actorgrid/actorgridlaw1.WireAppends", spec := "wireAppends", unfollowed := true, recurses := true, named := ["actorgrid/wire.halfSums"], apart := false, laid := [("actorgrid/wire.halfSums", laid_actorgrid_wire_halfSums)] }
def WireAppendsSaid : Prop := wireAppendsRow.holds Tryd.pinned (OpenSpec.ofChange wireAppendsSpec)

/-- ITS FALSE NEIGHBOUR: 'it returns false'. Refute it at one input. -/
def wireAppendsWrong : ChangeSpec := { name := "wireAppends", fn := fun _ => fun
  | [d1, d2, d3, d4, d5] => { results := [.lit (.bool false)], args := [d1, d2, d3, d4, d5] }
  | _ => none }
def WireAppendsWrongFalsely : Prop := wireAppendsRow.holds Tryd.pinned (OpenSpec.ofChange wireAppendsWrong)

/- THE SECOND FORM. 'bulk': how many values and letters a reading holds, each counted each time it is reached (what is shared counts as often as it is met; a slice's spare places count too). A statement '..UptoSaid' is the law's where the arguments, and the package variables that the reading takes, are together of bulk at most 1048576: NARROWER than '..Said'. Prove '..Said' where nothing that the law and all that it calls make is longer than what came in: it says more and counts as full. Else prove '..UptoSaid'. A law counts once. -/
mutual
def uptoBulk {H : Type} : DataW H → Nat
  | .lit (.string bytes) => bytes.length + 1
  | .lit _ => 1
  | .nil => 1
  | .ptr d => uptoBulk d + 1
  | .slice elems spare => uptoBulkAll elems + uptoBulkAll spare + 1
  | .agg parts => uptoBulkAll parts + 1
  | .iface _ d => uptoBulk d + 1
  | .map entries => uptoBulkEntries entries + 1
  | .held _ => 1
def uptoBulkAll {H : Type} : List (DataW H) → Nat
  | [] => 0
  | d :: r => uptoBulk d + uptoBulkAll r
def uptoBulkEntries {H : Type} : List (Lit × DataW H) → Nat
  | [] => 0
  | x :: r => uptoBulkEntry x + uptoBulkEntries r
def uptoBulkEntry {H : Type} : Lit × DataW H → Nat
  | (.string bytes, d) => bytes.length + uptoBulk d + 1
  | (_, d) => uptoBulk d + 1
 end
def uptoSmall : (H : Type) → List (DataW H) → Bool := fun _ ds => decide (uptoBulkAll ds ≤ 1048576)
def OpenSpec.upto (s : _root_.Go.ChangeSpec) : _root_.Go.OpenSpec := { _root_.Go.OpenSpec.ofChange s with cond := some uptoSmall }

/-- 'actorgridlaw1.WireNumbers', WHERE WHAT IT READS IS OF BULK AT MOST 1048576: true; the input reads as it did. -/
def wireNumbersUptoRow : OpenClaim := { program := "ytklihjgmmliejaadoor", sum := "2c4c9e2c8629bfb2453529fbefd300bc5d5512f76378e35f14d8956cd37ef52d", func := "actorgrid/actorgridlaw1.WireNumbers", spec := "wireNumbers", unfollowed := true, recurses := true, named := ["actorgrid/wire.halfSums"], apart := false, laid := [("actorgrid/wire.halfSums", laid_actorgrid_wire_halfSums)], narrowed := true }
def WireNumbersUptoSaid : Prop := wireNumbersUptoRow.holds Tryd.pinned (OpenSpec.upto wireNumbersSpec)

/-- 'actorgridlaw1.WireTexts', WHERE WHAT IT READS IS OF BULK AT MOST 1048576: true; the input reads as it did. -/
def wireTextsUptoRow : OpenClaim := { program := "ytklihjgmmliejaadoor", sum := "2c4c9e2c8629bfb2453529fbefd300bc5d5512f76378e35f14d8956cd37ef52d", func := "actorgrid/actorgridlaw1.WireTexts", spec := "wireTexts", unfollowed := true, recurses := true, named := ["actorgrid/wire.halfSums"], apart := false, laid := [("actorgrid/wire.halfSums", laid_actorgrid_wire_halfSums)], narrowed := true }
def WireTextsUptoSaid : Prop := wireTextsUptoRow.holds Tryd.pinned (OpenSpec.upto wireTextsSpec)

/-- 'actorgridlaw1.WireValues', WHERE WHAT IT READS IS OF BULK AT MOST 1048576: true; the input reads as it did. -/
def wireValuesUptoRow : OpenClaim := { program := "ytklihjgmmliejaadoor", sum := "2c4c9e2c8629bfb2453529fbefd300bc5d5512f76378e35f14d8956cd37ef52d", func := "actorgrid/actorgridlaw1.WireValues", spec := "wireValues", unfollowed := true, recurses := true, named := ["actorgrid/wire.halfSums"], apart := false, laid := [("actorgrid/wire.halfSums", laid_actorgrid_wire_halfSums)], narrowed := true }
def WireValuesUptoSaid : Prop := wireValuesUptoRow.holds Tryd.pinned (OpenSpec.upto wireValuesSpec)

/-- 'actorgridlaw1.WireFrames', WHERE WHAT IT READS IS OF BULK AT MOST 1048576: true; the input reads as it did. -/
def wireFramesUptoRow : OpenClaim := { program := "ytklihjgmmliejaadoor", sum := "2c4c9e2c8629bfb2453529fbefd300bc5d5512f76378e35f14d8956cd37ef52d", func := "actorgrid/actorgridlaw1.WireFrames", spec := "wireFrames", unfollowed := true, recurses := true, named := ["actorgrid/wire.halfSums"], apart := false, laid := [("actorgrid/wire.halfSums", laid_actorgrid_wire_halfSums)], narrowed := true }
def WireFramesUptoSaid : Prop := wireFramesUptoRow.holds Tryd.pinned (OpenSpec.upto wireFramesSpec)

/-- 'actorgridlaw1.WireRoundTrip', WHERE WHAT IT READS IS OF BULK AT MOST 1048576: true; the input reads as it did. -/
def wireRoundTripUptoRow : OpenClaim := { program := "ytklihjgmmliejaadoor", sum := "2c4c9e2c8629bfb2453529fbefd300bc5d5512f76378e35f14d8956cd37ef52d", func := "actorgrid/actorgridlaw1.WireRoundTrip", spec := "wireRoundTrip", unfollowed := true, recurses := true, named := ["actorgrid/wire.halfSums"], apart := false, laid := [("actorgrid/wire.halfSums", laid_actorgrid_wire_halfSums)], narrowed := true }
def WireRoundTripUptoSaid : Prop := wireRoundTripUptoRow.holds Tryd.pinned (OpenSpec.upto wireRoundTripSpec)

/-- 'actorgridlaw1.WireCanonical', WHERE WHAT IT READS IS OF BULK AT MOST 1048576: true; the input reads as it did. -/
def wireCanonicalUptoRow : OpenClaim := { program := "ytklihjgmmliejaadoor", sum := "2c4c9e2c8629bfb2453529fbefd300bc5d5512f76378e35f14d8956cd37ef52d", func := "actorgrid/actorgridlaw1.WireCanonical", spec := "wireCanonical", unfollowed := true, recurses := true, named := ["actorgrid/wire.halfSums"], apart := false, laid := [("actorgrid/wire.halfSums", laid_actorgrid_wire_halfSums)], narrowed := true }
def WireCanonicalUptoSaid : Prop := wireCanonicalUptoRow.holds Tryd.pinned (OpenSpec.upto wireCanonicalSpec)

/-- 'actorgridlaw1.WireTruncated', WHERE WHAT IT READS IS OF BULK AT MOST 1048576: true; the input reads as it did. -/
def wireTruncatedUptoRow : OpenClaim := { program := "ytklihjgmmliejaadoor", sum := "2c4c9e2c8629bfb2453529fbefd300bc5d5512f76378e35f14d8956cd37ef52d", func := "actorgrid/actorgridlaw1.WireTruncated", spec := "wireTruncated", unfollowed := true, recurses := true, named := ["actorgrid/wire.halfSums"], apart := false, laid := [("actorgrid/wire.halfSums", laid_actorgrid_wire_halfSums)], narrowed := true }
def WireTruncatedUptoSaid : Prop := wireTruncatedUptoRow.holds Tryd.pinned (OpenSpec.upto wireTruncatedSpec)

/-- 'actorgridlaw1.WireBursts', WHERE WHAT IT READS IS OF BULK AT MOST 1048576: true; the input reads as it did. -/
def wireBurstsUptoRow : OpenClaim := { program := "ytklihjgmmliejaadoor", sum := "2c4c9e2c8629bfb2453529fbefd300bc5d5512f76378e35f14d8956cd37ef52d", func := "actorgrid/actorgridlaw1.WireBursts", spec := "wireBursts", unfollowed := true, recurses := true, named := ["actorgrid/wire.halfSums"], apart := false, laid := [("actorgrid/wire.halfSums", laid_actorgrid_wire_halfSums)], narrowed := true }
def WireBurstsUptoSaid : Prop := wireBurstsUptoRow.holds Tryd.pinned (OpenSpec.upto wireBurstsSpec)

/-- 'actorgridlaw1.WireSums', WHERE WHAT IT READS IS OF BULK AT MOST 1048576: true; the input reads as it did. -/
def wireSumsUptoRow : OpenClaim := { program := "ytklihjgmmliejaadoor", sum := "2c4c9e2c8629bfb2453529fbefd300bc5d5512f76378e35f14d8956cd37ef52d", func := "actorgrid/actorgridlaw1.WireSums", spec := "wireSums", unfollowed := true, recurses := true, named := ["actorgrid/wire.halfSums"], apart := false, laid := [("actorgrid/wire.halfSums", laid_actorgrid_wire_halfSums)], narrowed := true }
def WireSumsUptoSaid : Prop := wireSumsUptoRow.holds Tryd.pinned (OpenSpec.upto wireSumsSpec)

/-- 'actorgridlaw1.WireAppends', WHERE WHAT IT READS IS OF BULK AT MOST 1048576: true; the input reads as it did. -/
def wireAppendsUptoRow : OpenClaim := { program := "ytklihjgmmliejaadoor", sum := "2c4c9e2c8629bfb2453529fbefd300bc5d5512f76378e35f14d8956cd37ef52d", func := "actorgrid/actorgridlaw1.WireAppends", spec := "wireAppends", unfollowed := true, recurses := true, named := ["actorgrid/wire.halfSums"], apart := false, laid := [("actorgrid/wire.halfSums", laid_actorgrid_wire_halfSums)], narrowed := true }
def WireAppendsUptoSaid : Prop := wireAppendsUptoRow.holds Tryd.pinned (OpenSpec.upto wireAppendsSpec)

end Rows
end Go.Proofs.YtklihjgmmliejaaDoor
