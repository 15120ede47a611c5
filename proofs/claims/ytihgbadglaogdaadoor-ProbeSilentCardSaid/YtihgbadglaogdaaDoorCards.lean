/-
  DERIVED. GIVEN WITH THE SEED: THE CARDS: each row of YtihgbadglaogdaaDoorRows.lean that lists a variable, with what it lists TIED to the program's text (the seventh form; the later family's looks); each row that meets fmt, with fmt's text TOLD by the authors' own Lean function (tested against real Go, not proved from fmt's source: count such statements apart). THE CARD IS WHAT COUNTS. Prove the row's statement (the work); the ties are given (YtihgbadglaogdaaDoorTie.lean); close each card by the builder's one call (the guide's Derived/Test/ToyasCard.lean, 'card_holds'). Laid BY PROGRAM, IN A SANDBOX (cutbox-door.mjs). By AI agents, Wed Nov 11 2026. No macro, syntax, notation, axiom, sorry.
-/
import Derived.Test.YtihgbadglaogdaaDoorRows
import GoSem.ClaimSeven
namespace Go.Proofs.YtihgbadglaogdaaDoor
namespace Rows

/-- THE TIED CARD OF 'actorgridlaw5.ProbeWindows'. -/
def probeWindowsCard : Claim7 := { stood := { row := probeWindowsRow, standIns := [], harness := (true, "2c4a80827d89a748afb06bf504099833d92b6d3b33eed8d643f395e132aaf3d7"), looks := false }, kinds := [], alts := [], laidByText := true, laidKinds := [.data, .data], laidTests := true, laidLooks := .later }
def ProbeWindowsCardSaid : Prop := Claim7.holds Tryd.pinned (.plain (OpenSpec.ofChange probeWindowsSpec)) probeWindowsCard

/-- THE TIED CARD OF 'actorgridlaw5.ProbeStates'. -/
def probeStatesCard : Claim7 := { stood := { row := probeStatesRow, standIns := [], harness := (true, "2c4a80827d89a748afb06bf504099833d92b6d3b33eed8d643f395e132aaf3d7"), looks := false }, kinds := [], alts := [], laidByText := true, laidKinds := [.data, .data], laidTests := true, laidLooks := .later }
def ProbeStatesCardSaid : Prop := Claim7.holds Tryd.pinned (.plain (OpenSpec.ofChange probeStatesSpec)) probeStatesCard

/-- THE TIED CARD OF 'actorgridlaw5.ProbePlays'. -/
def probePlaysCard : Claim7 := { stood := { row := probePlaysRow, standIns := [], harness := (true, "2c4a80827d89a748afb06bf504099833d92b6d3b33eed8d643f395e132aaf3d7"), looks := false }, kinds := [], alts := [], laidByText := true, laidKinds := [.data, .data], laidTests := true, laidLooks := .later }
def ProbePlaysCardSaid : Prop := Claim7.holds Tryd.pinned (.plain (OpenSpec.ofChange probePlaysSpec)) probePlaysCard

/-- THE TIED CARD OF 'actorgridlaw5.ProbeCounts'. -/
def probeCountsCard : Claim7 := { stood := { row := probeCountsRow, standIns := [], harness := (true, "2c4a80827d89a748afb06bf504099833d92b6d3b33eed8d643f395e132aaf3d7"), looks := false }, kinds := [], alts := [], laidByText := true, laidKinds := [.data, .data], laidTests := true, laidLooks := .later }
def ProbeCountsCardSaid : Prop := Claim7.holds Tryd.pinned (.plain (OpenSpec.ofChange probeCountsSpec)) probeCountsCard

/-- THE TIED CARD OF 'actorgridlaw5.ProbeSilent'. -/
def probeSilentCard : Claim7 := { stood := { row := probeSilentRow, standIns := [], harness := (true, "2c4a80827d89a748afb06bf504099833d92b6d3b33eed8d643f395e132aaf3d7"), looks := false }, kinds := [], alts := [], laidByText := true, laidKinds := [.data, .data], laidTests := true, laidLooks := .later }
def ProbeSilentCardSaid : Prop := Claim7.holds Tryd.pinned (.plain (OpenSpec.ofChange probeSilentSpec)) probeSilentCard

/-- THE TIED CARD OF 'actorgridlaw5.ProbeOnce'. -/
def probeOnceCard : Claim7 := { stood := { row := probeOnceRow, standIns := [], harness := (true, "2c4a80827d89a748afb06bf504099833d92b6d3b33eed8d643f395e132aaf3d7"), looks := false }, kinds := [], alts := [], laidByText := true, laidKinds := [.data, .data], laidTests := true, laidLooks := .later }
def ProbeOnceCardSaid : Prop := Claim7.holds Tryd.pinned (.plain (OpenSpec.ofChange probeOnceSpec)) probeOnceCard

/-- THE SECOND FORM's CARD OF 'actorgridlaw5.ProbeWindows'. -/
def probeWindowsUptoCard : Claim7 := { stood := { row := probeWindowsUptoRow, standIns := [], harness := (true, "2c4a80827d89a748afb06bf504099833d92b6d3b33eed8d643f395e132aaf3d7"), looks := false }, kinds := [], alts := [], laidByText := true, laidKinds := [.data, .data], laidTests := true, laidLooks := .later }
def ProbeWindowsUptoCardSaid : Prop := Claim7.holds Tryd.pinned (.plain (OpenSpec.upto probeWindowsSpec)) probeWindowsUptoCard

/-- THE SECOND FORM's CARD OF 'actorgridlaw5.ProbeStates'. -/
def probeStatesUptoCard : Claim7 := { stood := { row := probeStatesUptoRow, standIns := [], harness := (true, "2c4a80827d89a748afb06bf504099833d92b6d3b33eed8d643f395e132aaf3d7"), looks := false }, kinds := [], alts := [], laidByText := true, laidKinds := [.data, .data], laidTests := true, laidLooks := .later }
def ProbeStatesUptoCardSaid : Prop := Claim7.holds Tryd.pinned (.plain (OpenSpec.upto probeStatesSpec)) probeStatesUptoCard

/-- THE SECOND FORM's CARD OF 'actorgridlaw5.ProbePlays'. -/
def probePlaysUptoCard : Claim7 := { stood := { row := probePlaysUptoRow, standIns := [], harness := (true, "2c4a80827d89a748afb06bf504099833d92b6d3b33eed8d643f395e132aaf3d7"), looks := false }, kinds := [], alts := [], laidByText := true, laidKinds := [.data, .data], laidTests := true, laidLooks := .later }
def ProbePlaysUptoCardSaid : Prop := Claim7.holds Tryd.pinned (.plain (OpenSpec.upto probePlaysSpec)) probePlaysUptoCard

/-- THE SECOND FORM's CARD OF 'actorgridlaw5.ProbeCounts'. -/
def probeCountsUptoCard : Claim7 := { stood := { row := probeCountsUptoRow, standIns := [], harness := (true, "2c4a80827d89a748afb06bf504099833d92b6d3b33eed8d643f395e132aaf3d7"), looks := false }, kinds := [], alts := [], laidByText := true, laidKinds := [.data, .data], laidTests := true, laidLooks := .later }
def ProbeCountsUptoCardSaid : Prop := Claim7.holds Tryd.pinned (.plain (OpenSpec.upto probeCountsSpec)) probeCountsUptoCard

/-- THE SECOND FORM's CARD OF 'actorgridlaw5.ProbeSilent'. -/
def probeSilentUptoCard : Claim7 := { stood := { row := probeSilentUptoRow, standIns := [], harness := (true, "2c4a80827d89a748afb06bf504099833d92b6d3b33eed8d643f395e132aaf3d7"), looks := false }, kinds := [], alts := [], laidByText := true, laidKinds := [.data, .data], laidTests := true, laidLooks := .later }
def ProbeSilentUptoCardSaid : Prop := Claim7.holds Tryd.pinned (.plain (OpenSpec.upto probeSilentSpec)) probeSilentUptoCard

/-- THE SECOND FORM's CARD OF 'actorgridlaw5.ProbeOnce'. -/
def probeOnceUptoCard : Claim7 := { stood := { row := probeOnceUptoRow, standIns := [], harness := (true, "2c4a80827d89a748afb06bf504099833d92b6d3b33eed8d643f395e132aaf3d7"), looks := false }, kinds := [], alts := [], laidByText := true, laidKinds := [.data, .data], laidTests := true, laidLooks := .later }
def ProbeOnceUptoCardSaid : Prop := Claim7.holds Tryd.pinned (.plain (OpenSpec.upto probeOnceSpec)) probeOnceUptoCard
end Rows
end Go.Proofs.YtihgbadglaogdaaDoor
