/-
  DERIVED. GIVEN WITH THE SEED: THE CARDS: each row of YtipipjbpjpdcbaaDoorRows.lean that lists a variable, with what it lists TIED to the program's text (the seventh form; the later family's looks); each row that meets fmt, with fmt's text TOLD by the authors' own Lean function (tested against real Go, not proved from fmt's source: count such statements apart). THE CARD IS WHAT COUNTS. Prove the row's statement (the work); the ties are given (YtipipjbpjpdcbaaDoorTie.lean); close each card by the builder's one call (the guide's Derived/Test/ToyasCard.lean, 'card_holds'). Laid BY PROGRAM, IN A SANDBOX (cutbox-door.mjs). By AI agents, Wed Nov 11 2026. No macro, syntax, notation, axiom, sorry.
-/
import Derived.Test.YtipipjbpjpdcbaaDoorRows
import GoSem.ClaimSeven
namespace Go.Proofs.YtipipjbpjpdcbaaDoor
namespace Rows

/-- THE TIED CARD OF 'actorgridlaw7.CutTells'. -/
def cutTellsCard : Claim7 := { stood := { row := cutTellsRow, standIns := [], harness := (true, "a27d50c6cdef0be6972d31050599ea38cf4b5e24113b78cbf88b20f5f3e614a6"), looks := false }, kinds := [], alts := [], laidByText := true, laidKinds := [.data, .data], laidTests := true, laidLooks := .later }
def CutTellsCardSaid : Prop := Claim7.holds Tryd.pinned (.plain (OpenSpec.ofChange cutTellsSpec)) cutTellsCard

/-- THE TIED CARD OF 'actorgridlaw7.CutHolds'. -/
def cutHoldsCard : Claim7 := { stood := { row := cutHoldsRow, standIns := [], harness := (true, "a27d50c6cdef0be6972d31050599ea38cf4b5e24113b78cbf88b20f5f3e614a6"), looks := false }, kinds := [], alts := [], laidByText := true, laidKinds := [.data, .data], laidTests := true, laidLooks := .later }
def CutHoldsCardSaid : Prop := Claim7.holds Tryd.pinned (.plain (OpenSpec.ofChange cutHoldsSpec)) cutHoldsCard

/-- THE TIED CARD OF 'actorgridlaw7.CutCrash'. -/
def cutCrashCard : Claim7 := { stood := { row := cutCrashRow, standIns := [], harness := (true, "a27d50c6cdef0be6972d31050599ea38cf4b5e24113b78cbf88b20f5f3e614a6"), looks := false }, kinds := [], alts := [], laidByText := true, laidKinds := [.data, .data], laidTests := true, laidLooks := .later }
def CutCrashCardSaid : Prop := Claim7.holds Tryd.pinned (.plain (OpenSpec.ofChange cutCrashSpec)) cutCrashCard

/-- THE TIED CARD OF 'actorgridlaw7.CutNoise'. -/
def cutNoiseCard : Claim7 := { stood := { row := cutNoiseRow, standIns := [], harness := (true, "a27d50c6cdef0be6972d31050599ea38cf4b5e24113b78cbf88b20f5f3e614a6"), looks := false }, kinds := [], alts := [], laidByText := true, laidKinds := [.data, .data], laidTests := true, laidLooks := .later }
def CutNoiseCardSaid : Prop := Claim7.holds Tryd.pinned (.plain (OpenSpec.ofChange cutNoiseSpec)) cutNoiseCard

/-- THE TIED CARD OF 'actorgridlaw7.CutFull'. -/
def cutFullCard : Claim7 := { stood := { row := cutFullRow, standIns := [], harness := (true, "a27d50c6cdef0be6972d31050599ea38cf4b5e24113b78cbf88b20f5f3e614a6"), looks := false }, kinds := [], alts := [], laidByText := true, laidKinds := [.data, .data], laidTests := true, laidLooks := .later }
def CutFullCardSaid : Prop := Claim7.holds Tryd.pinned (.plain (OpenSpec.ofChange cutFullSpec)) cutFullCard

/-- THE TIED CARD OF 'actorgridlaw7.CutGrows'. -/
def cutGrowsCard : Claim7 := { stood := { row := cutGrowsRow, standIns := [], harness := (true, "a27d50c6cdef0be6972d31050599ea38cf4b5e24113b78cbf88b20f5f3e614a6"), looks := false }, kinds := [], alts := [], laidByText := true, laidKinds := [.data, .data], laidTests := true, laidLooks := .later }
def CutGrowsCardSaid : Prop := Claim7.holds Tryd.pinned (.plain (OpenSpec.ofChange cutGrowsSpec)) cutGrowsCard

/-- THE SECOND FORM's CARD OF 'actorgridlaw7.CutTells'. -/
def cutTellsUptoCard : Claim7 := { stood := { row := cutTellsUptoRow, standIns := [], harness := (true, "a27d50c6cdef0be6972d31050599ea38cf4b5e24113b78cbf88b20f5f3e614a6"), looks := false }, kinds := [], alts := [], laidByText := true, laidKinds := [.data, .data], laidTests := true, laidLooks := .later }
def CutTellsUptoCardSaid : Prop := Claim7.holds Tryd.pinned (.plain (OpenSpec.upto cutTellsSpec)) cutTellsUptoCard

/-- THE SECOND FORM's CARD OF 'actorgridlaw7.CutHolds'. -/
def cutHoldsUptoCard : Claim7 := { stood := { row := cutHoldsUptoRow, standIns := [], harness := (true, "a27d50c6cdef0be6972d31050599ea38cf4b5e24113b78cbf88b20f5f3e614a6"), looks := false }, kinds := [], alts := [], laidByText := true, laidKinds := [.data, .data], laidTests := true, laidLooks := .later }
def CutHoldsUptoCardSaid : Prop := Claim7.holds Tryd.pinned (.plain (OpenSpec.upto cutHoldsSpec)) cutHoldsUptoCard

/-- THE SECOND FORM's CARD OF 'actorgridlaw7.CutCrash'. -/
def cutCrashUptoCard : Claim7 := { stood := { row := cutCrashUptoRow, standIns := [], harness := (true, "a27d50c6cdef0be6972d31050599ea38cf4b5e24113b78cbf88b20f5f3e614a6"), looks := false }, kinds := [], alts := [], laidByText := true, laidKinds := [.data, .data], laidTests := true, laidLooks := .later }
def CutCrashUptoCardSaid : Prop := Claim7.holds Tryd.pinned (.plain (OpenSpec.upto cutCrashSpec)) cutCrashUptoCard

/-- THE SECOND FORM's CARD OF 'actorgridlaw7.CutNoise'. -/
def cutNoiseUptoCard : Claim7 := { stood := { row := cutNoiseUptoRow, standIns := [], harness := (true, "a27d50c6cdef0be6972d31050599ea38cf4b5e24113b78cbf88b20f5f3e614a6"), looks := false }, kinds := [], alts := [], laidByText := true, laidKinds := [.data, .data], laidTests := true, laidLooks := .later }
def CutNoiseUptoCardSaid : Prop := Claim7.holds Tryd.pinned (.plain (OpenSpec.upto cutNoiseSpec)) cutNoiseUptoCard

/-- THE SECOND FORM's CARD OF 'actorgridlaw7.CutFull'. -/
def cutFullUptoCard : Claim7 := { stood := { row := cutFullUptoRow, standIns := [], harness := (true, "a27d50c6cdef0be6972d31050599ea38cf4b5e24113b78cbf88b20f5f3e614a6"), looks := false }, kinds := [], alts := [], laidByText := true, laidKinds := [.data, .data], laidTests := true, laidLooks := .later }
def CutFullUptoCardSaid : Prop := Claim7.holds Tryd.pinned (.plain (OpenSpec.upto cutFullSpec)) cutFullUptoCard

/-- THE SECOND FORM's CARD OF 'actorgridlaw7.CutGrows'. -/
def cutGrowsUptoCard : Claim7 := { stood := { row := cutGrowsUptoRow, standIns := [], harness := (true, "a27d50c6cdef0be6972d31050599ea38cf4b5e24113b78cbf88b20f5f3e614a6"), looks := false }, kinds := [], alts := [], laidByText := true, laidKinds := [.data, .data], laidTests := true, laidLooks := .later }
def CutGrowsUptoCardSaid : Prop := Claim7.holds Tryd.pinned (.plain (OpenSpec.upto cutGrowsSpec)) cutGrowsUptoCard
end Rows
end Go.Proofs.YtipipjbpjpdcbaaDoor
