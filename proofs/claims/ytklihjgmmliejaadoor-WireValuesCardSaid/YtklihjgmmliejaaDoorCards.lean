/-
  DERIVED. GIVEN WITH THE SEED: THE CARDS: each row of YtklihjgmmliejaaDoorRows.lean that lists a variable, with what it lists TIED to the program's text (the seventh form; the later family's looks); each row that meets fmt, with fmt's text TOLD by the authors' own Lean function (tested against real Go, not proved from fmt's source: count such statements apart). THE CARD IS WHAT COUNTS. Prove the row's statement (the work); the ties are given (YtklihjgmmliejaaDoorTie.lean); close each card by the builder's one call (the guide's Derived/Test/ToyasCard.lean, 'card_holds'). Laid BY PROGRAM, IN A SANDBOX (cutbox-door.mjs). By AI agents, Wed Nov 11 2026. No macro, syntax, notation, axiom, sorry.
-/
import Derived.Test.YtklihjgmmliejaaDoorRows
import GoSem.ClaimSeven
namespace Go.Proofs.YtklihjgmmliejaaDoor
namespace Rows

/-- THE TIED CARD OF 'actorgridlaw1.WireNumbers'. -/
def wireNumbersCard : Claim7 := { stood := { row := wireNumbersRow, standIns := [], harness := (true, "1c50a049ed2244e513c4c189f00489b7fbac23b67089db0bb4906cb9608dd468"), looks := false }, kinds := [], alts := [], laidByText := true, laidKinds := [.data], laidTests := true, laidLooks := .later }
def WireNumbersCardSaid : Prop := Claim7.holds Tryd.pinned (.plain (OpenSpec.ofChange wireNumbersSpec)) wireNumbersCard

/-- THE TIED CARD OF 'actorgridlaw1.WireTexts'. -/
def wireTextsCard : Claim7 := { stood := { row := wireTextsRow, standIns := [], harness := (true, "1c50a049ed2244e513c4c189f00489b7fbac23b67089db0bb4906cb9608dd468"), looks := false }, kinds := [], alts := [], laidByText := true, laidKinds := [.data], laidTests := true, laidLooks := .later }
def WireTextsCardSaid : Prop := Claim7.holds Tryd.pinned (.plain (OpenSpec.ofChange wireTextsSpec)) wireTextsCard

/-- THE TIED CARD OF 'actorgridlaw1.WireValues'. -/
def wireValuesCard : Claim7 := { stood := { row := wireValuesRow, standIns := [], harness := (true, "1c50a049ed2244e513c4c189f00489b7fbac23b67089db0bb4906cb9608dd468"), looks := false }, kinds := [], alts := [], laidByText := true, laidKinds := [.data], laidTests := true, laidLooks := .later }
def WireValuesCardSaid : Prop := Claim7.holds Tryd.pinned (.plain (OpenSpec.ofChange wireValuesSpec)) wireValuesCard

/-- THE TIED CARD OF 'actorgridlaw1.WireFrames'. -/
def wireFramesCard : Claim7 := { stood := { row := wireFramesRow, standIns := [], harness := (true, "1c50a049ed2244e513c4c189f00489b7fbac23b67089db0bb4906cb9608dd468"), looks := false }, kinds := [], alts := [], laidByText := true, laidKinds := [.data], laidTests := true, laidLooks := .later }
def WireFramesCardSaid : Prop := Claim7.holds Tryd.pinned (.plain (OpenSpec.ofChange wireFramesSpec)) wireFramesCard

/-- THE TIED CARD OF 'actorgridlaw1.WireRoundTrip'. -/
def wireRoundTripCard : Claim7 := { stood := { row := wireRoundTripRow, standIns := [], harness := (true, "1c50a049ed2244e513c4c189f00489b7fbac23b67089db0bb4906cb9608dd468"), looks := false }, kinds := [], alts := [], laidByText := true, laidKinds := [.data], laidTests := true, laidLooks := .later }
def WireRoundTripCardSaid : Prop := Claim7.holds Tryd.pinned (.plain (OpenSpec.ofChange wireRoundTripSpec)) wireRoundTripCard

/-- THE TIED CARD OF 'actorgridlaw1.WireCanonical'. -/
def wireCanonicalCard : Claim7 := { stood := { row := wireCanonicalRow, standIns := [], harness := (true, "1c50a049ed2244e513c4c189f00489b7fbac23b67089db0bb4906cb9608dd468"), looks := false }, kinds := [], alts := [], laidByText := true, laidKinds := [.data], laidTests := true, laidLooks := .later }
def WireCanonicalCardSaid : Prop := Claim7.holds Tryd.pinned (.plain (OpenSpec.ofChange wireCanonicalSpec)) wireCanonicalCard

/-- THE TIED CARD OF 'actorgridlaw1.WireTruncated'. -/
def wireTruncatedCard : Claim7 := { stood := { row := wireTruncatedRow, standIns := [], harness := (true, "1c50a049ed2244e513c4c189f00489b7fbac23b67089db0bb4906cb9608dd468"), looks := false }, kinds := [], alts := [], laidByText := true, laidKinds := [.data], laidTests := true, laidLooks := .later }
def WireTruncatedCardSaid : Prop := Claim7.holds Tryd.pinned (.plain (OpenSpec.ofChange wireTruncatedSpec)) wireTruncatedCard

/-- THE TIED CARD OF 'actorgridlaw1.WireBursts'. -/
def wireBurstsCard : Claim7 := { stood := { row := wireBurstsRow, standIns := [], harness := (true, "1c50a049ed2244e513c4c189f00489b7fbac23b67089db0bb4906cb9608dd468"), looks := false }, kinds := [], alts := [], laidByText := true, laidKinds := [.data], laidTests := true, laidLooks := .later }
def WireBurstsCardSaid : Prop := Claim7.holds Tryd.pinned (.plain (OpenSpec.ofChange wireBurstsSpec)) wireBurstsCard

/-- THE TIED CARD OF 'actorgridlaw1.WireSums'. -/
def wireSumsCard : Claim7 := { stood := { row := wireSumsRow, standIns := [], harness := (true, "1c50a049ed2244e513c4c189f00489b7fbac23b67089db0bb4906cb9608dd468"), looks := false }, kinds := [], alts := [], laidByText := true, laidKinds := [.data], laidTests := true, laidLooks := .later }
def WireSumsCardSaid : Prop := Claim7.holds Tryd.pinned (.plain (OpenSpec.ofChange wireSumsSpec)) wireSumsCard

/-- THE TIED CARD OF 'actorgridlaw1.WireAppends'. -/
def wireAppendsCard : Claim7 := { stood := { row := wireAppendsRow, standIns := [], harness := (true, "1c50a049ed2244e513c4c189f00489b7fbac23b67089db0bb4906cb9608dd468"), looks := false }, kinds := [], alts := [], laidByText := true, laidKinds := [.data], laidTests := true, laidLooks := .later }
def WireAppendsCardSaid : Prop := Claim7.holds Tryd.pinned (.plain (OpenSpec.ofChange wireAppendsSpec)) wireAppendsCard

/-- THE SECOND FORM's CARD OF 'actorgridlaw1.WireNumbers'. -/
def wireNumbersUptoCard : Claim7 := { stood := { row := wireNumbersUptoRow, standIns := [], harness := (true, "1c50a049ed2244e513c4c189f00489b7fbac23b67089db0bb4906cb9608dd468"), looks := false }, kinds := [], alts := [], laidByText := true, laidKinds := [.data], laidTests := true, laidLooks := .later }
def WireNumbersUptoCardSaid : Prop := Claim7.holds Tryd.pinned (.plain (OpenSpec.upto wireNumbersSpec)) wireNumbersUptoCard

/-- THE SECOND FORM's CARD OF 'actorgridlaw1.WireTexts'. -/
def wireTextsUptoCard : Claim7 := { stood := { row := wireTextsUptoRow, standIns := [], harness := (true, "1c50a049ed2244e513c4c189f00489b7fbac23b67089db0bb4906cb9608dd468"), looks := false }, kinds := [], alts := [], laidByText := true, laidKinds := [.data], laidTests := true, laidLooks := .later }
def WireTextsUptoCardSaid : Prop := Claim7.holds Tryd.pinned (.plain (OpenSpec.upto wireTextsSpec)) wireTextsUptoCard

/-- THE SECOND FORM's CARD OF 'actorgridlaw1.WireValues'. -/
def wireValuesUptoCard : Claim7 := { stood := { row := wireValuesUptoRow, standIns := [], harness := (true, "1c50a049ed2244e513c4c189f00489b7fbac23b67089db0bb4906cb9608dd468"), looks := false }, kinds := [], alts := [], laidByText := true, laidKinds := [.data], laidTests := true, laidLooks := .later }
def WireValuesUptoCardSaid : Prop := Claim7.holds Tryd.pinned (.plain (OpenSpec.upto wireValuesSpec)) wireValuesUptoCard

/-- THE SECOND FORM's CARD OF 'actorgridlaw1.WireFrames'. -/
def wireFramesUptoCard : Claim7 := { stood := { row := wireFramesUptoRow, standIns := [], harness := (true, "1c50a049ed2244e513c4c189f00489b7fbac23b67089db0bb4906cb9608dd468"), looks := false }, kinds := [], alts := [], laidByText := true, laidKinds := [.data], laidTests := true, laidLooks := .later }
def WireFramesUptoCardSaid : Prop := Claim7.holds Tryd.pinned (.plain (OpenSpec.upto wireFramesSpec)) wireFramesUptoCard

/-- THE SECOND FORM's CARD OF 'actorgridlaw1.WireRoundTrip'. -/
def wireRoundTripUptoCard : Claim7 := { stood := { row := wireRoundTripUptoRow, standIns := [], harness := (true, "1c50a049ed2244e513c4c189f00489b7fbac23b67089db0bb4906cb9608dd468"), looks := false }, kinds := [], alts := [], laidByText := true, laidKinds := [.data], laidTests := true, laidLooks := .later }
def WireRoundTripUptoCardSaid : Prop := Claim7.holds Tryd.pinned (.plain (OpenSpec.upto wireRoundTripSpec)) wireRoundTripUptoCard

/-- THE SECOND FORM's CARD OF 'actorgridlaw1.WireCanonical'. -/
def wireCanonicalUptoCard : Claim7 := { stood := { row := wireCanonicalUptoRow, standIns := [], harness := (true, "1c50a049ed2244e513c4c189f00489b7fbac23b67089db0bb4906cb9608dd468"), looks := false }, kinds := [], alts := [], laidByText := true, laidKinds := [.data], laidTests := true, laidLooks := .later }
def WireCanonicalUptoCardSaid : Prop := Claim7.holds Tryd.pinned (.plain (OpenSpec.upto wireCanonicalSpec)) wireCanonicalUptoCard

/-- THE SECOND FORM's CARD OF 'actorgridlaw1.WireTruncated'. -/
def wireTruncatedUptoCard : Claim7 := { stood := { row := wireTruncatedUptoRow, standIns := [], harness := (true, "1c50a049ed2244e513c4c189f00489b7fbac23b67089db0bb4906cb9608dd468"), looks := false }, kinds := [], alts := [], laidByText := true, laidKinds := [.data], laidTests := true, laidLooks := .later }
def WireTruncatedUptoCardSaid : Prop := Claim7.holds Tryd.pinned (.plain (OpenSpec.upto wireTruncatedSpec)) wireTruncatedUptoCard

/-- THE SECOND FORM's CARD OF 'actorgridlaw1.WireBursts'. -/
def wireBurstsUptoCard : Claim7 := { stood := { row := wireBurstsUptoRow, standIns := [], harness := (true, "1c50a049ed2244e513c4c189f00489b7fbac23b67089db0bb4906cb9608dd468"), looks := false }, kinds := [], alts := [], laidByText := true, laidKinds := [.data], laidTests := true, laidLooks := .later }
def WireBurstsUptoCardSaid : Prop := Claim7.holds Tryd.pinned (.plain (OpenSpec.upto wireBurstsSpec)) wireBurstsUptoCard

/-- THE SECOND FORM's CARD OF 'actorgridlaw1.WireSums'. -/
def wireSumsUptoCard : Claim7 := { stood := { row := wireSumsUptoRow, standIns := [], harness := (true, "1c50a049ed2244e513c4c189f00489b7fbac23b67089db0bb4906cb9608dd468"), looks := false }, kinds := [], alts := [], laidByText := true, laidKinds := [.data], laidTests := true, laidLooks := .later }
def WireSumsUptoCardSaid : Prop := Claim7.holds Tryd.pinned (.plain (OpenSpec.upto wireSumsSpec)) wireSumsUptoCard

/-- THE SECOND FORM's CARD OF 'actorgridlaw1.WireAppends'. -/
def wireAppendsUptoCard : Claim7 := { stood := { row := wireAppendsUptoRow, standIns := [], harness := (true, "1c50a049ed2244e513c4c189f00489b7fbac23b67089db0bb4906cb9608dd468"), looks := false }, kinds := [], alts := [], laidByText := true, laidKinds := [.data], laidTests := true, laidLooks := .later }
def WireAppendsUptoCardSaid : Prop := Claim7.holds Tryd.pinned (.plain (OpenSpec.upto wireAppendsSpec)) wireAppendsUptoCard
end Rows
end Go.Proofs.YtklihjgmmliejaaDoor
