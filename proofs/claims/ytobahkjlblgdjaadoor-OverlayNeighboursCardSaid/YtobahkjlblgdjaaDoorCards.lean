/-
  DERIVED. GIVEN WITH THE SEED: THE CARDS: each row of YtobahkjlblgdjaaDoorRows.lean that lists a variable, with what it lists TIED to the program's text (the seventh form; the later family's looks); each row that meets fmt, with fmt's text TOLD by the authors' own Lean function (tested against real Go, not proved from fmt's source: count such statements apart). THE CARD IS WHAT COUNTS. Prove the row's statement (the work); the ties are given (YtobahkjlblgdjaaDoorTie.lean); close each card by the builder's one call (the guide's Derived/Test/ToyasCard.lean, 'card_holds'). Laid BY PROGRAM, IN A SANDBOX (cutbox-door.mjs). By AI agents, Wed Nov 11 2026. No macro, syntax, notation, axiom, sorry.
-/
import Derived.Test.YtobahkjlblgdjaaDoorRows
import GoSem.ClaimSeven
namespace Go.Proofs.YtobahkjlblgdjaaDoor
namespace Rows

/-- THE TIED CARD OF 'actorgridlaw4.OverlayTells'. -/
def overlayTellsCard : Claim7 := { stood := { row := overlayTellsRow, standIns := [], harness := (true, "185a42ecdc02e4ff03a5a2259b28d11c62eee37cd1858e4577a61aefed667a63"), looks := false }, kinds := [], alts := [], laidByText := true, laidKinds := [.data, .data], laidTests := true, laidLooks := .later }
def OverlayTellsCardSaid : Prop := Claim7.holds Tryd.pinned (.plain (OpenSpec.ofChange overlayTellsSpec)) overlayTellsCard

/-- THE TIED CARD OF 'actorgridlaw4.OverlayCircle'. -/
def overlayCircleCard : Claim7 := { stood := { row := overlayCircleRow, standIns := [], harness := (true, "185a42ecdc02e4ff03a5a2259b28d11c62eee37cd1858e4577a61aefed667a63"), looks := false }, kinds := [], alts := [], laidByText := true, laidKinds := [.data, .data], laidTests := true, laidLooks := .later }
def OverlayCircleCardSaid : Prop := Claim7.holds Tryd.pinned (.plain (OpenSpec.ofChange overlayCircleSpec)) overlayCircleCard

/-- THE TIED CARD OF 'actorgridlaw4.OverlayDegree'. -/
def overlayDegreeCard : Claim7 := { stood := { row := overlayDegreeRow, standIns := [], harness := (true, "185a42ecdc02e4ff03a5a2259b28d11c62eee37cd1858e4577a61aefed667a63"), looks := false }, kinds := [], alts := [], laidByText := true, laidKinds := [.data, .data], laidTests := true, laidLooks := .later }
def OverlayDegreeCardSaid : Prop := Claim7.holds Tryd.pinned (.plain (OpenSpec.ofChange overlayDegreeSpec)) overlayDegreeCard

/-- THE TIED CARD OF 'actorgridlaw4.OverlayRemoval'. -/
def overlayRemovalCard : Claim7 := { stood := { row := overlayRemovalRow, standIns := [], harness := (true, "185a42ecdc02e4ff03a5a2259b28d11c62eee37cd1858e4577a61aefed667a63"), looks := false }, kinds := [], alts := [], laidByText := true, laidKinds := [.data, .data], laidTests := true, laidLooks := .later }
def OverlayRemovalCardSaid : Prop := Claim7.holds Tryd.pinned (.plain (OpenSpec.ofChange overlayRemovalSpec)) overlayRemovalCard

/-- THE TIED CARD OF 'actorgridlaw4.OverlayJoin'. -/
def overlayJoinCard : Claim7 := { stood := { row := overlayJoinRow, standIns := [], harness := (true, "185a42ecdc02e4ff03a5a2259b28d11c62eee37cd1858e4577a61aefed667a63"), looks := false }, kinds := [], alts := [], laidByText := true, laidKinds := [.data, .data], laidTests := true, laidLooks := .later }
def OverlayJoinCardSaid : Prop := Claim7.holds Tryd.pinned (.plain (OpenSpec.ofChange overlayJoinSpec)) overlayJoinCard

/-- THE TIED CARD OF 'actorgridlaw4.OverlayNeighbours'. -/
def overlayNeighboursCard : Claim7 := { stood := { row := overlayNeighboursRow, standIns := [], harness := (true, "185a42ecdc02e4ff03a5a2259b28d11c62eee37cd1858e4577a61aefed667a63"), looks := false }, kinds := [], alts := [], laidByText := true, laidKinds := [.data, .data], laidTests := true, laidLooks := .later }
def OverlayNeighboursCardSaid : Prop := Claim7.holds Tryd.pinned (.plain (OpenSpec.ofChange overlayNeighboursSpec)) overlayNeighboursCard

/-- THE SECOND FORM's CARD OF 'actorgridlaw4.OverlayTells'. -/
def overlayTellsUptoCard : Claim7 := { stood := { row := overlayTellsUptoRow, standIns := [], harness := (true, "185a42ecdc02e4ff03a5a2259b28d11c62eee37cd1858e4577a61aefed667a63"), looks := false }, kinds := [], alts := [], laidByText := true, laidKinds := [.data, .data], laidTests := true, laidLooks := .later }
def OverlayTellsUptoCardSaid : Prop := Claim7.holds Tryd.pinned (.plain (OpenSpec.upto overlayTellsSpec)) overlayTellsUptoCard

/-- THE SECOND FORM's CARD OF 'actorgridlaw4.OverlayCircle'. -/
def overlayCircleUptoCard : Claim7 := { stood := { row := overlayCircleUptoRow, standIns := [], harness := (true, "185a42ecdc02e4ff03a5a2259b28d11c62eee37cd1858e4577a61aefed667a63"), looks := false }, kinds := [], alts := [], laidByText := true, laidKinds := [.data, .data], laidTests := true, laidLooks := .later }
def OverlayCircleUptoCardSaid : Prop := Claim7.holds Tryd.pinned (.plain (OpenSpec.upto overlayCircleSpec)) overlayCircleUptoCard

/-- THE SECOND FORM's CARD OF 'actorgridlaw4.OverlayDegree'. -/
def overlayDegreeUptoCard : Claim7 := { stood := { row := overlayDegreeUptoRow, standIns := [], harness := (true, "185a42ecdc02e4ff03a5a2259b28d11c62eee37cd1858e4577a61aefed667a63"), looks := false }, kinds := [], alts := [], laidByText := true, laidKinds := [.data, .data], laidTests := true, laidLooks := .later }
def OverlayDegreeUptoCardSaid : Prop := Claim7.holds Tryd.pinned (.plain (OpenSpec.upto overlayDegreeSpec)) overlayDegreeUptoCard

/-- THE SECOND FORM's CARD OF 'actorgridlaw4.OverlayRemoval'. -/
def overlayRemovalUptoCard : Claim7 := { stood := { row := overlayRemovalUptoRow, standIns := [], harness := (true, "185a42ecdc02e4ff03a5a2259b28d11c62eee37cd1858e4577a61aefed667a63"), looks := false }, kinds := [], alts := [], laidByText := true, laidKinds := [.data, .data], laidTests := true, laidLooks := .later }
def OverlayRemovalUptoCardSaid : Prop := Claim7.holds Tryd.pinned (.plain (OpenSpec.upto overlayRemovalSpec)) overlayRemovalUptoCard

/-- THE SECOND FORM's CARD OF 'actorgridlaw4.OverlayJoin'. -/
def overlayJoinUptoCard : Claim7 := { stood := { row := overlayJoinUptoRow, standIns := [], harness := (true, "185a42ecdc02e4ff03a5a2259b28d11c62eee37cd1858e4577a61aefed667a63"), looks := false }, kinds := [], alts := [], laidByText := true, laidKinds := [.data, .data], laidTests := true, laidLooks := .later }
def OverlayJoinUptoCardSaid : Prop := Claim7.holds Tryd.pinned (.plain (OpenSpec.upto overlayJoinSpec)) overlayJoinUptoCard

/-- THE SECOND FORM's CARD OF 'actorgridlaw4.OverlayNeighbours'. -/
def overlayNeighboursUptoCard : Claim7 := { stood := { row := overlayNeighboursUptoRow, standIns := [], harness := (true, "185a42ecdc02e4ff03a5a2259b28d11c62eee37cd1858e4577a61aefed667a63"), looks := false }, kinds := [], alts := [], laidByText := true, laidKinds := [.data, .data], laidTests := true, laidLooks := .later }
def OverlayNeighboursUptoCardSaid : Prop := Claim7.holds Tryd.pinned (.plain (OpenSpec.upto overlayNeighboursSpec)) overlayNeighboursUptoCard
end Rows
end Go.Proofs.YtobahkjlblgdjaaDoor
