/-
  DERIVED. GIVEN WITH THE SEED: THE CARDS: each row of YtojhdljbpmjigaaDoorRows.lean that lists a variable, with what it lists TIED to the program's text (the seventh form; the later family's looks); each row that meets fmt, with fmt's text TOLD by the authors' own Lean function (tested against real Go, not proved from fmt's source: count such statements apart). THE CARD IS WHAT COUNTS. Prove the row's statement (the work); the ties are given (YtojhdljbpmjigaaDoorTie.lean); close each card by the builder's one call (the guide's Derived/Test/ToyasCard.lean, 'card_holds'). Laid BY PROGRAM, IN A SANDBOX (cutbox-door.mjs). By AI agents, Wed Nov 11 2026. No macro, syntax, notation, axiom, sorry.
-/
import Derived.Test.YtojhdljbpmjigaaDoorRows
import GoSem.ClaimSeven
namespace Go.Proofs.YtojhdljbpmjigaaDoor
namespace Rows

/-- THE TIED CARD OF 'actorgridlaw6.AlertsAdd'. -/
def alertsAddCard : Claim7 := { stood := { row := alertsAddRow, standIns := [], harness := (true, "6a32711a443e850234d81dbcc9d86c44b81403502a0e2ba91e42cf38f7087ad0"), looks := false }, kinds := [], alts := [], laidByText := true, laidKinds := [.data, .data], laidTests := true, laidLooks := .later }
def AlertsAddCardSaid : Prop := Claim7.holds Tryd.pinned (.plain (OpenSpec.ofChange alertsAddSpec)) alertsAddCard

/-- THE TIED CARD OF 'actorgridlaw6.AlertsCodes'. -/
def alertsCodesCard : Claim7 := { stood := { row := alertsCodesRow, standIns := [], harness := (true, "6a32711a443e850234d81dbcc9d86c44b81403502a0e2ba91e42cf38f7087ad0"), looks := false }, kinds := [], alts := [], laidByText := true, laidKinds := [.data, .data], laidTests := true, laidLooks := .later }
def AlertsCodesCardSaid : Prop := Claim7.holds Tryd.pinned (.plain (OpenSpec.ofChange alertsCodesSpec)) alertsCodesCard

/-- THE TIED CARD OF 'actorgridlaw6.AlertsOrder'. -/
def alertsOrderCard : Claim7 := { stood := { row := alertsOrderRow, standIns := [], harness := (true, "6a32711a443e850234d81dbcc9d86c44b81403502a0e2ba91e42cf38f7087ad0"), looks := false }, kinds := [], alts := [], laidByText := true, laidKinds := [.data, .data], laidTests := true, laidLooks := .later }
def AlertsOrderCardSaid : Prop := Claim7.holds Tryd.pinned (.plain (OpenSpec.ofChange alertsOrderSpec)) alertsOrderCard

/-- THE TIED CARD OF 'actorgridlaw6.AlertsUnion'. -/
def alertsUnionCard : Claim7 := { stood := { row := alertsUnionRow, standIns := [], harness := (true, "6a32711a443e850234d81dbcc9d86c44b81403502a0e2ba91e42cf38f7087ad0"), looks := false }, kinds := [], alts := [], laidByText := true, laidKinds := [.data, .data], laidTests := true, laidLooks := .later }
def AlertsUnionCardSaid : Prop := Claim7.holds Tryd.pinned (.plain (OpenSpec.ofChange alertsUnionSpec)) alertsUnionCard

/-- THE TIED CARD OF 'actorgridlaw6.AlertsBack'. -/
def alertsBackCard : Claim7 := { stood := { row := alertsBackRow, standIns := [], harness := (true, "6a32711a443e850234d81dbcc9d86c44b81403502a0e2ba91e42cf38f7087ad0"), looks := false }, kinds := [], alts := [], laidByText := true, laidKinds := [.data, .data], laidTests := true, laidLooks := .later }
def AlertsBackCardSaid : Prop := Claim7.holds Tryd.pinned (.plain (OpenSpec.ofChange alertsBackSpec)) alertsBackCard

/-- THE TIED CARD OF 'actorgridlaw6.AlertsCount'. -/
def alertsCountCard : Claim7 := { stood := { row := alertsCountRow, standIns := [], harness := (true, "6a32711a443e850234d81dbcc9d86c44b81403502a0e2ba91e42cf38f7087ad0"), looks := false }, kinds := [], alts := [], laidByText := true, laidKinds := [.data, .data], laidTests := true, laidLooks := .later }
def AlertsCountCardSaid : Prop := Claim7.holds Tryd.pinned (.plain (OpenSpec.ofChange alertsCountSpec)) alertsCountCard

/-- THE SECOND FORM's CARD OF 'actorgridlaw6.AlertsAdd'. -/
def alertsAddUptoCard : Claim7 := { stood := { row := alertsAddUptoRow, standIns := [], harness := (true, "6a32711a443e850234d81dbcc9d86c44b81403502a0e2ba91e42cf38f7087ad0"), looks := false }, kinds := [], alts := [], laidByText := true, laidKinds := [.data, .data], laidTests := true, laidLooks := .later }
def AlertsAddUptoCardSaid : Prop := Claim7.holds Tryd.pinned (.plain (OpenSpec.upto alertsAddSpec)) alertsAddUptoCard

/-- THE SECOND FORM's CARD OF 'actorgridlaw6.AlertsCodes'. -/
def alertsCodesUptoCard : Claim7 := { stood := { row := alertsCodesUptoRow, standIns := [], harness := (true, "6a32711a443e850234d81dbcc9d86c44b81403502a0e2ba91e42cf38f7087ad0"), looks := false }, kinds := [], alts := [], laidByText := true, laidKinds := [.data, .data], laidTests := true, laidLooks := .later }
def AlertsCodesUptoCardSaid : Prop := Claim7.holds Tryd.pinned (.plain (OpenSpec.upto alertsCodesSpec)) alertsCodesUptoCard

/-- THE SECOND FORM's CARD OF 'actorgridlaw6.AlertsOrder'. -/
def alertsOrderUptoCard : Claim7 := { stood := { row := alertsOrderUptoRow, standIns := [], harness := (true, "6a32711a443e850234d81dbcc9d86c44b81403502a0e2ba91e42cf38f7087ad0"), looks := false }, kinds := [], alts := [], laidByText := true, laidKinds := [.data, .data], laidTests := true, laidLooks := .later }
def AlertsOrderUptoCardSaid : Prop := Claim7.holds Tryd.pinned (.plain (OpenSpec.upto alertsOrderSpec)) alertsOrderUptoCard

/-- THE SECOND FORM's CARD OF 'actorgridlaw6.AlertsUnion'. -/
def alertsUnionUptoCard : Claim7 := { stood := { row := alertsUnionUptoRow, standIns := [], harness := (true, "6a32711a443e850234d81dbcc9d86c44b81403502a0e2ba91e42cf38f7087ad0"), looks := false }, kinds := [], alts := [], laidByText := true, laidKinds := [.data, .data], laidTests := true, laidLooks := .later }
def AlertsUnionUptoCardSaid : Prop := Claim7.holds Tryd.pinned (.plain (OpenSpec.upto alertsUnionSpec)) alertsUnionUptoCard

/-- THE SECOND FORM's CARD OF 'actorgridlaw6.AlertsBack'. -/
def alertsBackUptoCard : Claim7 := { stood := { row := alertsBackUptoRow, standIns := [], harness := (true, "6a32711a443e850234d81dbcc9d86c44b81403502a0e2ba91e42cf38f7087ad0"), looks := false }, kinds := [], alts := [], laidByText := true, laidKinds := [.data, .data], laidTests := true, laidLooks := .later }
def AlertsBackUptoCardSaid : Prop := Claim7.holds Tryd.pinned (.plain (OpenSpec.upto alertsBackSpec)) alertsBackUptoCard

/-- THE SECOND FORM's CARD OF 'actorgridlaw6.AlertsCount'. -/
def alertsCountUptoCard : Claim7 := { stood := { row := alertsCountUptoRow, standIns := [], harness := (true, "6a32711a443e850234d81dbcc9d86c44b81403502a0e2ba91e42cf38f7087ad0"), looks := false }, kinds := [], alts := [], laidByText := true, laidKinds := [.data, .data], laidTests := true, laidLooks := .later }
def AlertsCountUptoCardSaid : Prop := Claim7.holds Tryd.pinned (.plain (OpenSpec.upto alertsCountSpec)) alertsCountUptoCard
end Rows
end Go.Proofs.YtojhdljbpmjigaaDoor
