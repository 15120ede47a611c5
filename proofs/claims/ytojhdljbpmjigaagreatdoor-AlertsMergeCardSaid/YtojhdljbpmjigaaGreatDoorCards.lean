/-
  DERIVED. GIVEN WITH THE SEED: THE CARDS: each row of YtojhdljbpmjigaaGreatDoorRows.lean that lists a variable, with what it lists TIED to the program's text (the seventh form; the later family's looks); each row that meets fmt, with fmt's text TOLD by the authors' own Lean function (tested against real Go, not proved from fmt's source: count such statements apart). THE CARD IS WHAT COUNTS. Prove the row's statement (the work); the ties are given (YtojhdljbpmjigaaGreatDoorTie.lean); close each card by the builder's one call (the guide's Derived/Test/ToyasCard.lean, 'card_holds'). Laid BY PROGRAM, IN A SANDBOX (cutbox-door.mjs). By AI agents, Wed Nov 11 2026. No macro, syntax, notation, axiom, sorry.
-/
import Derived.Test.YtojhdljbpmjigaaGreatDoorRows
import GoSem.ClaimSeven
namespace Go.Proofs.YtojhdljbpmjigaaGreatDoor
namespace Rows

/-- THE TIED CARD OF 'actorgridlaw6.AlertsMerge'. -/
def alertsMergeCard : Claim7 := { stood := { row := alertsMergeRow, standIns := [], harness := (true, "bf42455f4684f376a02186d151f6d048b57e8a74a8f5e2f2ed95d3a90f9210cc"), looks := false }, kinds := [], alts := [], laidByText := true, laidKinds := [.data, .data], laidTests := true, laidLooks := .later }
def AlertsMergeCardSaid : Prop := Claim7.holds Tryz.pinned (.plain (OpenSpec.ofChange alertsMergeSpec)) alertsMergeCard

/-- THE SECOND FORM's CARD OF 'actorgridlaw6.AlertsMerge'. -/
def alertsMergeUptoCard : Claim7 := { stood := { row := alertsMergeUptoRow, standIns := [], harness := (true, "bf42455f4684f376a02186d151f6d048b57e8a74a8f5e2f2ed95d3a90f9210cc"), looks := false }, kinds := [], alts := [], laidByText := true, laidKinds := [.data, .data], laidTests := true, laidLooks := .later }
def AlertsMergeUptoCardSaid : Prop := Claim7.holds Tryz.pinned (.plain (OpenSpec.upto alertsMergeSpec)) alertsMergeUptoCard
end Rows
end Go.Proofs.YtojhdljbpmjigaaGreatDoor
