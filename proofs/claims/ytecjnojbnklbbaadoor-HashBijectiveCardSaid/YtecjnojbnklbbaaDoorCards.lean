/-
  DERIVED. GIVEN WITH THE SEED: THE CARDS: each row of YtecjnojbnklbbaaDoorRows.lean that lists a variable, with what it lists TIED to the program's text (the seventh form; the later family's looks); each row that meets fmt, with fmt's text TOLD by the authors' own Lean function (tested against real Go, not proved from fmt's source: count such statements apart). THE CARD IS WHAT COUNTS. Prove the row's statement (the work); the ties are given (YtecjnojbnklbbaaDoorTie.lean); close each card by the builder's one call (the guide's Derived/Test/ToyasCard.lean, 'card_holds'). Laid BY PROGRAM, IN A SANDBOX (cutbox-door.mjs). By AI agents, Wed Nov 11 2026. No macro, syntax, notation, axiom, sorry.
-/
import Derived.Test.YtecjnojbnklbbaaDoorRows
import GoSem.ClaimSeven
namespace Go.Proofs.YtecjnojbnklbbaaDoor
namespace Rows

/-- THE TIED CARD OF 'actorgridlaw2.HashMixes'. -/
def hashMixesCard : Claim7 := { stood := { row := hashMixesRow, standIns := [], harness := (true, "dd7b0452c2846aeac9e689dfcb4309e77742e10129246903d1654aaa8b40caa6"), looks := false }, kinds := [], alts := [], laidByText := true, laidKinds := [.data, .data, .data], laidTests := true, laidLooks := .later }
def HashMixesCardSaid : Prop := Claim7.holds Tryd.pinned (.plain (OpenSpec.ofChange hashMixesSpec)) hashMixesCard

/-- THE TIED CARD OF 'actorgridlaw2.HashTexts'. -/
def hashTextsCard : Claim7 := { stood := { row := hashTextsRow, standIns := [], harness := (true, "dd7b0452c2846aeac9e689dfcb4309e77742e10129246903d1654aaa8b40caa6"), looks := false }, kinds := [], alts := [], laidByText := true, laidKinds := [.data, .data, .data], laidTests := true, laidLooks := .later }
def HashTextsCardSaid : Prop := Claim7.holds Tryd.pinned (.plain (OpenSpec.ofChange hashTextsSpec)) hashTextsCard

/-- THE TIED CARD OF 'actorgridlaw2.HashPlaces'. -/
def hashPlacesCard : Claim7 := { stood := { row := hashPlacesRow, standIns := [], harness := (true, "dd7b0452c2846aeac9e689dfcb4309e77742e10129246903d1654aaa8b40caa6"), looks := false }, kinds := [], alts := [], laidByText := true, laidKinds := [.data, .data, .data], laidTests := true, laidLooks := .later }
def HashPlacesCardSaid : Prop := Claim7.holds Tryd.pinned (.plain (OpenSpec.ofChange hashPlacesSpec)) hashPlacesCard

/-- THE TIED CARD OF 'actorgridlaw2.HashBijective'. -/
def hashBijectiveCard : Claim7 := { stood := { row := hashBijectiveRow, standIns := [], harness := (true, "dd7b0452c2846aeac9e689dfcb4309e77742e10129246903d1654aaa8b40caa6"), looks := false }, kinds := [], alts := [], laidByText := true, laidKinds := [.data, .data, .data], laidTests := true, laidLooks := .later }
def HashBijectiveCardSaid : Prop := Claim7.holds Tryd.pinned (.plain (OpenSpec.ofChange hashBijectiveSpec)) hashBijectiveCard

/-- THE TIED CARD OF 'actorgridlaw2.HashInjective'. -/
def hashInjectiveCard : Claim7 := { stood := { row := hashInjectiveRow, standIns := [], harness := (true, "dd7b0452c2846aeac9e689dfcb4309e77742e10129246903d1654aaa8b40caa6"), looks := false }, kinds := [], alts := [], laidByText := true, laidKinds := [.data, .data, .data], laidTests := true, laidLooks := .later }
def HashInjectiveCardSaid : Prop := Claim7.holds Tryd.pinned (.plain (OpenSpec.ofChange hashInjectiveSpec)) hashInjectiveCard

/-- THE SECOND FORM's CARD OF 'actorgridlaw2.HashMixes'. -/
def hashMixesUptoCard : Claim7 := { stood := { row := hashMixesUptoRow, standIns := [], harness := (true, "dd7b0452c2846aeac9e689dfcb4309e77742e10129246903d1654aaa8b40caa6"), looks := false }, kinds := [], alts := [], laidByText := true, laidKinds := [.data, .data, .data], laidTests := true, laidLooks := .later }
def HashMixesUptoCardSaid : Prop := Claim7.holds Tryd.pinned (.plain (OpenSpec.upto hashMixesSpec)) hashMixesUptoCard

/-- THE SECOND FORM's CARD OF 'actorgridlaw2.HashTexts'. -/
def hashTextsUptoCard : Claim7 := { stood := { row := hashTextsUptoRow, standIns := [], harness := (true, "dd7b0452c2846aeac9e689dfcb4309e77742e10129246903d1654aaa8b40caa6"), looks := false }, kinds := [], alts := [], laidByText := true, laidKinds := [.data, .data, .data], laidTests := true, laidLooks := .later }
def HashTextsUptoCardSaid : Prop := Claim7.holds Tryd.pinned (.plain (OpenSpec.upto hashTextsSpec)) hashTextsUptoCard

/-- THE SECOND FORM's CARD OF 'actorgridlaw2.HashPlaces'. -/
def hashPlacesUptoCard : Claim7 := { stood := { row := hashPlacesUptoRow, standIns := [], harness := (true, "dd7b0452c2846aeac9e689dfcb4309e77742e10129246903d1654aaa8b40caa6"), looks := false }, kinds := [], alts := [], laidByText := true, laidKinds := [.data, .data, .data], laidTests := true, laidLooks := .later }
def HashPlacesUptoCardSaid : Prop := Claim7.holds Tryd.pinned (.plain (OpenSpec.upto hashPlacesSpec)) hashPlacesUptoCard

/-- THE SECOND FORM's CARD OF 'actorgridlaw2.HashBijective'. -/
def hashBijectiveUptoCard : Claim7 := { stood := { row := hashBijectiveUptoRow, standIns := [], harness := (true, "dd7b0452c2846aeac9e689dfcb4309e77742e10129246903d1654aaa8b40caa6"), looks := false }, kinds := [], alts := [], laidByText := true, laidKinds := [.data, .data, .data], laidTests := true, laidLooks := .later }
def HashBijectiveUptoCardSaid : Prop := Claim7.holds Tryd.pinned (.plain (OpenSpec.upto hashBijectiveSpec)) hashBijectiveUptoCard

/-- THE SECOND FORM's CARD OF 'actorgridlaw2.HashInjective'. -/
def hashInjectiveUptoCard : Claim7 := { stood := { row := hashInjectiveUptoRow, standIns := [], harness := (true, "dd7b0452c2846aeac9e689dfcb4309e77742e10129246903d1654aaa8b40caa6"), looks := false }, kinds := [], alts := [], laidByText := true, laidKinds := [.data, .data, .data], laidTests := true, laidLooks := .later }
def HashInjectiveUptoCardSaid : Prop := Claim7.holds Tryd.pinned (.plain (OpenSpec.upto hashInjectiveSpec)) hashInjectiveUptoCard
end Rows
end Go.Proofs.YtecjnojbnklbbaaDoor
