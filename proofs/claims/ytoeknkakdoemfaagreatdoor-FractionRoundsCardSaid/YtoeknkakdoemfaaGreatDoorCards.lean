/-
  DERIVED. GIVEN WITH THE SEED: THE CARDS: each row of YtoeknkakdoemfaaGreatDoorRows.lean that lists a variable, with what it lists TIED to the program's text (the seventh form; the later family's looks); each row that meets fmt, with fmt's text TOLD by the authors' own Lean function (tested against real Go, not proved from fmt's source: count such statements apart). THE CARD IS WHAT COUNTS. Prove the row's statement (the work); the ties are given (YtoeknkakdoemfaaGreatDoorTie.lean); close each card by the builder's one call (the guide's Derived/Test/ToyasCard.lean, 'card_holds'). Laid BY PROGRAM, IN A SANDBOX (cutbox-door.mjs). By AI agents, Wed Nov 11 2026. No macro, syntax, notation, axiom, sorry.
-/
import Derived.Test.YtoeknkakdoemfaaGreatDoorRows
import GoSem.ClaimSeven
namespace Go.Proofs.YtoeknkakdoemfaaGreatDoor
namespace Rows

/-- THE TIED CARD OF 'coinagelaw02.FractionTexts'. -/
def fractionTextsCard : Claim7 := { stood := { row := fractionTextsRow, standIns := [], harness := (true, "82890172a0315d2168465541efca2f332d6a4c17c5fcc84883c0075f581a1a65"), looks := false }, kinds := [], alts := [], laidByText := true, laidKinds := [.data, .data, .data], laidTests := true, laidLooks := .later }
def FractionTextsCardSaid : Prop := Claim7.holds Tryz.pinned (.plain (OpenSpec.ofChange fractionTextsSpec)) fractionTextsCard

/-- THE TIED CARD OF 'coinagelaw02.FractionParses'. -/
def fractionParsesCard : Claim7 := { stood := { row := fractionParsesRow, standIns := [], harness := (true, "82890172a0315d2168465541efca2f332d6a4c17c5fcc84883c0075f581a1a65"), looks := false }, kinds := [], alts := [], laidByText := true, laidKinds := [.data, .data, .data], laidTests := true, laidLooks := .later }
def FractionParsesCardSaid : Prop := Claim7.holds Tryz.pinned (.plain (OpenSpec.ofChange fractionParsesSpec)) fractionParsesCard

/-- THE TIED CARD OF 'coinagelaw02.FractionPoints'. -/
def fractionPointsCard : Claim7 := { stood := { row := fractionPointsRow, standIns := [], harness := (true, "82890172a0315d2168465541efca2f332d6a4c17c5fcc84883c0075f581a1a65"), looks := false }, kinds := [], alts := [], laidByText := true, laidKinds := [.data, .data, .data, .data, .pinned], laidTests := true, laidLooks := .later }
def FractionPointsCardSaid : Prop := Claim7.holds Tryz.pinned (.plain (OpenSpec.ofChange fractionPointsSpec)) fractionPointsCard

/-- THE TIED CARD OF 'coinagelaw02.FractionMeans'. -/
def fractionMeansCard : Claim7 := { stood := { row := fractionMeansRow, standIns := [], harness := (true, "82890172a0315d2168465541efca2f332d6a4c17c5fcc84883c0075f581a1a65"), looks := false }, kinds := [], alts := [], laidByText := true, laidKinds := [.data, .data, .data], laidTests := true, laidLooks := .later }
def FractionMeansCardSaid : Prop := Claim7.holds Tryz.pinned (.plain (OpenSpec.ofChange fractionMeansSpec)) fractionMeansCard

/-- THE TIED CARD OF 'coinagelaw02.FractionRounds'. -/
def fractionRoundsCard : Claim7 := { stood := { row := fractionRoundsRow, standIns := [], harness := (true, "82890172a0315d2168465541efca2f332d6a4c17c5fcc84883c0075f581a1a65"), looks := false }, kinds := [], alts := [], laidByText := true, laidKinds := [.data, .data, .data, .data, .pinned], laidTests := true, laidLooks := .later }
def FractionRoundsCardSaid : Prop := Claim7.holds Tryz.pinned (.plain (OpenSpec.ofChange fractionRoundsSpec)) fractionRoundsCard

/-- THE SECOND FORM's CARD OF 'coinagelaw02.FractionTexts'. -/
def fractionTextsUptoCard : Claim7 := { stood := { row := fractionTextsUptoRow, standIns := [], harness := (true, "82890172a0315d2168465541efca2f332d6a4c17c5fcc84883c0075f581a1a65"), looks := false }, kinds := [], alts := [], laidByText := true, laidKinds := [.data, .data, .data], laidTests := true, laidLooks := .later }
def FractionTextsUptoCardSaid : Prop := Claim7.holds Tryz.pinned (.plain (OpenSpec.upto fractionTextsSpec)) fractionTextsUptoCard

/-- THE SECOND FORM's CARD OF 'coinagelaw02.FractionParses'. -/
def fractionParsesUptoCard : Claim7 := { stood := { row := fractionParsesUptoRow, standIns := [], harness := (true, "82890172a0315d2168465541efca2f332d6a4c17c5fcc84883c0075f581a1a65"), looks := false }, kinds := [], alts := [], laidByText := true, laidKinds := [.data, .data, .data], laidTests := true, laidLooks := .later }
def FractionParsesUptoCardSaid : Prop := Claim7.holds Tryz.pinned (.plain (OpenSpec.upto fractionParsesSpec)) fractionParsesUptoCard

/-- THE SECOND FORM's CARD OF 'coinagelaw02.FractionPoints'. -/
def fractionPointsUptoCard : Claim7 := { stood := { row := fractionPointsUptoRow, standIns := [], harness := (true, "82890172a0315d2168465541efca2f332d6a4c17c5fcc84883c0075f581a1a65"), looks := false }, kinds := [], alts := [], laidByText := true, laidKinds := [.data, .data, .data, .data, .pinned], laidTests := true, laidLooks := .later }
def FractionPointsUptoCardSaid : Prop := Claim7.holds Tryz.pinned (.plain (OpenSpec.upto fractionPointsSpec)) fractionPointsUptoCard

/-- THE SECOND FORM's CARD OF 'coinagelaw02.FractionMeans'. -/
def fractionMeansUptoCard : Claim7 := { stood := { row := fractionMeansUptoRow, standIns := [], harness := (true, "82890172a0315d2168465541efca2f332d6a4c17c5fcc84883c0075f581a1a65"), looks := false }, kinds := [], alts := [], laidByText := true, laidKinds := [.data, .data, .data], laidTests := true, laidLooks := .later }
def FractionMeansUptoCardSaid : Prop := Claim7.holds Tryz.pinned (.plain (OpenSpec.upto fractionMeansSpec)) fractionMeansUptoCard

/-- THE SECOND FORM's CARD OF 'coinagelaw02.FractionRounds'. -/
def fractionRoundsUptoCard : Claim7 := { stood := { row := fractionRoundsUptoRow, standIns := [], harness := (true, "82890172a0315d2168465541efca2f332d6a4c17c5fcc84883c0075f581a1a65"), looks := false }, kinds := [], alts := [], laidByText := true, laidKinds := [.data, .data, .data, .data, .pinned], laidTests := true, laidLooks := .later }
def FractionRoundsUptoCardSaid : Prop := Claim7.holds Tryz.pinned (.plain (OpenSpec.upto fractionRoundsSpec)) fractionRoundsUptoCard
end Rows
end Go.Proofs.YtoeknkakdoemfaaGreatDoor
