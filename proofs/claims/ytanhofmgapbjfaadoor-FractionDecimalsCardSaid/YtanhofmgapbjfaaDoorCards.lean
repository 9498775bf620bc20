/-
  DERIVED. GIVEN WITH THE SEED: THE CARDS: each row of YtanhofmgapbjfaaDoorRows.lean that lists a variable, with what it lists TIED to the program's text (the seventh form; the later family's looks); each row that meets fmt, with fmt's text TOLD by the authors' own Lean function (tested against real Go, not proved from fmt's source: count such statements apart). THE CARD IS WHAT COUNTS. Prove the row's statement (the work); the ties are given (YtanhofmgapbjfaaDoorTie.lean); close each card by the builder's one call (the guide's Derived/Test/ToyasCard.lean, 'card_holds'). Laid BY PROGRAM, IN A SANDBOX (cutbox-door.mjs). By AI agents, Wed Nov 11 2026. No macro, syntax, notation, axiom, sorry.
-/
import Derived.Test.YtanhofmgapbjfaaDoorRows
import GoSem.ClaimSeven
namespace Go.Proofs.YtanhofmgapbjfaaDoor
namespace Rows

/-- THE TIED CARD OF 'coinagelaw02.FractionNorms'. -/
def fractionNormsCard : Claim7 := { stood := { row := fractionNormsRow, standIns := [], harness := (true, "3513739da6cbdb55be3ab7de4d69395390085f8f0b6fc6f92389c351662ca09d"), looks := false }, kinds := [], alts := [], laidByText := true, laidKinds := [.data, .data, .data], laidTests := true, laidLooks := .later }
def FractionNormsCardSaid : Prop := Claim7.holds Tryd.pinned (.plain (OpenSpec.ofChange fractionNormsSpec)) fractionNormsCard

/-- THE TIED CARD OF 'coinagelaw02.FractionSums'. -/
def fractionSumsCard : Claim7 := { stood := { row := fractionSumsRow, standIns := [], harness := (true, "3513739da6cbdb55be3ab7de4d69395390085f8f0b6fc6f92389c351662ca09d"), looks := false }, kinds := [], alts := [], laidByText := true, laidKinds := [.data, .data, .data], laidTests := true, laidLooks := .later }
def FractionSumsCardSaid : Prop := Claim7.holds Tryd.pinned (.plain (OpenSpec.ofChange fractionSumsSpec)) fractionSumsCard

/-- THE TIED CARD OF 'coinagelaw02.FractionQuotients'. -/
def fractionQuotientsCard : Claim7 := { stood := { row := fractionQuotientsRow, standIns := [], harness := (true, "3513739da6cbdb55be3ab7de4d69395390085f8f0b6fc6f92389c351662ca09d"), looks := false }, kinds := [], alts := [], laidByText := true, laidKinds := [.data, .data, .data], laidTests := true, laidLooks := .later }
def FractionQuotientsCardSaid : Prop := Claim7.holds Tryd.pinned (.plain (OpenSpec.ofChange fractionQuotientsSpec)) fractionQuotientsCard

/-- THE TIED CARD OF 'coinagelaw02.FractionDecimals'. -/
def fractionDecimalsCard : Claim7 := { stood := { row := fractionDecimalsRow, standIns := [], harness := (true, "3513739da6cbdb55be3ab7de4d69395390085f8f0b6fc6f92389c351662ca09d"), looks := false }, kinds := [], alts := [], laidByText := true, laidKinds := [.data, .data, .data], laidTests := true, laidLooks := .later }
def FractionDecimalsCardSaid : Prop := Claim7.holds Tryd.pinned (.plain (OpenSpec.ofChange fractionDecimalsSpec)) fractionDecimalsCard

/-- THE TIED CARD OF 'coinagelaw02.FractionField'. -/
def fractionFieldCard : Claim7 := { stood := { row := fractionFieldRow, standIns := [], harness := (true, "3513739da6cbdb55be3ab7de4d69395390085f8f0b6fc6f92389c351662ca09d"), looks := false }, kinds := [], alts := [], laidByText := true, laidKinds := [.data, .data, .data], laidTests := true, laidLooks := .later }
def FractionFieldCardSaid : Prop := Claim7.holds Tryd.pinned (.plain (OpenSpec.ofChange fractionFieldSpec)) fractionFieldCard

/-- THE TIED CARD OF 'coinagelaw02.FractionOrder'. -/
def fractionOrderCard : Claim7 := { stood := { row := fractionOrderRow, standIns := [], harness := (true, "3513739da6cbdb55be3ab7de4d69395390085f8f0b6fc6f92389c351662ca09d"), looks := false }, kinds := [], alts := [], laidByText := true, laidKinds := [.data, .data, .data], laidTests := true, laidLooks := .later }
def FractionOrderCardSaid : Prop := Claim7.holds Tryd.pinned (.plain (OpenSpec.ofChange fractionOrderSpec)) fractionOrderCard

/-- THE SECOND FORM's CARD OF 'coinagelaw02.FractionNorms'. -/
def fractionNormsUptoCard : Claim7 := { stood := { row := fractionNormsUptoRow, standIns := [], harness := (true, "3513739da6cbdb55be3ab7de4d69395390085f8f0b6fc6f92389c351662ca09d"), looks := false }, kinds := [], alts := [], laidByText := true, laidKinds := [.data, .data, .data], laidTests := true, laidLooks := .later }
def FractionNormsUptoCardSaid : Prop := Claim7.holds Tryd.pinned (.plain (OpenSpec.upto fractionNormsSpec)) fractionNormsUptoCard

/-- THE SECOND FORM's CARD OF 'coinagelaw02.FractionSums'. -/
def fractionSumsUptoCard : Claim7 := { stood := { row := fractionSumsUptoRow, standIns := [], harness := (true, "3513739da6cbdb55be3ab7de4d69395390085f8f0b6fc6f92389c351662ca09d"), looks := false }, kinds := [], alts := [], laidByText := true, laidKinds := [.data, .data, .data], laidTests := true, laidLooks := .later }
def FractionSumsUptoCardSaid : Prop := Claim7.holds Tryd.pinned (.plain (OpenSpec.upto fractionSumsSpec)) fractionSumsUptoCard

/-- THE SECOND FORM's CARD OF 'coinagelaw02.FractionQuotients'. -/
def fractionQuotientsUptoCard : Claim7 := { stood := { row := fractionQuotientsUptoRow, standIns := [], harness := (true, "3513739da6cbdb55be3ab7de4d69395390085f8f0b6fc6f92389c351662ca09d"), looks := false }, kinds := [], alts := [], laidByText := true, laidKinds := [.data, .data, .data], laidTests := true, laidLooks := .later }
def FractionQuotientsUptoCardSaid : Prop := Claim7.holds Tryd.pinned (.plain (OpenSpec.upto fractionQuotientsSpec)) fractionQuotientsUptoCard

/-- THE SECOND FORM's CARD OF 'coinagelaw02.FractionDecimals'. -/
def fractionDecimalsUptoCard : Claim7 := { stood := { row := fractionDecimalsUptoRow, standIns := [], harness := (true, "3513739da6cbdb55be3ab7de4d69395390085f8f0b6fc6f92389c351662ca09d"), looks := false }, kinds := [], alts := [], laidByText := true, laidKinds := [.data, .data, .data], laidTests := true, laidLooks := .later }
def FractionDecimalsUptoCardSaid : Prop := Claim7.holds Tryd.pinned (.plain (OpenSpec.upto fractionDecimalsSpec)) fractionDecimalsUptoCard

/-- THE SECOND FORM's CARD OF 'coinagelaw02.FractionField'. -/
def fractionFieldUptoCard : Claim7 := { stood := { row := fractionFieldUptoRow, standIns := [], harness := (true, "3513739da6cbdb55be3ab7de4d69395390085f8f0b6fc6f92389c351662ca09d"), looks := false }, kinds := [], alts := [], laidByText := true, laidKinds := [.data, .data, .data], laidTests := true, laidLooks := .later }
def FractionFieldUptoCardSaid : Prop := Claim7.holds Tryd.pinned (.plain (OpenSpec.upto fractionFieldSpec)) fractionFieldUptoCard

/-- THE SECOND FORM's CARD OF 'coinagelaw02.FractionOrder'. -/
def fractionOrderUptoCard : Claim7 := { stood := { row := fractionOrderUptoRow, standIns := [], harness := (true, "3513739da6cbdb55be3ab7de4d69395390085f8f0b6fc6f92389c351662ca09d"), looks := false }, kinds := [], alts := [], laidByText := true, laidKinds := [.data, .data, .data], laidTests := true, laidLooks := .later }
def FractionOrderUptoCardSaid : Prop := Claim7.holds Tryd.pinned (.plain (OpenSpec.upto fractionOrderSpec)) fractionOrderUptoCard
end Rows
end Go.Proofs.YtanhofmgapbjfaaDoor
