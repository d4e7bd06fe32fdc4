/-
  DERIVED. GIVEN WITH THE SEED: THE CARDS: each row of YtjmmninopagpjaaGreatDoorRows.lean that lists a variable, with what it lists TIED to the program's text (the seventh form; the later family's looks); each row that meets fmt, with fmt's text TOLD by the authors' own Lean function (tested against real Go, not proved from fmt's source: count such statements apart). THE CARD IS WHAT COUNTS. Prove the row's statement (the work); the ties are given (YtjmmninopagpjaaGreatDoorTie.lean); close each card by the builder's one call (the guide's Derived/Test/ToyasCard.lean, 'card_holds'). Laid BY PROGRAM, IN A SANDBOX (cutbox-door.mjs). By AI agents, Wed Nov 11 2026. No macro, syntax, notation, axiom, sorry.
-/
import Derived.Test.YtjmmninopagpjaaGreatDoorRows
import GoSem.ClaimSeven
namespace Go.Proofs.YtjmmninopagpjaaGreatDoor
namespace Rows

/-- THE TIED CARD OF 'pontoonlaw09.TransPlays'. -/
def transPlaysCard : Claim7 := { stood := { row := transPlaysRow, standIns := [], harness := (true, "7b02e4f7a18f7b02ae168a82aaeb5f4f4bc0eef106d7dee2ff2d4355420ca5a1"), looks := true }, kinds := [], alts := [], laidByText := true, laidKinds := [.data, .data, .data, .data, .sentinel, .sentinel, .data, .pinned], laidTests := true, laidLooks := .later }
def TransPlaysCardSaid : Prop := Claim7.holds Tryz.pinned (.plain (OpenSpec.ofChange transPlaysSpec)) transPlaysCard

/-- THE TIED CARD OF 'pontoonlaw09.TransApart'. -/
def transApartCard : Claim7 := { stood := { row := transApartRow, standIns := [], harness := (true, "7b02e4f7a18f7b02ae168a82aaeb5f4f4bc0eef106d7dee2ff2d4355420ca5a1"), looks := true }, kinds := [], alts := [], laidByText := true, laidKinds := [.data, .data, .data, .data, .sentinel, .sentinel, .data, .pinned], laidTests := true, laidLooks := .later }
def TransApartCardSaid : Prop := Claim7.holds Tryz.pinned (.plain (OpenSpec.ofChange transApartSpec)) transApartCard

/-- THE TIED CARD OF 'pontoonlaw09.TransBack'. -/
def transBackCard : Claim7 := { stood := { row := transBackRow, standIns := [], harness := (true, "7b02e4f7a18f7b02ae168a82aaeb5f4f4bc0eef106d7dee2ff2d4355420ca5a1"), looks := true }, kinds := [], alts := [], laidByText := true, laidKinds := [.data, .data, .data, .data, .sentinel, .sentinel, .data, .pinned], laidTests := true, laidLooks := .later }
def TransBackCardSaid : Prop := Claim7.holds Tryz.pinned (.plain (OpenSpec.ofChange transBackSpec)) transBackCard

/-- THE TIED CARD OF 'pontoonlaw09.TransNil'. -/
def transNilCard : Claim7 := { stood := { row := transNilRow, standIns := [], harness := (true, "7b02e4f7a18f7b02ae168a82aaeb5f4f4bc0eef106d7dee2ff2d4355420ca5a1"), looks := true }, kinds := [], alts := [], laidByText := true, laidKinds := [.data, .data, .data, .data, .sentinel, .sentinel, .data, .pinned], laidTests := true, laidLooks := .later }
def TransNilCardSaid : Prop := Claim7.holds Tryz.pinned (.plain (OpenSpec.ofChange transNilSpec)) transNilCard

/-- THE TIED CARD OF 'pontoonlaw09.TransIdle'. -/
def transIdleCard : Claim7 := { stood := { row := transIdleRow, standIns := [], harness := (true, "7b02e4f7a18f7b02ae168a82aaeb5f4f4bc0eef106d7dee2ff2d4355420ca5a1"), looks := true }, kinds := [], alts := [], laidByText := true, laidKinds := [.data, .data, .data, .data, .sentinel, .sentinel, .data, .pinned], laidTests := true, laidLooks := .later }
def TransIdleCardSaid : Prop := Claim7.holds Tryz.pinned (.plain (OpenSpec.ofChange transIdleSpec)) transIdleCard

/-- THE SECOND FORM's CARD OF 'pontoonlaw09.TransPlays'. -/
def transPlaysUptoCard : Claim7 := { stood := { row := transPlaysUptoRow, standIns := [], harness := (true, "7b02e4f7a18f7b02ae168a82aaeb5f4f4bc0eef106d7dee2ff2d4355420ca5a1"), looks := true }, kinds := [], alts := [], laidByText := true, laidKinds := [.data, .data, .data, .data, .sentinel, .sentinel, .data, .pinned], laidTests := true, laidLooks := .later }
def TransPlaysUptoCardSaid : Prop := Claim7.holds Tryz.pinned (.plain (OpenSpec.upto transPlaysSpec)) transPlaysUptoCard

/-- THE SECOND FORM's CARD OF 'pontoonlaw09.TransApart'. -/
def transApartUptoCard : Claim7 := { stood := { row := transApartUptoRow, standIns := [], harness := (true, "7b02e4f7a18f7b02ae168a82aaeb5f4f4bc0eef106d7dee2ff2d4355420ca5a1"), looks := true }, kinds := [], alts := [], laidByText := true, laidKinds := [.data, .data, .data, .data, .sentinel, .sentinel, .data, .pinned], laidTests := true, laidLooks := .later }
def TransApartUptoCardSaid : Prop := Claim7.holds Tryz.pinned (.plain (OpenSpec.upto transApartSpec)) transApartUptoCard

/-- THE SECOND FORM's CARD OF 'pontoonlaw09.TransBack'. -/
def transBackUptoCard : Claim7 := { stood := { row := transBackUptoRow, standIns := [], harness := (true, "7b02e4f7a18f7b02ae168a82aaeb5f4f4bc0eef106d7dee2ff2d4355420ca5a1"), looks := true }, kinds := [], alts := [], laidByText := true, laidKinds := [.data, .data, .data, .data, .sentinel, .sentinel, .data, .pinned], laidTests := true, laidLooks := .later }
def TransBackUptoCardSaid : Prop := Claim7.holds Tryz.pinned (.plain (OpenSpec.upto transBackSpec)) transBackUptoCard

/-- THE SECOND FORM's CARD OF 'pontoonlaw09.TransNil'. -/
def transNilUptoCard : Claim7 := { stood := { row := transNilUptoRow, standIns := [], harness := (true, "7b02e4f7a18f7b02ae168a82aaeb5f4f4bc0eef106d7dee2ff2d4355420ca5a1"), looks := true }, kinds := [], alts := [], laidByText := true, laidKinds := [.data, .data, .data, .data, .sentinel, .sentinel, .data, .pinned], laidTests := true, laidLooks := .later }
def TransNilUptoCardSaid : Prop := Claim7.holds Tryz.pinned (.plain (OpenSpec.upto transNilSpec)) transNilUptoCard

/-- THE SECOND FORM's CARD OF 'pontoonlaw09.TransIdle'. -/
def transIdleUptoCard : Claim7 := { stood := { row := transIdleUptoRow, standIns := [], harness := (true, "7b02e4f7a18f7b02ae168a82aaeb5f4f4bc0eef106d7dee2ff2d4355420ca5a1"), looks := true }, kinds := [], alts := [], laidByText := true, laidKinds := [.data, .data, .data, .data, .sentinel, .sentinel, .data, .pinned], laidTests := true, laidLooks := .later }
def TransIdleUptoCardSaid : Prop := Claim7.holds Tryz.pinned (.plain (OpenSpec.upto transIdleSpec)) transIdleUptoCard
end Rows
end Go.Proofs.YtjmmninopagpjaaGreatDoor
