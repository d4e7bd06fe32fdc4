/-
  DERIVED. GIVEN WITH THE SEED: THE CARDS: each row of YtgdabkpahmlkpaaGreatDoorRows.lean that lists a variable, with what it lists TIED to the program's text (the seventh form; the later family's looks); each row that meets fmt, with fmt's text TOLD by the authors' own Lean function (tested against real Go, not proved from fmt's source: count such statements apart). THE CARD IS WHAT COUNTS. Prove the row's statement (the work); the ties are given (YtgdabkpahmlkpaaGreatDoorTie.lean); close each card by the builder's one call (the guide's Derived/Test/ToyasCard.lean, 'card_holds'). Laid BY PROGRAM, IN A SANDBOX (cutbox-door.mjs). By AI agents, Wed Nov 11 2026. No macro, syntax, notation, axiom, sorry.
-/
import Derived.Test.YtgdabkpahmlkpaaGreatDoorRows
import GoSem.ClaimSeven
namespace Go.Proofs.YtgdabkpahmlkpaaGreatDoor
namespace Rows

/-- THE TIED CARD OF 'pontoonlaw08.StateDoes'. -/
def stateDoesCard : Claim7 := { stood := { row := stateDoesRow, standIns := [], harness := (true, "c5ee97fd61d327db7c942a5d8196fb4c34d7b063c5aeada47dbad67b82e99191"), looks := true }, kinds := [], alts := [], laidByText := true, laidKinds := [.data, .data, .data, .data, .sentinel, .sentinel, .data, .pinned], laidTests := true, laidLooks := .later }
def StateDoesCardSaid : Prop := Claim7.holds Tryz.pinned (.plain (OpenSpec.ofChange stateDoesSpec)) stateDoesCard

/-- THE TIED CARD OF 'pontoonlaw09.TransPlays'. -/
def transPlaysCard : Claim7 := { stood := { row := transPlaysRow, standIns := [], harness := (true, "c5ee97fd61d327db7c942a5d8196fb4c34d7b063c5aeada47dbad67b82e99191"), looks := true }, kinds := [], alts := [], laidByText := true, laidKinds := [.data, .data, .data, .data, .sentinel, .sentinel, .data, .pinned], laidTests := true, laidLooks := .later }
def TransPlaysCardSaid : Prop := Claim7.holds Tryz.pinned (.plain (OpenSpec.ofChange transPlaysSpec)) transPlaysCard

/-- THE TIED CARD OF 'pontoonlaw09.TransApart'. -/
def transApartCard : Claim7 := { stood := { row := transApartRow, standIns := [], harness := (true, "c5ee97fd61d327db7c942a5d8196fb4c34d7b063c5aeada47dbad67b82e99191"), looks := true }, kinds := [], alts := [], laidByText := true, laidKinds := [.data, .data, .data, .data, .sentinel, .sentinel, .data, .pinned], laidTests := true, laidLooks := .later }
def TransApartCardSaid : Prop := Claim7.holds Tryz.pinned (.plain (OpenSpec.ofChange transApartSpec)) transApartCard

/-- THE TIED CARD OF 'pontoonlaw09.TransBack'. -/
def transBackCard : Claim7 := { stood := { row := transBackRow, standIns := [], harness := (true, "c5ee97fd61d327db7c942a5d8196fb4c34d7b063c5aeada47dbad67b82e99191"), looks := true }, kinds := [], alts := [], laidByText := true, laidKinds := [.data, .data, .data, .data, .sentinel, .sentinel, .data, .pinned], laidTests := true, laidLooks := .later }
def TransBackCardSaid : Prop := Claim7.holds Tryz.pinned (.plain (OpenSpec.ofChange transBackSpec)) transBackCard

/-- THE TIED CARD OF 'pontoonlaw09.TransNil'. -/
def transNilCard : Claim7 := { stood := { row := transNilRow, standIns := [], harness := (true, "c5ee97fd61d327db7c942a5d8196fb4c34d7b063c5aeada47dbad67b82e99191"), looks := true }, kinds := [], alts := [], laidByText := true, laidKinds := [.data, .data, .data, .data, .sentinel, .sentinel, .data, .pinned], laidTests := true, laidLooks := .later }
def TransNilCardSaid : Prop := Claim7.holds Tryz.pinned (.plain (OpenSpec.ofChange transNilSpec)) transNilCard

/-- THE TIED CARD OF 'pontoonlaw09.TransIdle'. -/
def transIdleCard : Claim7 := { stood := { row := transIdleRow, standIns := [], harness := (true, "c5ee97fd61d327db7c942a5d8196fb4c34d7b063c5aeada47dbad67b82e99191"), looks := true }, kinds := [], alts := [], laidByText := true, laidKinds := [.data, .data, .data, .data, .sentinel, .sentinel, .data, .pinned], laidTests := true, laidLooks := .later }
def TransIdleCardSaid : Prop := Claim7.holds Tryz.pinned (.plain (OpenSpec.ofChange transIdleSpec)) transIdleCard

/-- THE SECOND FORM's CARD OF 'pontoonlaw08.StateDoes'. -/
def stateDoesUptoCard : Claim7 := { stood := { row := stateDoesUptoRow, standIns := [], harness := (true, "c5ee97fd61d327db7c942a5d8196fb4c34d7b063c5aeada47dbad67b82e99191"), looks := true }, kinds := [], alts := [], laidByText := true, laidKinds := [.data, .data, .data, .data, .sentinel, .sentinel, .data, .pinned], laidTests := true, laidLooks := .later }
def StateDoesUptoCardSaid : Prop := Claim7.holds Tryz.pinned (.plain (OpenSpec.upto stateDoesSpec)) stateDoesUptoCard

/-- THE SECOND FORM's CARD OF 'pontoonlaw09.TransPlays'. -/
def transPlaysUptoCard : Claim7 := { stood := { row := transPlaysUptoRow, standIns := [], harness := (true, "c5ee97fd61d327db7c942a5d8196fb4c34d7b063c5aeada47dbad67b82e99191"), looks := true }, kinds := [], alts := [], laidByText := true, laidKinds := [.data, .data, .data, .data, .sentinel, .sentinel, .data, .pinned], laidTests := true, laidLooks := .later }
def TransPlaysUptoCardSaid : Prop := Claim7.holds Tryz.pinned (.plain (OpenSpec.upto transPlaysSpec)) transPlaysUptoCard

/-- THE SECOND FORM's CARD OF 'pontoonlaw09.TransApart'. -/
def transApartUptoCard : Claim7 := { stood := { row := transApartUptoRow, standIns := [], harness := (true, "c5ee97fd61d327db7c942a5d8196fb4c34d7b063c5aeada47dbad67b82e99191"), looks := true }, kinds := [], alts := [], laidByText := true, laidKinds := [.data, .data, .data, .data, .sentinel, .sentinel, .data, .pinned], laidTests := true, laidLooks := .later }
def TransApartUptoCardSaid : Prop := Claim7.holds Tryz.pinned (.plain (OpenSpec.upto transApartSpec)) transApartUptoCard

/-- THE SECOND FORM's CARD OF 'pontoonlaw09.TransBack'. -/
def transBackUptoCard : Claim7 := { stood := { row := transBackUptoRow, standIns := [], harness := (true, "c5ee97fd61d327db7c942a5d8196fb4c34d7b063c5aeada47dbad67b82e99191"), looks := true }, kinds := [], alts := [], laidByText := true, laidKinds := [.data, .data, .data, .data, .sentinel, .sentinel, .data, .pinned], laidTests := true, laidLooks := .later }
def TransBackUptoCardSaid : Prop := Claim7.holds Tryz.pinned (.plain (OpenSpec.upto transBackSpec)) transBackUptoCard

/-- THE SECOND FORM's CARD OF 'pontoonlaw09.TransNil'. -/
def transNilUptoCard : Claim7 := { stood := { row := transNilUptoRow, standIns := [], harness := (true, "c5ee97fd61d327db7c942a5d8196fb4c34d7b063c5aeada47dbad67b82e99191"), looks := true }, kinds := [], alts := [], laidByText := true, laidKinds := [.data, .data, .data, .data, .sentinel, .sentinel, .data, .pinned], laidTests := true, laidLooks := .later }
def TransNilUptoCardSaid : Prop := Claim7.holds Tryz.pinned (.plain (OpenSpec.upto transNilSpec)) transNilUptoCard

/-- THE SECOND FORM's CARD OF 'pontoonlaw09.TransIdle'. -/
def transIdleUptoCard : Claim7 := { stood := { row := transIdleUptoRow, standIns := [], harness := (true, "c5ee97fd61d327db7c942a5d8196fb4c34d7b063c5aeada47dbad67b82e99191"), looks := true }, kinds := [], alts := [], laidByText := true, laidKinds := [.data, .data, .data, .data, .sentinel, .sentinel, .data, .pinned], laidTests := true, laidLooks := .later }
def TransIdleUptoCardSaid : Prop := Claim7.holds Tryz.pinned (.plain (OpenSpec.upto transIdleSpec)) transIdleUptoCard
end Rows
end Go.Proofs.YtgdabkpahmlkpaaGreatDoor
