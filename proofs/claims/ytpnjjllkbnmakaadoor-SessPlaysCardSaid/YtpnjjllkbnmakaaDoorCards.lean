/-
  DERIVED. GIVEN WITH THE SEED: THE CARDS: each row of YtpnjjllkbnmakaaDoorRows.lean that lists a variable, with what it lists TIED to the program's text (the seventh form; the later family's looks); each row that meets fmt, with fmt's text TOLD by the authors' own Lean function (tested against real Go, not proved from fmt's source: count such statements apart). THE CARD IS WHAT COUNTS. Prove the row's statement (the work); the ties are given (YtpnjjllkbnmakaaDoorTie.lean); close each card by the builder's one call (the guide's Derived/Test/ToyasCard.lean, 'card_holds'). Laid BY PROGRAM, IN A SANDBOX (cutbox-door.mjs). By AI agents, Wed Nov 11 2026. No macro, syntax, notation, axiom, sorry.
-/
import Derived.Test.YtpnjjllkbnmakaaDoorRows
import GoSem.ClaimSeven
namespace Go.Proofs.YtpnjjllkbnmakaaDoor
namespace Rows

/-- THE TIED CARD OF 'pontoonlaw19.SessPlays'. -/
def sessPlaysCard : Claim7 := { stood := { row := sessPlaysRow, standIns := [], harness := (true, "45502d35dbd0b67ec32a53094c7148299627dc0e4a51cf43f5821b35d96bbe2f"), looks := false }, kinds := [], alts := [], laidByText := true, laidKinds := [.data], laidTests := true, laidLooks := .later }
def SessPlaysCardSaid : Prop := Claim7.holds Tryd.pinned (.plain (OpenSpec.ofChange sessPlaysSpec)) sessPlaysCard

/-- THE TIED CARD OF 'pontoonlaw19.SessOver'. -/
def sessOverCard : Claim7 := { stood := { row := sessOverRow, standIns := [], harness := (true, "45502d35dbd0b67ec32a53094c7148299627dc0e4a51cf43f5821b35d96bbe2f"), looks := false }, kinds := [], alts := [], laidByText := true, laidKinds := [.data], laidTests := true, laidLooks := .later }
def SessOverCardSaid : Prop := Claim7.holds Tryd.pinned (.plain (OpenSpec.ofChange sessOverSpec)) sessOverCard

/-- THE TIED CARD OF 'pontoonlaw19.SessSkips'. -/
def sessSkipsCard : Claim7 := { stood := { row := sessSkipsRow, standIns := [], harness := (true, "45502d35dbd0b67ec32a53094c7148299627dc0e4a51cf43f5821b35d96bbe2f"), looks := false }, kinds := [], alts := [], laidByText := true, laidKinds := [.data], laidTests := true, laidLooks := .later }
def SessSkipsCardSaid : Prop := Claim7.holds Tryd.pinned (.plain (OpenSpec.ofChange sessSkipsSpec)) sessSkipsCard

/-- THE TIED CARD OF 'pontoonlaw19.SessNil'. -/
def sessNilCard : Claim7 := { stood := { row := sessNilRow, standIns := [], harness := (true, "45502d35dbd0b67ec32a53094c7148299627dc0e4a51cf43f5821b35d96bbe2f"), looks := false }, kinds := [], alts := [], laidByText := true, laidKinds := [.data], laidTests := true, laidLooks := .later }
def SessNilCardSaid : Prop := Claim7.holds Tryd.pinned (.plain (OpenSpec.ofChange sessNilSpec)) sessNilCard

/-- THE SECOND FORM's CARD OF 'pontoonlaw19.SessPlays'. -/
def sessPlaysUptoCard : Claim7 := { stood := { row := sessPlaysUptoRow, standIns := [], harness := (true, "45502d35dbd0b67ec32a53094c7148299627dc0e4a51cf43f5821b35d96bbe2f"), looks := false }, kinds := [], alts := [], laidByText := true, laidKinds := [.data], laidTests := true, laidLooks := .later }
def SessPlaysUptoCardSaid : Prop := Claim7.holds Tryd.pinned (.plain (OpenSpec.upto sessPlaysSpec)) sessPlaysUptoCard

/-- THE SECOND FORM's CARD OF 'pontoonlaw19.SessOver'. -/
def sessOverUptoCard : Claim7 := { stood := { row := sessOverUptoRow, standIns := [], harness := (true, "45502d35dbd0b67ec32a53094c7148299627dc0e4a51cf43f5821b35d96bbe2f"), looks := false }, kinds := [], alts := [], laidByText := true, laidKinds := [.data], laidTests := true, laidLooks := .later }
def SessOverUptoCardSaid : Prop := Claim7.holds Tryd.pinned (.plain (OpenSpec.upto sessOverSpec)) sessOverUptoCard

/-- THE SECOND FORM's CARD OF 'pontoonlaw19.SessSkips'. -/
def sessSkipsUptoCard : Claim7 := { stood := { row := sessSkipsUptoRow, standIns := [], harness := (true, "45502d35dbd0b67ec32a53094c7148299627dc0e4a51cf43f5821b35d96bbe2f"), looks := false }, kinds := [], alts := [], laidByText := true, laidKinds := [.data], laidTests := true, laidLooks := .later }
def SessSkipsUptoCardSaid : Prop := Claim7.holds Tryd.pinned (.plain (OpenSpec.upto sessSkipsSpec)) sessSkipsUptoCard

/-- THE SECOND FORM's CARD OF 'pontoonlaw19.SessNil'. -/
def sessNilUptoCard : Claim7 := { stood := { row := sessNilUptoRow, standIns := [], harness := (true, "45502d35dbd0b67ec32a53094c7148299627dc0e4a51cf43f5821b35d96bbe2f"), looks := false }, kinds := [], alts := [], laidByText := true, laidKinds := [.data], laidTests := true, laidLooks := .later }
def SessNilUptoCardSaid : Prop := Claim7.holds Tryd.pinned (.plain (OpenSpec.upto sessNilSpec)) sessNilUptoCard
end Rows
end Go.Proofs.YtpnjjllkbnmakaaDoor
