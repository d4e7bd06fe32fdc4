/-
  DERIVED. GIVEN WITH THE SEED: THE CARDS: each row of YtgnpkpboilnijaaGreatDoorRows.lean that lists a variable, with what it lists TIED to the program's text (the seventh form; the later family's looks); each row that meets fmt, with fmt's text TOLD by the authors' own Lean function (tested against real Go, not proved from fmt's source: count such statements apart). THE CARD IS WHAT COUNTS. Prove the row's statement (the work); the ties are given (YtgnpkpboilnijaaGreatDoorTie.lean); close each card by the builder's one call (the guide's Derived/Test/ToyasCard.lean, 'card_holds'). Laid BY PROGRAM, IN A SANDBOX (cutbox-door.mjs). By AI agents, Wed Nov 11 2026. No macro, syntax, notation, axiom, sorry.
-/
import Derived.Test.YtgnpkpboilnijaaGreatDoorRows
import GoSem.ClaimSeven
namespace Go.Proofs.YtgnpkpboilnijaaGreatDoor
namespace Rows

/-- THE TIED CARD OF 'pontoonlaw05.NormForms'. -/
def normFormsCard : Claim7 := { stood := { row := normFormsRow, standIns := [], harness := (true, "35266c55f04077116153bbd1a7dd1993739d25183da7d20ada79a5094ab028dc"), looks := true }, kinds := [], alts := [], laidByText := true, laidKinds := [.data, .data, .data, .data, .sentinel, .sentinel, .pinned], laidTests := true, laidLooks := .later }
def NormFormsCardSaid : Prop := Claim7.holds Tryz.pinned (.plain (OpenSpec.ofChange normFormsSpec)) normFormsCard

/-- THE TIED CARD OF 'pontoonlaw05.NormFills'. -/
def normFillsCard : Claim7 := { stood := { row := normFillsRow, standIns := [], harness := (true, "35266c55f04077116153bbd1a7dd1993739d25183da7d20ada79a5094ab028dc"), looks := true }, kinds := [], alts := [], laidByText := true, laidKinds := [.data, .data, .data, .data, .sentinel, .sentinel, .pinned], laidTests := true, laidLooks := .later }
def NormFillsCardSaid : Prop := Claim7.holds Tryz.pinned (.plain (OpenSpec.ofChange normFillsSpec)) normFillsCard

/-- THE TIED CARD OF 'pontoonlaw05.NormTwice'. -/
def normTwiceCard : Claim7 := { stood := { row := normTwiceRow, standIns := [], harness := (true, "35266c55f04077116153bbd1a7dd1993739d25183da7d20ada79a5094ab028dc"), looks := true }, kinds := [], alts := [], laidByText := true, laidKinds := [.data, .data, .data, .data, .sentinel, .sentinel, .pinned], laidTests := true, laidLooks := .later }
def NormTwiceCardSaid : Prop := Claim7.holds Tryz.pinned (.plain (OpenSpec.ofChange normTwiceSpec)) normTwiceCard

/-- THE TIED CARD OF 'pontoonlaw05.NormFilled'. -/
def normFilledCard : Claim7 := { stood := { row := normFilledRow, standIns := [], harness := (true, "35266c55f04077116153bbd1a7dd1993739d25183da7d20ada79a5094ab028dc"), looks := true }, kinds := [], alts := [], laidByText := true, laidKinds := [.data, .data, .data, .data, .sentinel, .sentinel, .pinned], laidTests := true, laidLooks := .later }
def NormFilledCardSaid : Prop := Claim7.holds Tryz.pinned (.plain (OpenSpec.ofChange normFilledSpec)) normFilledCard

/-- THE SECOND FORM's CARD OF 'pontoonlaw05.NormForms'. -/
def normFormsUptoCard : Claim7 := { stood := { row := normFormsUptoRow, standIns := [], harness := (true, "35266c55f04077116153bbd1a7dd1993739d25183da7d20ada79a5094ab028dc"), looks := true }, kinds := [], alts := [], laidByText := true, laidKinds := [.data, .data, .data, .data, .sentinel, .sentinel, .pinned], laidTests := true, laidLooks := .later }
def NormFormsUptoCardSaid : Prop := Claim7.holds Tryz.pinned (.plain (OpenSpec.upto normFormsSpec)) normFormsUptoCard

/-- THE SECOND FORM's CARD OF 'pontoonlaw05.NormFills'. -/
def normFillsUptoCard : Claim7 := { stood := { row := normFillsUptoRow, standIns := [], harness := (true, "35266c55f04077116153bbd1a7dd1993739d25183da7d20ada79a5094ab028dc"), looks := true }, kinds := [], alts := [], laidByText := true, laidKinds := [.data, .data, .data, .data, .sentinel, .sentinel, .pinned], laidTests := true, laidLooks := .later }
def NormFillsUptoCardSaid : Prop := Claim7.holds Tryz.pinned (.plain (OpenSpec.upto normFillsSpec)) normFillsUptoCard

/-- THE SECOND FORM's CARD OF 'pontoonlaw05.NormTwice'. -/
def normTwiceUptoCard : Claim7 := { stood := { row := normTwiceUptoRow, standIns := [], harness := (true, "35266c55f04077116153bbd1a7dd1993739d25183da7d20ada79a5094ab028dc"), looks := true }, kinds := [], alts := [], laidByText := true, laidKinds := [.data, .data, .data, .data, .sentinel, .sentinel, .pinned], laidTests := true, laidLooks := .later }
def NormTwiceUptoCardSaid : Prop := Claim7.holds Tryz.pinned (.plain (OpenSpec.upto normTwiceSpec)) normTwiceUptoCard

/-- THE SECOND FORM's CARD OF 'pontoonlaw05.NormFilled'. -/
def normFilledUptoCard : Claim7 := { stood := { row := normFilledUptoRow, standIns := [], harness := (true, "35266c55f04077116153bbd1a7dd1993739d25183da7d20ada79a5094ab028dc"), looks := true }, kinds := [], alts := [], laidByText := true, laidKinds := [.data, .data, .data, .data, .sentinel, .sentinel, .pinned], laidTests := true, laidLooks := .later }
def NormFilledUptoCardSaid : Prop := Claim7.holds Tryz.pinned (.plain (OpenSpec.upto normFilledSpec)) normFilledUptoCard
end Rows
end Go.Proofs.YtgnpkpboilnijaaGreatDoor
