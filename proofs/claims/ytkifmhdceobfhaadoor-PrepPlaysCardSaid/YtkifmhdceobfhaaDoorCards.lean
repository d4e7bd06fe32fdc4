/-
  DERIVED. GIVEN WITH THE SEED: THE CARDS: each row of YtkifmhdceobfhaaDoorRows.lean that lists a variable, with what it lists TIED to the program's text (the seventh form; the later family's looks); each row that meets fmt, with fmt's text TOLD by the authors' own Lean function (tested against real Go, not proved from fmt's source: count such statements apart). THE CARD IS WHAT COUNTS. Prove the row's statement (the work); the ties are given (YtkifmhdceobfhaaDoorTie.lean); close each card by the builder's one call (the guide's Derived/Test/ToyasCard.lean, 'card_holds'). Laid BY PROGRAM, IN A SANDBOX (cutbox-door.mjs). By AI agents, Wed Nov 11 2026. No macro, syntax, notation, axiom, sorry.
-/
import Derived.Test.YtkifmhdceobfhaaDoorRows
import GoSem.ClaimSeven
namespace Go.Proofs.YtkifmhdceobfhaaDoor
namespace Rows

/-- THE TIED CARD OF 'pontoonlaw18.PrepPlays'. -/
def prepPlaysCard : Claim7 := { stood := { row := prepPlaysRow, standIns := [], harness := (true, "4234fe40ebeac735a41c15c80927d2b9faaf6f97364306ed81e316ce230cbdb1"), looks := true }, kinds := [], alts := [], laidByText := true, laidKinds := [.data, .data, .data], laidTests := true, laidLooks := .later }
def PrepPlaysCardSaid : Prop := Claim7.holds Tryd.pinned (.plain (OpenSpec.ofChange prepPlaysSpec)) prepPlaysCard

/-- THE TIED CARD OF 'pontoonlaw18.PrepNames'. -/
def prepNamesCard : Claim7 := { stood := { row := prepNamesRow, standIns := [], harness := (true, "4234fe40ebeac735a41c15c80927d2b9faaf6f97364306ed81e316ce230cbdb1"), looks := true }, kinds := [], alts := [], laidByText := true, laidKinds := [.data, .data, .data], laidTests := true, laidLooks := .later }
def PrepNamesCardSaid : Prop := Claim7.holds Tryd.pinned (.plain (OpenSpec.ofChange prepNamesSpec)) prepNamesCard

/-- THE TIED CARD OF 'pontoonlaw18.PrepApart'. -/
def prepApartCard : Claim7 := { stood := { row := prepApartRow, standIns := [], harness := (true, "4234fe40ebeac735a41c15c80927d2b9faaf6f97364306ed81e316ce230cbdb1"), looks := true }, kinds := [], alts := [], laidByText := true, laidKinds := [.data, .data, .data], laidTests := true, laidLooks := .later }
def PrepApartCardSaid : Prop := Claim7.holds Tryd.pinned (.plain (OpenSpec.ofChange prepApartSpec)) prepApartCard

/-- THE TIED CARD OF 'pontoonlaw18.PrepNil'. -/
def prepNilCard : Claim7 := { stood := { row := prepNilRow, standIns := [], harness := (true, "4234fe40ebeac735a41c15c80927d2b9faaf6f97364306ed81e316ce230cbdb1"), looks := true }, kinds := [], alts := [], laidByText := true, laidKinds := [.data, .data, .data], laidTests := true, laidLooks := .later }
def PrepNilCardSaid : Prop := Claim7.holds Tryd.pinned (.plain (OpenSpec.ofChange prepNilSpec)) prepNilCard

/-- THE TIED CARD OF 'pontoonlaw18.PrepLeaves'. -/
def prepLeavesCard : Claim7 := { stood := { row := prepLeavesRow, standIns := [], harness := (true, "4234fe40ebeac735a41c15c80927d2b9faaf6f97364306ed81e316ce230cbdb1"), looks := true }, kinds := [], alts := [], laidByText := true, laidKinds := [.data, .data, .data], laidTests := true, laidLooks := .later }
def PrepLeavesCardSaid : Prop := Claim7.holds Tryd.pinned (.plain (OpenSpec.ofChange prepLeavesSpec)) prepLeavesCard

/-- THE SECOND FORM's CARD OF 'pontoonlaw18.PrepPlays'. -/
def prepPlaysUptoCard : Claim7 := { stood := { row := prepPlaysUptoRow, standIns := [], harness := (true, "4234fe40ebeac735a41c15c80927d2b9faaf6f97364306ed81e316ce230cbdb1"), looks := true }, kinds := [], alts := [], laidByText := true, laidKinds := [.data, .data, .data], laidTests := true, laidLooks := .later }
def PrepPlaysUptoCardSaid : Prop := Claim7.holds Tryd.pinned (.plain (OpenSpec.upto prepPlaysSpec)) prepPlaysUptoCard

/-- THE SECOND FORM's CARD OF 'pontoonlaw18.PrepNames'. -/
def prepNamesUptoCard : Claim7 := { stood := { row := prepNamesUptoRow, standIns := [], harness := (true, "4234fe40ebeac735a41c15c80927d2b9faaf6f97364306ed81e316ce230cbdb1"), looks := true }, kinds := [], alts := [], laidByText := true, laidKinds := [.data, .data, .data], laidTests := true, laidLooks := .later }
def PrepNamesUptoCardSaid : Prop := Claim7.holds Tryd.pinned (.plain (OpenSpec.upto prepNamesSpec)) prepNamesUptoCard

/-- THE SECOND FORM's CARD OF 'pontoonlaw18.PrepApart'. -/
def prepApartUptoCard : Claim7 := { stood := { row := prepApartUptoRow, standIns := [], harness := (true, "4234fe40ebeac735a41c15c80927d2b9faaf6f97364306ed81e316ce230cbdb1"), looks := true }, kinds := [], alts := [], laidByText := true, laidKinds := [.data, .data, .data], laidTests := true, laidLooks := .later }
def PrepApartUptoCardSaid : Prop := Claim7.holds Tryd.pinned (.plain (OpenSpec.upto prepApartSpec)) prepApartUptoCard

/-- THE SECOND FORM's CARD OF 'pontoonlaw18.PrepNil'. -/
def prepNilUptoCard : Claim7 := { stood := { row := prepNilUptoRow, standIns := [], harness := (true, "4234fe40ebeac735a41c15c80927d2b9faaf6f97364306ed81e316ce230cbdb1"), looks := true }, kinds := [], alts := [], laidByText := true, laidKinds := [.data, .data, .data], laidTests := true, laidLooks := .later }
def PrepNilUptoCardSaid : Prop := Claim7.holds Tryd.pinned (.plain (OpenSpec.upto prepNilSpec)) prepNilUptoCard

/-- THE SECOND FORM's CARD OF 'pontoonlaw18.PrepLeaves'. -/
def prepLeavesUptoCard : Claim7 := { stood := { row := prepLeavesUptoRow, standIns := [], harness := (true, "4234fe40ebeac735a41c15c80927d2b9faaf6f97364306ed81e316ce230cbdb1"), looks := true }, kinds := [], alts := [], laidByText := true, laidKinds := [.data, .data, .data], laidTests := true, laidLooks := .later }
def PrepLeavesUptoCardSaid : Prop := Claim7.holds Tryd.pinned (.plain (OpenSpec.upto prepLeavesSpec)) prepLeavesUptoCard
end Rows
end Go.Proofs.YtkifmhdceobfhaaDoor
