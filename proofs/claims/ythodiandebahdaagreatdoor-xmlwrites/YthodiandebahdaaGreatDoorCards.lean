/-
  DERIVED. GIVEN WITH THE SEED: THE CARDS: each row of YthodiandebahdaaGreatDoorRows.lean that lists a variable, with what it lists TIED to the program's text (the seventh form; the later family's looks); each row that meets fmt, with fmt's text TOLD by the authors' own Lean function (tested against real Go, not proved from fmt's source: count such statements apart). THE CARD IS WHAT COUNTS. Prove the row's statement (the work); the ties are given (YthodiandebahdaaGreatDoorTie.lean); close each card by the builder's one call (the guide's Derived/Test/ToyasCard.lean, 'card_holds'). Laid BY PROGRAM, IN A SANDBOX (cutbox-door.mjs). By AI agents, Wed Nov 11 2026. No macro, syntax, notation, axiom, sorry.
-/
import Derived.Test.YthodiandebahdaaGreatDoorRows
import GoSem.ClaimSeven
namespace Go.Proofs.YthodiandebahdaaGreatDoor
namespace Rows

/-- THE TIED CARD OF 'calamuslaw10.XmlWrites'. -/
def xmlWritesCard : Claim7 := { stood := { row := xmlWritesRow, standIns := [], harness := (true, "f6f542495e8768b12688da6893fc2c3f53cecd701895c9478509a6ff70e150c1"), looks := true }, kinds := [], alts := [], laidByText := true, laidKinds := [.data, .data, .data, .wider, .data], laidTests := true, laidLooks := .later }
def XmlWritesCardSaid : Prop := Claim7.holds Tryz.pinned (.plain (OpenSpec.ofChange xmlWritesSpec)) xmlWritesCard

/-- THE TIED CARD OF 'calamuslaw10.XmlRound'. -/
def xmlRoundCard : Claim7 := { stood := { row := xmlRoundRow, standIns := [], harness := (true, "f6f542495e8768b12688da6893fc2c3f53cecd701895c9478509a6ff70e150c1"), looks := true }, kinds := [], alts := [], laidByText := true, laidKinds := [.data, .data, .data, .wider, .data], laidTests := true, laidLooks := .later }
def XmlRoundCardSaid : Prop := Claim7.holds Tryz.pinned (.plain (OpenSpec.ofChange xmlRoundSpec)) xmlRoundCard

/-- THE TIED CARD OF 'calamuslaw10.XmlParts'. -/
def xmlPartsCard : Claim7 := { stood := { row := xmlPartsRow, standIns := [], harness := (true, "f6f542495e8768b12688da6893fc2c3f53cecd701895c9478509a6ff70e150c1"), looks := true }, kinds := [], alts := [], laidByText := true, laidKinds := [.data, .data, .data, .data, .sentinel, .sentinel, .wider, .data, .pinned], laidTests := true, laidLooks := .later }
def XmlPartsCardSaid : Prop := Claim7.holds Tryz.pinned (.plain (OpenSpec.ofChange xmlPartsSpec)) xmlPartsCard

/-- THE TIED CARD OF 'calamuslaw10.XmlLists'. -/
def xmlListsCard : Claim7 := { stood := { row := xmlListsRow, standIns := [], harness := (true, "f6f542495e8768b12688da6893fc2c3f53cecd701895c9478509a6ff70e150c1"), looks := true }, kinds := [], alts := [], laidByText := true, laidKinds := [.data, .data, .data, .wider, .data], laidTests := true, laidLooks := .later }
def XmlListsCardSaid : Prop := Claim7.holds Tryz.pinned (.plain (OpenSpec.ofChange xmlListsSpec)) xmlListsCard

/-- THE TIED CARD OF 'calamuslaw10.XmlApart'. -/
def xmlApartCard : Claim7 := { stood := { row := xmlApartRow, standIns := [], harness := (true, "f6f542495e8768b12688da6893fc2c3f53cecd701895c9478509a6ff70e150c1"), looks := true }, kinds := [], alts := [], laidByText := true, laidKinds := [.data, .data, .data, .wider, .data], laidTests := true, laidLooks := .later }
def XmlApartCardSaid : Prop := Claim7.holds Tryz.pinned (.plain (OpenSpec.ofChange xmlApartSpec)) xmlApartCard

/-- THE SECOND FORM's CARD OF 'calamuslaw10.XmlWrites'. -/
def xmlWritesUptoCard : Claim7 := { stood := { row := xmlWritesUptoRow, standIns := [], harness := (true, "f6f542495e8768b12688da6893fc2c3f53cecd701895c9478509a6ff70e150c1"), looks := true }, kinds := [], alts := [], laidByText := true, laidKinds := [.data, .data, .data, .wider, .data], laidTests := true, laidLooks := .later }
def XmlWritesUptoCardSaid : Prop := Claim7.holds Tryz.pinned (.plain (OpenSpec.upto xmlWritesSpec)) xmlWritesUptoCard

/-- THE SECOND FORM's CARD OF 'calamuslaw10.XmlRound'. -/
def xmlRoundUptoCard : Claim7 := { stood := { row := xmlRoundUptoRow, standIns := [], harness := (true, "f6f542495e8768b12688da6893fc2c3f53cecd701895c9478509a6ff70e150c1"), looks := true }, kinds := [], alts := [], laidByText := true, laidKinds := [.data, .data, .data, .wider, .data], laidTests := true, laidLooks := .later }
def XmlRoundUptoCardSaid : Prop := Claim7.holds Tryz.pinned (.plain (OpenSpec.upto xmlRoundSpec)) xmlRoundUptoCard

/-- THE SECOND FORM's CARD OF 'calamuslaw10.XmlParts'. -/
def xmlPartsUptoCard : Claim7 := { stood := { row := xmlPartsUptoRow, standIns := [], harness := (true, "f6f542495e8768b12688da6893fc2c3f53cecd701895c9478509a6ff70e150c1"), looks := true }, kinds := [], alts := [], laidByText := true, laidKinds := [.data, .data, .data, .data, .sentinel, .sentinel, .wider, .data, .pinned], laidTests := true, laidLooks := .later }
def XmlPartsUptoCardSaid : Prop := Claim7.holds Tryz.pinned (.plain (OpenSpec.upto xmlPartsSpec)) xmlPartsUptoCard

/-- THE SECOND FORM's CARD OF 'calamuslaw10.XmlLists'. -/
def xmlListsUptoCard : Claim7 := { stood := { row := xmlListsUptoRow, standIns := [], harness := (true, "f6f542495e8768b12688da6893fc2c3f53cecd701895c9478509a6ff70e150c1"), looks := true }, kinds := [], alts := [], laidByText := true, laidKinds := [.data, .data, .data, .wider, .data], laidTests := true, laidLooks := .later }
def XmlListsUptoCardSaid : Prop := Claim7.holds Tryz.pinned (.plain (OpenSpec.upto xmlListsSpec)) xmlListsUptoCard

/-- THE SECOND FORM's CARD OF 'calamuslaw10.XmlApart'. -/
def xmlApartUptoCard : Claim7 := { stood := { row := xmlApartUptoRow, standIns := [], harness := (true, "f6f542495e8768b12688da6893fc2c3f53cecd701895c9478509a6ff70e150c1"), looks := true }, kinds := [], alts := [], laidByText := true, laidKinds := [.data, .data, .data, .wider, .data], laidTests := true, laidLooks := .later }
def XmlApartUptoCardSaid : Prop := Claim7.holds Tryz.pinned (.plain (OpenSpec.upto xmlApartSpec)) xmlApartUptoCard
end Rows
end Go.Proofs.YthodiandebahdaaGreatDoor
