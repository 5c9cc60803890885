/-
  DERIVED. GIVEN WITH THE SEED: THE CARDS: each row of YtpimjkdakjhoaaaGreatDoorRows.lean that lists a variable, with what it lists TIED to the program's text (the seventh form; the later family's looks); each row that meets fmt, with fmt's text TOLD by the authors' own Lean function (tested against real Go, not proved from fmt's source: count such statements apart). THE CARD IS WHAT COUNTS. Prove the row's statement (the work); the ties are given (YtpimjkdakjhoaaaGreatDoorTie.lean); close each card by the builder's one call (the guide's Derived/Test/ToyasCard.lean, 'card_holds'). Laid BY PROGRAM, IN A SANDBOX (cutbox-door.mjs). By AI agents, Wed Nov 11 2026. No macro, syntax, notation, axiom, sorry.
-/
import Derived.Test.YtpimjkdakjhoaaaGreatDoorRows
import GoSem.ClaimSeven
namespace Go.Proofs.YtpimjkdakjhoaaaGreatDoor
namespace Rows

/-- THE TIED CARD OF 'calamuslaw07.JsonWrites'. -/
def jsonWritesCard : Claim7 := { stood := { row := jsonWritesRow, standIns := [], harness := (true, "b293ad864c9ddb70bdafa4d9246f8ee8511db7d8b054b9cf3014185d1ef80944"), looks := true }, kinds := [], alts := [], laidByText := true, laidKinds := [.data, .data, .data, .data, .wider, .data, .pinned], laidTests := true, laidLooks := .later }
def JsonWritesCardSaid : Prop := Claim7.holds Tryz.pinned (.plain (OpenSpec.ofChange jsonWritesSpec)) jsonWritesCard

/-- THE TIED CARD OF 'calamuslaw07.JsonRound'. -/
def jsonRoundCard : Claim7 := { stood := { row := jsonRoundRow, standIns := [], harness := (true, "b293ad864c9ddb70bdafa4d9246f8ee8511db7d8b054b9cf3014185d1ef80944"), looks := true }, kinds := [], alts := [], laidByText := true, laidKinds := [.data, .data, .data, .data, .wider, .data, .pinned], laidTests := true, laidLooks := .later }
def JsonRoundCardSaid : Prop := Claim7.holds Tryz.pinned (.plain (OpenSpec.ofChange jsonRoundSpec)) jsonRoundCard

/-- THE TIED CARD OF 'calamuslaw07.JsonParts'. -/
def jsonPartsCard : Claim7 := { stood := { row := jsonPartsRow, standIns := [], harness := (true, "b293ad864c9ddb70bdafa4d9246f8ee8511db7d8b054b9cf3014185d1ef80944"), looks := true }, kinds := [], alts := [], laidByText := true, laidKinds := [.data, .data, .data, .data, .wider, .data, .pinned], laidTests := true, laidLooks := .later }
def JsonPartsCardSaid : Prop := Claim7.holds Tryz.pinned (.plain (OpenSpec.ofChange jsonPartsSpec)) jsonPartsCard

/-- THE TIED CARD OF 'calamuslaw07.JsonLists'. -/
def jsonListsCard : Claim7 := { stood := { row := jsonListsRow, standIns := [], harness := (true, "b293ad864c9ddb70bdafa4d9246f8ee8511db7d8b054b9cf3014185d1ef80944"), looks := true }, kinds := [], alts := [], laidByText := true, laidKinds := [.data, .data, .data, .data, .wider, .data, .pinned], laidTests := true, laidLooks := .later }
def JsonListsCardSaid : Prop := Claim7.holds Tryz.pinned (.plain (OpenSpec.ofChange jsonListsSpec)) jsonListsCard

/-- THE TIED CARD OF 'calamuslaw07.JsonApart'. -/
def jsonApartCard : Claim7 := { stood := { row := jsonApartRow, standIns := [], harness := (true, "b293ad864c9ddb70bdafa4d9246f8ee8511db7d8b054b9cf3014185d1ef80944"), looks := true }, kinds := [], alts := [], laidByText := true, laidKinds := [.data, .data, .data, .data, .wider, .data, .pinned], laidTests := true, laidLooks := .later }
def JsonApartCardSaid : Prop := Claim7.holds Tryz.pinned (.plain (OpenSpec.ofChange jsonApartSpec)) jsonApartCard

/-- THE SECOND FORM's CARD OF 'calamuslaw07.JsonWrites'. -/
def jsonWritesUptoCard : Claim7 := { stood := { row := jsonWritesUptoRow, standIns := [], harness := (true, "b293ad864c9ddb70bdafa4d9246f8ee8511db7d8b054b9cf3014185d1ef80944"), looks := true }, kinds := [], alts := [], laidByText := true, laidKinds := [.data, .data, .data, .data, .wider, .data, .pinned], laidTests := true, laidLooks := .later }
def JsonWritesUptoCardSaid : Prop := Claim7.holds Tryz.pinned (.plain (OpenSpec.upto jsonWritesSpec)) jsonWritesUptoCard

/-- THE SECOND FORM's CARD OF 'calamuslaw07.JsonRound'. -/
def jsonRoundUptoCard : Claim7 := { stood := { row := jsonRoundUptoRow, standIns := [], harness := (true, "b293ad864c9ddb70bdafa4d9246f8ee8511db7d8b054b9cf3014185d1ef80944"), looks := true }, kinds := [], alts := [], laidByText := true, laidKinds := [.data, .data, .data, .data, .wider, .data, .pinned], laidTests := true, laidLooks := .later }
def JsonRoundUptoCardSaid : Prop := Claim7.holds Tryz.pinned (.plain (OpenSpec.upto jsonRoundSpec)) jsonRoundUptoCard

/-- THE SECOND FORM's CARD OF 'calamuslaw07.JsonParts'. -/
def jsonPartsUptoCard : Claim7 := { stood := { row := jsonPartsUptoRow, standIns := [], harness := (true, "b293ad864c9ddb70bdafa4d9246f8ee8511db7d8b054b9cf3014185d1ef80944"), looks := true }, kinds := [], alts := [], laidByText := true, laidKinds := [.data, .data, .data, .data, .wider, .data, .pinned], laidTests := true, laidLooks := .later }
def JsonPartsUptoCardSaid : Prop := Claim7.holds Tryz.pinned (.plain (OpenSpec.upto jsonPartsSpec)) jsonPartsUptoCard

/-- THE SECOND FORM's CARD OF 'calamuslaw07.JsonLists'. -/
def jsonListsUptoCard : Claim7 := { stood := { row := jsonListsUptoRow, standIns := [], harness := (true, "b293ad864c9ddb70bdafa4d9246f8ee8511db7d8b054b9cf3014185d1ef80944"), looks := true }, kinds := [], alts := [], laidByText := true, laidKinds := [.data, .data, .data, .data, .wider, .data, .pinned], laidTests := true, laidLooks := .later }
def JsonListsUptoCardSaid : Prop := Claim7.holds Tryz.pinned (.plain (OpenSpec.upto jsonListsSpec)) jsonListsUptoCard

/-- THE SECOND FORM's CARD OF 'calamuslaw07.JsonApart'. -/
def jsonApartUptoCard : Claim7 := { stood := { row := jsonApartUptoRow, standIns := [], harness := (true, "b293ad864c9ddb70bdafa4d9246f8ee8511db7d8b054b9cf3014185d1ef80944"), looks := true }, kinds := [], alts := [], laidByText := true, laidKinds := [.data, .data, .data, .data, .wider, .data, .pinned], laidTests := true, laidLooks := .later }
def JsonApartUptoCardSaid : Prop := Claim7.holds Tryz.pinned (.plain (OpenSpec.upto jsonApartSpec)) jsonApartUptoCard
end Rows
end Go.Proofs.YtpimjkdakjhoaaaGreatDoor
