/-
  DERIVED. GIVEN WITH THE SEED: THE CARDS: each row of YtoaacfhjejmbnaaGreatDoorRows.lean that lists a variable, with what it lists TIED to the program's text (the seventh form; the later family's looks); each row that meets fmt, with fmt's text TOLD by the authors' own Lean function (tested against real Go, not proved from fmt's source: count such statements apart). THE CARD IS WHAT COUNTS. Prove the row's statement (the work); the ties are given (YtoaacfhjejmbnaaGreatDoorTie.lean); close each card by the builder's one call (the guide's Derived/Test/ToyasCard.lean, 'card_holds'). Laid BY PROGRAM, IN A SANDBOX (cutbox-door.mjs). By AI agents, Wed Nov 11 2026. No macro, syntax, notation, axiom, sorry.
-/
import Derived.Test.YtoaacfhjejmbnaaGreatDoorRows
import GoSem.ClaimSeven
namespace Go.Proofs.YtoaacfhjejmbnaaGreatDoor
namespace Rows

/-- THE TIED CARD OF 'calamuslaw07.JsonWrites'. -/
def jsonWritesCard : Claim7 := { stood := { row := jsonWritesRow, standIns := [], harness := (true, "1609deecb350b93a792c559cd10ce4643827d0e8dfa3f2dca9c9f0f88fefc960"), looks := true }, kinds := [], alts := [], laidByText := true, laidKinds := [.data, .data, .data, .data, .wider, .data, .pinned], laidTests := true, laidLooks := .later }
def JsonWritesCardSaid : Prop := Claim7.holds Tryz.pinned (.plain (OpenSpec.ofChange jsonWritesSpec)) jsonWritesCard

/-- THE TIED CARD OF 'calamuslaw07.JsonReads'. -/
def jsonReadsCard : Claim7 := { stood := { row := jsonReadsRow, standIns := [], harness := (true, "1609deecb350b93a792c559cd10ce4643827d0e8dfa3f2dca9c9f0f88fefc960"), looks := true }, kinds := [], alts := [], laidByText := true, laidKinds := [.data, .data, .data, .data, .wider, .data, .pinned], laidTests := true, laidLooks := .later }
def JsonReadsCardSaid : Prop := Claim7.holds Tryz.pinned (.plain (OpenSpec.ofChange jsonReadsSpec)) jsonReadsCard

/-- THE TIED CARD OF 'calamuslaw07.JsonFeeds'. -/
def jsonFeedsCard : Claim7 := { stood := { row := jsonFeedsRow, standIns := [], harness := (true, "1609deecb350b93a792c559cd10ce4643827d0e8dfa3f2dca9c9f0f88fefc960"), looks := true }, kinds := [], alts := [], laidByText := true, laidKinds := [.data, .data, .data, .data, .wider, .data, .pinned], laidTests := true, laidLooks := .later }
def JsonFeedsCardSaid : Prop := Claim7.holds Tryz.pinned (.plain (OpenSpec.ofChange jsonFeedsSpec)) jsonFeedsCard

/-- THE TIED CARD OF 'calamuslaw07.JsonRound'. -/
def jsonRoundCard : Claim7 := { stood := { row := jsonRoundRow, standIns := [], harness := (true, "1609deecb350b93a792c559cd10ce4643827d0e8dfa3f2dca9c9f0f88fefc960"), looks := true }, kinds := [], alts := [], laidByText := true, laidKinds := [.data, .data, .data, .data, .wider, .data, .pinned], laidTests := true, laidLooks := .later }
def JsonRoundCardSaid : Prop := Claim7.holds Tryz.pinned (.plain (OpenSpec.ofChange jsonRoundSpec)) jsonRoundCard

/-- THE TIED CARD OF 'calamuslaw07.JsonParts'. -/
def jsonPartsCard : Claim7 := { stood := { row := jsonPartsRow, standIns := [], harness := (true, "1609deecb350b93a792c559cd10ce4643827d0e8dfa3f2dca9c9f0f88fefc960"), looks := true }, kinds := [], alts := [], laidByText := true, laidKinds := [.data, .data, .data, .data, .wider, .data, .pinned], laidTests := true, laidLooks := .later }
def JsonPartsCardSaid : Prop := Claim7.holds Tryz.pinned (.plain (OpenSpec.ofChange jsonPartsSpec)) jsonPartsCard

/-- THE TIED CARD OF 'calamuslaw07.JsonNil'. -/
def jsonNilCard : Claim7 := { stood := { row := jsonNilRow, standIns := [], harness := (true, "1609deecb350b93a792c559cd10ce4643827d0e8dfa3f2dca9c9f0f88fefc960"), looks := true }, kinds := [], alts := [], laidByText := true, laidKinds := [.data, .data, .data, .data, .wider, .data, .pinned], laidTests := true, laidLooks := .later }
def JsonNilCardSaid : Prop := Claim7.holds Tryz.pinned (.plain (OpenSpec.ofChange jsonNilSpec)) jsonNilCard

/-- THE SECOND FORM's CARD OF 'calamuslaw07.JsonWrites'. -/
def jsonWritesUptoCard : Claim7 := { stood := { row := jsonWritesUptoRow, standIns := [], harness := (true, "1609deecb350b93a792c559cd10ce4643827d0e8dfa3f2dca9c9f0f88fefc960"), looks := true }, kinds := [], alts := [], laidByText := true, laidKinds := [.data, .data, .data, .data, .wider, .data, .pinned], laidTests := true, laidLooks := .later }
def JsonWritesUptoCardSaid : Prop := Claim7.holds Tryz.pinned (.plain (OpenSpec.upto jsonWritesSpec)) jsonWritesUptoCard

/-- THE SECOND FORM's CARD OF 'calamuslaw07.JsonReads'. -/
def jsonReadsUptoCard : Claim7 := { stood := { row := jsonReadsUptoRow, standIns := [], harness := (true, "1609deecb350b93a792c559cd10ce4643827d0e8dfa3f2dca9c9f0f88fefc960"), looks := true }, kinds := [], alts := [], laidByText := true, laidKinds := [.data, .data, .data, .data, .wider, .data, .pinned], laidTests := true, laidLooks := .later }
def JsonReadsUptoCardSaid : Prop := Claim7.holds Tryz.pinned (.plain (OpenSpec.upto jsonReadsSpec)) jsonReadsUptoCard

/-- THE SECOND FORM's CARD OF 'calamuslaw07.JsonFeeds'. -/
def jsonFeedsUptoCard : Claim7 := { stood := { row := jsonFeedsUptoRow, standIns := [], harness := (true, "1609deecb350b93a792c559cd10ce4643827d0e8dfa3f2dca9c9f0f88fefc960"), looks := true }, kinds := [], alts := [], laidByText := true, laidKinds := [.data, .data, .data, .data, .wider, .data, .pinned], laidTests := true, laidLooks := .later }
def JsonFeedsUptoCardSaid : Prop := Claim7.holds Tryz.pinned (.plain (OpenSpec.upto jsonFeedsSpec)) jsonFeedsUptoCard

/-- THE SECOND FORM's CARD OF 'calamuslaw07.JsonRound'. -/
def jsonRoundUptoCard : Claim7 := { stood := { row := jsonRoundUptoRow, standIns := [], harness := (true, "1609deecb350b93a792c559cd10ce4643827d0e8dfa3f2dca9c9f0f88fefc960"), looks := true }, kinds := [], alts := [], laidByText := true, laidKinds := [.data, .data, .data, .data, .wider, .data, .pinned], laidTests := true, laidLooks := .later }
def JsonRoundUptoCardSaid : Prop := Claim7.holds Tryz.pinned (.plain (OpenSpec.upto jsonRoundSpec)) jsonRoundUptoCard

/-- THE SECOND FORM's CARD OF 'calamuslaw07.JsonParts'. -/
def jsonPartsUptoCard : Claim7 := { stood := { row := jsonPartsUptoRow, standIns := [], harness := (true, "1609deecb350b93a792c559cd10ce4643827d0e8dfa3f2dca9c9f0f88fefc960"), looks := true }, kinds := [], alts := [], laidByText := true, laidKinds := [.data, .data, .data, .data, .wider, .data, .pinned], laidTests := true, laidLooks := .later }
def JsonPartsUptoCardSaid : Prop := Claim7.holds Tryz.pinned (.plain (OpenSpec.upto jsonPartsSpec)) jsonPartsUptoCard

/-- THE SECOND FORM's CARD OF 'calamuslaw07.JsonNil'. -/
def jsonNilUptoCard : Claim7 := { stood := { row := jsonNilUptoRow, standIns := [], harness := (true, "1609deecb350b93a792c559cd10ce4643827d0e8dfa3f2dca9c9f0f88fefc960"), looks := true }, kinds := [], alts := [], laidByText := true, laidKinds := [.data, .data, .data, .data, .wider, .data, .pinned], laidTests := true, laidLooks := .later }
def JsonNilUptoCardSaid : Prop := Claim7.holds Tryz.pinned (.plain (OpenSpec.upto jsonNilSpec)) jsonNilUptoCard
end Rows
end Go.Proofs.YtoaacfhjejmbnaaGreatDoor
