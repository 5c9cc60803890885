/-
  DERIVED. GIVEN WITH THE SEED: THE CARDS: each row of YtgicnopppgnjjaaGreatDoorRows.lean that lists a variable, with what it lists TIED to the program's text (the seventh form; the later family's looks); each row that meets fmt, with fmt's text TOLD by the authors' own Lean function (tested against real Go, not proved from fmt's source: count such statements apart). THE CARD IS WHAT COUNTS. Prove the row's statement (the work); the ties are given (YtgicnopppgnjjaaGreatDoorTie.lean); close each card by the builder's one call (the guide's Derived/Test/ToyasCard.lean, 'card_holds'). Laid BY PROGRAM, IN A SANDBOX (cutbox-door.mjs). By AI agents, Wed Nov 11 2026. No macro, syntax, notation, axiom, sorry.
-/
import Derived.Test.YtgicnopppgnjjaaGreatDoorRows
import GoSem.ClaimSeven
namespace Go.Proofs.YtgicnopppgnjjaaGreatDoor
namespace Rows

/-- THE TIED CARD OF 'calamuslaw14.LangParses'. -/
def langParsesCard : Claim7 := { stood := { row := langParsesRow, standIns := [], harness := (true, "7970039b71b20500590dfbf39222327b86584ff0cd58f9d83015fe92626e630a"), looks := true }, kinds := [], alts := [], laidByText := true, laidKinds := [.data, .data, .data, .data, .sentinel, .sentinel, .wider, .data, .data, .data, .data, .data, .data, .pinned], laidTests := true, laidLooks := .later }
def LangParsesCardSaid : Prop := Claim7.holds Tryz.pinned (.plain (OpenSpec.ofChange langParsesSpec)) langParsesCard

/-- THE TIED CARD OF 'calamuslaw14.LangTypes'. -/
def langTypesCard : Claim7 := { stood := { row := langTypesRow, standIns := [], harness := (true, "7970039b71b20500590dfbf39222327b86584ff0cd58f9d83015fe92626e630a"), looks := true }, kinds := [], alts := [], laidByText := true, laidKinds := [.data, .data, .data, .data, .sentinel, .sentinel, .wider, .data, .data, .data, .data, .data, .data, .pinned], laidTests := true, laidLooks := .later }
def LangTypesCardSaid : Prop := Claim7.holds Tryz.pinned (.plain (OpenSpec.ofChange langTypesSpec)) langTypesCard

/-- THE TIED CARD OF 'calamuslaw18.CodeCompiles'. -/
def codeCompilesCard : Claim7 := { stood := { row := codeCompilesRow, standIns := [], harness := (true, "7970039b71b20500590dfbf39222327b86584ff0cd58f9d83015fe92626e630a"), looks := true }, kinds := [], alts := [], laidByText := true, laidKinds := [.data, .data, .data, .data, .sentinel, .sentinel, .wider, .data, .data, .data, .data, .pinned], laidTests := true, laidLooks := .later }
def CodeCompilesCardSaid : Prop := Claim7.holds Tryz.pinned (.plain (OpenSpec.ofChange codeCompilesSpec)) codeCompilesCard

/-- THE TIED CARD OF 'calamuslaw18.CodeBack'. -/
def codeBackCard : Claim7 := { stood := { row := codeBackRow, standIns := [], harness := (true, "7970039b71b20500590dfbf39222327b86584ff0cd58f9d83015fe92626e630a"), looks := true }, kinds := [], alts := [], laidByText := true, laidKinds := [.data, .data, .data, .data, .sentinel, .sentinel, .wider, .data, .data, .data, .data, .pinned], laidTests := true, laidLooks := .later }
def CodeBackCardSaid : Prop := Claim7.holds Tryz.pinned (.plain (OpenSpec.ofChange codeBackSpec)) codeBackCard

/-- THE TIED CARD OF 'calamuslaw18.CodeRound'. -/
def codeRoundCard : Claim7 := { stood := { row := codeRoundRow, standIns := [], harness := (true, "7970039b71b20500590dfbf39222327b86584ff0cd58f9d83015fe92626e630a"), looks := true }, kinds := [], alts := [], laidByText := true, laidKinds := [.data, .data, .data, .data, .sentinel, .sentinel, .wider, .data, .data, .data, .data, .pinned], laidTests := true, laidLooks := .later }
def CodeRoundCardSaid : Prop := Claim7.holds Tryz.pinned (.plain (OpenSpec.ofChange codeRoundSpec)) codeRoundCard

/-- THE TIED CARD OF 'calamuslaw18.CodeMaps'. -/
def codeMapsCard : Claim7 := { stood := { row := codeMapsRow, standIns := [], harness := (true, "7970039b71b20500590dfbf39222327b86584ff0cd58f9d83015fe92626e630a"), looks := true }, kinds := [], alts := [], laidByText := true, laidKinds := [.data, .data, .data, .data, .sentinel, .sentinel, .wider, .data, .data, .data, .data, .pinned], laidTests := true, laidLooks := .later }
def CodeMapsCardSaid : Prop := Claim7.holds Tryz.pinned (.plain (OpenSpec.ofChange codeMapsSpec)) codeMapsCard

/-- THE SECOND FORM's CARD OF 'calamuslaw14.LangParses'. -/
def langParsesUptoCard : Claim7 := { stood := { row := langParsesUptoRow, standIns := [], harness := (true, "7970039b71b20500590dfbf39222327b86584ff0cd58f9d83015fe92626e630a"), looks := true }, kinds := [], alts := [], laidByText := true, laidKinds := [.data, .data, .data, .data, .sentinel, .sentinel, .wider, .data, .data, .data, .data, .data, .data, .pinned], laidTests := true, laidLooks := .later }
def LangParsesUptoCardSaid : Prop := Claim7.holds Tryz.pinned (.plain (OpenSpec.upto langParsesSpec)) langParsesUptoCard

/-- THE SECOND FORM's CARD OF 'calamuslaw14.LangTypes'. -/
def langTypesUptoCard : Claim7 := { stood := { row := langTypesUptoRow, standIns := [], harness := (true, "7970039b71b20500590dfbf39222327b86584ff0cd58f9d83015fe92626e630a"), looks := true }, kinds := [], alts := [], laidByText := true, laidKinds := [.data, .data, .data, .data, .sentinel, .sentinel, .wider, .data, .data, .data, .data, .data, .data, .pinned], laidTests := true, laidLooks := .later }
def LangTypesUptoCardSaid : Prop := Claim7.holds Tryz.pinned (.plain (OpenSpec.upto langTypesSpec)) langTypesUptoCard

/-- THE SECOND FORM's CARD OF 'calamuslaw18.CodeCompiles'. -/
def codeCompilesUptoCard : Claim7 := { stood := { row := codeCompilesUptoRow, standIns := [], harness := (true, "7970039b71b20500590dfbf39222327b86584ff0cd58f9d83015fe92626e630a"), looks := true }, kinds := [], alts := [], laidByText := true, laidKinds := [.data, .data, .data, .data, .sentinel, .sentinel, .wider, .data, .data, .data, .data, .pinned], laidTests := true, laidLooks := .later }
def CodeCompilesUptoCardSaid : Prop := Claim7.holds Tryz.pinned (.plain (OpenSpec.upto codeCompilesSpec)) codeCompilesUptoCard

/-- THE SECOND FORM's CARD OF 'calamuslaw18.CodeBack'. -/
def codeBackUptoCard : Claim7 := { stood := { row := codeBackUptoRow, standIns := [], harness := (true, "7970039b71b20500590dfbf39222327b86584ff0cd58f9d83015fe92626e630a"), looks := true }, kinds := [], alts := [], laidByText := true, laidKinds := [.data, .data, .data, .data, .sentinel, .sentinel, .wider, .data, .data, .data, .data, .pinned], laidTests := true, laidLooks := .later }
def CodeBackUptoCardSaid : Prop := Claim7.holds Tryz.pinned (.plain (OpenSpec.upto codeBackSpec)) codeBackUptoCard

/-- THE SECOND FORM's CARD OF 'calamuslaw18.CodeRound'. -/
def codeRoundUptoCard : Claim7 := { stood := { row := codeRoundUptoRow, standIns := [], harness := (true, "7970039b71b20500590dfbf39222327b86584ff0cd58f9d83015fe92626e630a"), looks := true }, kinds := [], alts := [], laidByText := true, laidKinds := [.data, .data, .data, .data, .sentinel, .sentinel, .wider, .data, .data, .data, .data, .pinned], laidTests := true, laidLooks := .later }
def CodeRoundUptoCardSaid : Prop := Claim7.holds Tryz.pinned (.plain (OpenSpec.upto codeRoundSpec)) codeRoundUptoCard

/-- THE SECOND FORM's CARD OF 'calamuslaw18.CodeMaps'. -/
def codeMapsUptoCard : Claim7 := { stood := { row := codeMapsUptoRow, standIns := [], harness := (true, "7970039b71b20500590dfbf39222327b86584ff0cd58f9d83015fe92626e630a"), looks := true }, kinds := [], alts := [], laidByText := true, laidKinds := [.data, .data, .data, .data, .sentinel, .sentinel, .wider, .data, .data, .data, .data, .pinned], laidTests := true, laidLooks := .later }
def CodeMapsUptoCardSaid : Prop := Claim7.holds Tryz.pinned (.plain (OpenSpec.upto codeMapsSpec)) codeMapsUptoCard
end Rows
end Go.Proofs.YtgicnopppgnjjaaGreatDoor
