/-
  DERIVED. GIVEN WITH THE SEED: THE CARDS: each row of YtcnfchblfcfimaaGreatDoorRows.lean that lists a variable, with what it lists TIED to the program's text (the seventh form; the later family's looks); each row that meets fmt, with fmt's text TOLD by the authors' own Lean function (tested against real Go, not proved from fmt's source: count such statements apart). THE CARD IS WHAT COUNTS. Prove the row's statement (the work); the ties are given (YtcnfchblfcfimaaGreatDoorTie.lean); close each card by the builder's one call (the guide's Derived/Test/ToyasCard.lean, 'card_holds'). Laid BY PROGRAM, IN A SANDBOX (cutbox-door.mjs). By AI agents, Wed Nov 11 2026. No macro, syntax, notation, axiom, sorry.
-/
import Derived.Test.YtcnfchblfcfimaaGreatDoorRows
import GoSem.ClaimSeven
namespace Go.Proofs.YtcnfchblfcfimaaGreatDoor
namespace Rows

/-- THE TIED CARD OF 'calamuslaw14.LangParses'. -/
def langParsesCard : Claim7 := { stood := { row := langParsesRow, standIns := [], harness := (true, "cb9f788eb2a5cce22afe545ac1aaea64fae84415161253a1922c070c5f0f981d"), looks := true }, kinds := [], alts := [], laidByText := true, laidKinds := [.data, .data, .data, .data, .sentinel, .sentinel, .wider, .data, .data, .data, .data, .data, .data, .pinned], laidTests := true, laidLooks := .later }
def LangParsesCardSaid : Prop := Claim7.holds Tryz.pinned (.plain (OpenSpec.ofChange langParsesSpec)) langParsesCard

/-- THE TIED CARD OF 'calamuslaw14.LangPrints'. -/
def langPrintsCard : Claim7 := { stood := { row := langPrintsRow, standIns := [], harness := (true, "cb9f788eb2a5cce22afe545ac1aaea64fae84415161253a1922c070c5f0f981d"), looks := true }, kinds := [], alts := [], laidByText := true, laidKinds := [.data, .data, .data, .data, .sentinel, .sentinel, .wider, .data, .data, .data, .data, .data, .data, .pinned], laidTests := true, laidLooks := .later }
def LangPrintsCardSaid : Prop := Claim7.holds Tryz.pinned (.plain (OpenSpec.ofChange langPrintsSpec)) langPrintsCard

/-- THE TIED CARD OF 'calamuslaw14.LangTypes'. -/
def langTypesCard : Claim7 := { stood := { row := langTypesRow, standIns := [], harness := (true, "cb9f788eb2a5cce22afe545ac1aaea64fae84415161253a1922c070c5f0f981d"), looks := true }, kinds := [], alts := [], laidByText := true, laidKinds := [.data, .data, .data, .data, .sentinel, .sentinel, .wider, .data, .data, .data, .data, .data, .data, .pinned], laidTests := true, laidLooks := .later }
def LangTypesCardSaid : Prop := Claim7.holds Tryz.pinned (.plain (OpenSpec.ofChange langTypesSpec)) langTypesCard

/-- THE TIED CARD OF 'calamuslaw14.LangRound'. -/
def langRoundCard : Claim7 := { stood := { row := langRoundRow, standIns := [], harness := (true, "cb9f788eb2a5cce22afe545ac1aaea64fae84415161253a1922c070c5f0f981d"), looks := true }, kinds := [], alts := [], laidByText := true, laidKinds := [.data, .data, .data, .data, .sentinel, .sentinel, .wider, .data, .data, .data, .data, .data, .data, .pinned], laidTests := true, laidLooks := .later }
def LangRoundCardSaid : Prop := Claim7.holds Tryz.pinned (.plain (OpenSpec.ofChange langRoundSpec)) langRoundCard

/-- THE TIED CARD OF 'calamuslaw14.LangBraces'. -/
def langBracesCard : Claim7 := { stood := { row := langBracesRow, standIns := [], harness := (true, "cb9f788eb2a5cce22afe545ac1aaea64fae84415161253a1922c070c5f0f981d"), looks := true }, kinds := [], alts := [], laidByText := true, laidKinds := [.data, .data, .data, .data, .sentinel, .sentinel, .wider, .data, .data, .data, .data, .data, .data, .pinned], laidTests := true, laidLooks := .later }
def LangBracesCardSaid : Prop := Claim7.holds Tryz.pinned (.plain (OpenSpec.ofChange langBracesSpec)) langBracesCard

/-- THE TIED CARD OF 'calamuslaw14.LangNames'. -/
def langNamesCard : Claim7 := { stood := { row := langNamesRow, standIns := [], harness := (true, "cb9f788eb2a5cce22afe545ac1aaea64fae84415161253a1922c070c5f0f981d"), looks := true }, kinds := [], alts := [], laidByText := true, laidKinds := [.data, .data, .data, .data, .sentinel, .sentinel, .wider, .data, .data, .data, .data, .data, .data, .pinned], laidTests := true, laidLooks := .later }
def LangNamesCardSaid : Prop := Claim7.holds Tryz.pinned (.plain (OpenSpec.ofChange langNamesSpec)) langNamesCard

/-- THE SECOND FORM's CARD OF 'calamuslaw14.LangParses'. -/
def langParsesUptoCard : Claim7 := { stood := { row := langParsesUptoRow, standIns := [], harness := (true, "cb9f788eb2a5cce22afe545ac1aaea64fae84415161253a1922c070c5f0f981d"), looks := true }, kinds := [], alts := [], laidByText := true, laidKinds := [.data, .data, .data, .data, .sentinel, .sentinel, .wider, .data, .data, .data, .data, .data, .data, .pinned], laidTests := true, laidLooks := .later }
def LangParsesUptoCardSaid : Prop := Claim7.holds Tryz.pinned (.plain (OpenSpec.upto langParsesSpec)) langParsesUptoCard

/-- THE SECOND FORM's CARD OF 'calamuslaw14.LangPrints'. -/
def langPrintsUptoCard : Claim7 := { stood := { row := langPrintsUptoRow, standIns := [], harness := (true, "cb9f788eb2a5cce22afe545ac1aaea64fae84415161253a1922c070c5f0f981d"), looks := true }, kinds := [], alts := [], laidByText := true, laidKinds := [.data, .data, .data, .data, .sentinel, .sentinel, .wider, .data, .data, .data, .data, .data, .data, .pinned], laidTests := true, laidLooks := .later }
def LangPrintsUptoCardSaid : Prop := Claim7.holds Tryz.pinned (.plain (OpenSpec.upto langPrintsSpec)) langPrintsUptoCard

/-- THE SECOND FORM's CARD OF 'calamuslaw14.LangTypes'. -/
def langTypesUptoCard : Claim7 := { stood := { row := langTypesUptoRow, standIns := [], harness := (true, "cb9f788eb2a5cce22afe545ac1aaea64fae84415161253a1922c070c5f0f981d"), looks := true }, kinds := [], alts := [], laidByText := true, laidKinds := [.data, .data, .data, .data, .sentinel, .sentinel, .wider, .data, .data, .data, .data, .data, .data, .pinned], laidTests := true, laidLooks := .later }
def LangTypesUptoCardSaid : Prop := Claim7.holds Tryz.pinned (.plain (OpenSpec.upto langTypesSpec)) langTypesUptoCard

/-- THE SECOND FORM's CARD OF 'calamuslaw14.LangRound'. -/
def langRoundUptoCard : Claim7 := { stood := { row := langRoundUptoRow, standIns := [], harness := (true, "cb9f788eb2a5cce22afe545ac1aaea64fae84415161253a1922c070c5f0f981d"), looks := true }, kinds := [], alts := [], laidByText := true, laidKinds := [.data, .data, .data, .data, .sentinel, .sentinel, .wider, .data, .data, .data, .data, .data, .data, .pinned], laidTests := true, laidLooks := .later }
def LangRoundUptoCardSaid : Prop := Claim7.holds Tryz.pinned (.plain (OpenSpec.upto langRoundSpec)) langRoundUptoCard

/-- THE SECOND FORM's CARD OF 'calamuslaw14.LangBraces'. -/
def langBracesUptoCard : Claim7 := { stood := { row := langBracesUptoRow, standIns := [], harness := (true, "cb9f788eb2a5cce22afe545ac1aaea64fae84415161253a1922c070c5f0f981d"), looks := true }, kinds := [], alts := [], laidByText := true, laidKinds := [.data, .data, .data, .data, .sentinel, .sentinel, .wider, .data, .data, .data, .data, .data, .data, .pinned], laidTests := true, laidLooks := .later }
def LangBracesUptoCardSaid : Prop := Claim7.holds Tryz.pinned (.plain (OpenSpec.upto langBracesSpec)) langBracesUptoCard

/-- THE SECOND FORM's CARD OF 'calamuslaw14.LangNames'. -/
def langNamesUptoCard : Claim7 := { stood := { row := langNamesUptoRow, standIns := [], harness := (true, "cb9f788eb2a5cce22afe545ac1aaea64fae84415161253a1922c070c5f0f981d"), looks := true }, kinds := [], alts := [], laidByText := true, laidKinds := [.data, .data, .data, .data, .sentinel, .sentinel, .wider, .data, .data, .data, .data, .data, .data, .pinned], laidTests := true, laidLooks := .later }
def LangNamesUptoCardSaid : Prop := Claim7.holds Tryz.pinned (.plain (OpenSpec.upto langNamesSpec)) langNamesUptoCard
end Rows
end Go.Proofs.YtcnfchblfcfimaaGreatDoor
