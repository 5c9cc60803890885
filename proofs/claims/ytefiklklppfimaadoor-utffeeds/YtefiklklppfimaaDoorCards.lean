/-
  DERIVED. GIVEN WITH THE SEED: THE CARDS: each row of YtefiklklppfimaaDoorRows.lean that lists a variable, with what it lists TIED to the program's text (the seventh form; the later family's looks); each row that meets fmt, with fmt's text TOLD by the authors' own Lean function (tested against real Go, not proved from fmt's source: count such statements apart). THE CARD IS WHAT COUNTS. Prove the row's statement (the work); the ties are given (YtefiklklppfimaaDoorTie.lean); close each card by the builder's one call (the guide's Derived/Test/ToyasCard.lean, 'card_holds'). Laid BY PROGRAM, IN A SANDBOX (cutbox-door.mjs). By AI agents, Wed Nov 11 2026. No macro, syntax, notation, axiom, sorry.
-/
import Derived.Test.YtefiklklppfimaaDoorRows
import GoSem.ClaimSeven
namespace Go.Proofs.YtefiklklppfimaaDoor
namespace Rows

/-- THE TIED CARD OF 'calamuslaw03.UtfTexts'. -/
def utfTextsCard : Claim7 := { stood := { row := utfTextsRow, standIns := [], harness := (true, "97ec27b97af943e0a2459f58c17874ce62684ca308da6451fe3b2e94b776da7f"), looks := false }, kinds := [], alts := [], laidByText := true, laidKinds := [.data, .wider, .data, .pinned], laidTests := true, laidLooks := .later }
def UtfTextsCardSaid : Prop := Claim7.holds Tryd.pinned (.plain (OpenSpec.ofChange utfTextsSpec)) utfTextsCard

/-- THE TIED CARD OF 'calamuslaw03.UtfChars'. -/
def utfCharsCard : Claim7 := { stood := { row := utfCharsRow, standIns := [], harness := (true, "97ec27b97af943e0a2459f58c17874ce62684ca308da6451fe3b2e94b776da7f"), looks := false }, kinds := [], alts := [], laidByText := true, laidKinds := [.data, .wider, .data, .pinned], laidTests := true, laidLooks := .later }
def UtfCharsCardSaid : Prop := Claim7.holds Tryd.pinned (.plain (OpenSpec.ofChange utfCharsSpec)) utfCharsCard

/-- THE TIED CARD OF 'calamuslaw03.UtfFeeds'. -/
def utfFeedsCard : Claim7 := { stood := { row := utfFeedsRow, standIns := [], harness := (true, "97ec27b97af943e0a2459f58c17874ce62684ca308da6451fe3b2e94b776da7f"), looks := false }, kinds := [], alts := [], laidByText := true, laidKinds := [.data, .wider, .data, .pinned], laidTests := true, laidLooks := .later }
def UtfFeedsCardSaid : Prop := Claim7.holds Tryd.pinned (.plain (OpenSpec.ofChange utfFeedsSpec)) utfFeedsCard

/-- THE TIED CARD OF 'calamuslaw03.UtfParts'. -/
def utfPartsCard : Claim7 := { stood := { row := utfPartsRow, standIns := [], harness := (true, "97ec27b97af943e0a2459f58c17874ce62684ca308da6451fe3b2e94b776da7f"), looks := false }, kinds := [], alts := [], laidByText := true, laidKinds := [.data, .wider, .data, .pinned], laidTests := true, laidLooks := .later }
def UtfPartsCardSaid : Prop := Claim7.holds Tryd.pinned (.plain (OpenSpec.ofChange utfPartsSpec)) utfPartsCard

/-- THE TIED CARD OF 'calamuslaw03.UtfRound'. -/
def utfRoundCard : Claim7 := { stood := { row := utfRoundRow, standIns := [], harness := (true, "97ec27b97af943e0a2459f58c17874ce62684ca308da6451fe3b2e94b776da7f"), looks := false }, kinds := [], alts := [], laidByText := true, laidKinds := [.data, .wider, .data, .pinned], laidTests := true, laidLooks := .later }
def UtfRoundCardSaid : Prop := Claim7.holds Tryd.pinned (.plain (OpenSpec.ofChange utfRoundSpec)) utfRoundCard

/-- THE TIED CARD OF 'calamuslaw03.UtfNil'. -/
def utfNilCard : Claim7 := { stood := { row := utfNilRow, standIns := [], harness := (true, "97ec27b97af943e0a2459f58c17874ce62684ca308da6451fe3b2e94b776da7f"), looks := false }, kinds := [], alts := [], laidByText := true, laidKinds := [.data, .wider, .data, .pinned], laidTests := true, laidLooks := .later }
def UtfNilCardSaid : Prop := Claim7.holds Tryd.pinned (.plain (OpenSpec.ofChange utfNilSpec)) utfNilCard

/-- THE SECOND FORM's CARD OF 'calamuslaw03.UtfTexts'. -/
def utfTextsUptoCard : Claim7 := { stood := { row := utfTextsUptoRow, standIns := [], harness := (true, "97ec27b97af943e0a2459f58c17874ce62684ca308da6451fe3b2e94b776da7f"), looks := false }, kinds := [], alts := [], laidByText := true, laidKinds := [.data, .wider, .data, .pinned], laidTests := true, laidLooks := .later }
def UtfTextsUptoCardSaid : Prop := Claim7.holds Tryd.pinned (.plain (OpenSpec.upto utfTextsSpec)) utfTextsUptoCard

/-- THE SECOND FORM's CARD OF 'calamuslaw03.UtfChars'. -/
def utfCharsUptoCard : Claim7 := { stood := { row := utfCharsUptoRow, standIns := [], harness := (true, "97ec27b97af943e0a2459f58c17874ce62684ca308da6451fe3b2e94b776da7f"), looks := false }, kinds := [], alts := [], laidByText := true, laidKinds := [.data, .wider, .data, .pinned], laidTests := true, laidLooks := .later }
def UtfCharsUptoCardSaid : Prop := Claim7.holds Tryd.pinned (.plain (OpenSpec.upto utfCharsSpec)) utfCharsUptoCard

/-- THE SECOND FORM's CARD OF 'calamuslaw03.UtfFeeds'. -/
def utfFeedsUptoCard : Claim7 := { stood := { row := utfFeedsUptoRow, standIns := [], harness := (true, "97ec27b97af943e0a2459f58c17874ce62684ca308da6451fe3b2e94b776da7f"), looks := false }, kinds := [], alts := [], laidByText := true, laidKinds := [.data, .wider, .data, .pinned], laidTests := true, laidLooks := .later }
def UtfFeedsUptoCardSaid : Prop := Claim7.holds Tryd.pinned (.plain (OpenSpec.upto utfFeedsSpec)) utfFeedsUptoCard

/-- THE SECOND FORM's CARD OF 'calamuslaw03.UtfParts'. -/
def utfPartsUptoCard : Claim7 := { stood := { row := utfPartsUptoRow, standIns := [], harness := (true, "97ec27b97af943e0a2459f58c17874ce62684ca308da6451fe3b2e94b776da7f"), looks := false }, kinds := [], alts := [], laidByText := true, laidKinds := [.data, .wider, .data, .pinned], laidTests := true, laidLooks := .later }
def UtfPartsUptoCardSaid : Prop := Claim7.holds Tryd.pinned (.plain (OpenSpec.upto utfPartsSpec)) utfPartsUptoCard

/-- THE SECOND FORM's CARD OF 'calamuslaw03.UtfRound'. -/
def utfRoundUptoCard : Claim7 := { stood := { row := utfRoundUptoRow, standIns := [], harness := (true, "97ec27b97af943e0a2459f58c17874ce62684ca308da6451fe3b2e94b776da7f"), looks := false }, kinds := [], alts := [], laidByText := true, laidKinds := [.data, .wider, .data, .pinned], laidTests := true, laidLooks := .later }
def UtfRoundUptoCardSaid : Prop := Claim7.holds Tryd.pinned (.plain (OpenSpec.upto utfRoundSpec)) utfRoundUptoCard

/-- THE SECOND FORM's CARD OF 'calamuslaw03.UtfNil'. -/
def utfNilUptoCard : Claim7 := { stood := { row := utfNilUptoRow, standIns := [], harness := (true, "97ec27b97af943e0a2459f58c17874ce62684ca308da6451fe3b2e94b776da7f"), looks := false }, kinds := [], alts := [], laidByText := true, laidKinds := [.data, .wider, .data, .pinned], laidTests := true, laidLooks := .later }
def UtfNilUptoCardSaid : Prop := Claim7.holds Tryd.pinned (.plain (OpenSpec.upto utfNilSpec)) utfNilUptoCard
end Rows
end Go.Proofs.YtefiklklppfimaaDoor
