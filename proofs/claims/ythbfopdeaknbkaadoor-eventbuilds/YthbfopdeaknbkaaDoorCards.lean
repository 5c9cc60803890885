/-
  DERIVED. GIVEN WITH THE SEED: THE CARDS: each row of YthbfopdeaknbkaaDoorRows.lean that lists a variable, with what it lists TIED to the program's text (the seventh form; the later family's looks); each row that meets fmt, with fmt's text TOLD by the authors' own Lean function (tested against real Go, not proved from fmt's source: count such statements apart). THE CARD IS WHAT COUNTS. Prove the row's statement (the work); the ties are given (YthbfopdeaknbkaaDoorTie.lean); close each card by the builder's one call (the guide's Derived/Test/ToyasCard.lean, 'card_holds'). Laid BY PROGRAM, IN A SANDBOX (cutbox-door.mjs). By AI agents, Wed Nov 11 2026. No macro, syntax, notation, axiom, sorry.
-/
import Derived.Test.YthbfopdeaknbkaaDoorRows
import GoSem.ClaimSeven
namespace Go.Proofs.YthbfopdeaknbkaaDoor
namespace Rows

/-- THE TIED CARD OF 'calamuslaw05.EventFlattens'. -/
def eventFlattensCard : Claim7 := { stood := { row := eventFlattensRow, standIns := [], harness := (true, "449ec201489a994e478d9c903de7a47cc5590272af4922b78629aee4fbad1f2a"), looks := false }, kinds := [], alts := [], laidByText := true, laidKinds := [.wider, .data], laidTests := true, laidLooks := .later }
def EventFlattensCardSaid : Prop := Claim7.holds Tryd.pinned (.plain (OpenSpec.ofChange eventFlattensSpec)) eventFlattensCard

/-- THE TIED CARD OF 'calamuslaw05.EventBuilds'. -/
def eventBuildsCard : Claim7 := { stood := { row := eventBuildsRow, standIns := [], harness := (true, "449ec201489a994e478d9c903de7a47cc5590272af4922b78629aee4fbad1f2a"), looks := false }, kinds := [], alts := [], laidByText := true, laidKinds := [.wider, .data], laidTests := true, laidLooks := .later }
def EventBuildsCardSaid : Prop := Claim7.holds Tryd.pinned (.plain (OpenSpec.ofChange eventBuildsSpec)) eventBuildsCard

/-- THE TIED CARD OF 'calamuslaw05.EventChecks'. -/
def eventChecksCard : Claim7 := { stood := { row := eventChecksRow, standIns := [], harness := (true, "449ec201489a994e478d9c903de7a47cc5590272af4922b78629aee4fbad1f2a"), looks := false }, kinds := [], alts := [], laidByText := true, laidKinds := [.wider, .data], laidTests := true, laidLooks := .later }
def EventChecksCardSaid : Prop := Claim7.holds Tryd.pinned (.plain (OpenSpec.ofChange eventChecksSpec)) eventChecksCard

/-- THE TIED CARD OF 'calamuslaw05.EventRound'. -/
def eventRoundCard : Claim7 := { stood := { row := eventRoundRow, standIns := [], harness := (true, "449ec201489a994e478d9c903de7a47cc5590272af4922b78629aee4fbad1f2a"), looks := false }, kinds := [], alts := [], laidByText := true, laidKinds := [.wider, .data], laidTests := true, laidLooks := .later }
def EventRoundCardSaid : Prop := Claim7.holds Tryd.pinned (.plain (OpenSpec.ofChange eventRoundSpec)) eventRoundCard

/-- THE TIED CARD OF 'calamuslaw05.EventNil'. -/
def eventNilCard : Claim7 := { stood := { row := eventNilRow, standIns := [], harness := (true, "449ec201489a994e478d9c903de7a47cc5590272af4922b78629aee4fbad1f2a"), looks := false }, kinds := [], alts := [], laidByText := true, laidKinds := [.wider, .data], laidTests := true, laidLooks := .later }
def EventNilCardSaid : Prop := Claim7.holds Tryd.pinned (.plain (OpenSpec.ofChange eventNilSpec)) eventNilCard

/-- THE TIED CARD OF 'calamuslaw05.EventLists'. -/
def eventListsCard : Claim7 := { stood := { row := eventListsRow, standIns := [], harness := (true, "449ec201489a994e478d9c903de7a47cc5590272af4922b78629aee4fbad1f2a"), looks := false }, kinds := [], alts := [], laidByText := true, laidKinds := [.wider, .data], laidTests := true, laidLooks := .later }
def EventListsCardSaid : Prop := Claim7.holds Tryd.pinned (.plain (OpenSpec.ofChange eventListsSpec)) eventListsCard

/-- THE SECOND FORM's CARD OF 'calamuslaw05.EventFlattens'. -/
def eventFlattensUptoCard : Claim7 := { stood := { row := eventFlattensUptoRow, standIns := [], harness := (true, "449ec201489a994e478d9c903de7a47cc5590272af4922b78629aee4fbad1f2a"), looks := false }, kinds := [], alts := [], laidByText := true, laidKinds := [.wider, .data], laidTests := true, laidLooks := .later }
def EventFlattensUptoCardSaid : Prop := Claim7.holds Tryd.pinned (.plain (OpenSpec.upto eventFlattensSpec)) eventFlattensUptoCard

/-- THE SECOND FORM's CARD OF 'calamuslaw05.EventBuilds'. -/
def eventBuildsUptoCard : Claim7 := { stood := { row := eventBuildsUptoRow, standIns := [], harness := (true, "449ec201489a994e478d9c903de7a47cc5590272af4922b78629aee4fbad1f2a"), looks := false }, kinds := [], alts := [], laidByText := true, laidKinds := [.wider, .data], laidTests := true, laidLooks := .later }
def EventBuildsUptoCardSaid : Prop := Claim7.holds Tryd.pinned (.plain (OpenSpec.upto eventBuildsSpec)) eventBuildsUptoCard

/-- THE SECOND FORM's CARD OF 'calamuslaw05.EventChecks'. -/
def eventChecksUptoCard : Claim7 := { stood := { row := eventChecksUptoRow, standIns := [], harness := (true, "449ec201489a994e478d9c903de7a47cc5590272af4922b78629aee4fbad1f2a"), looks := false }, kinds := [], alts := [], laidByText := true, laidKinds := [.wider, .data], laidTests := true, laidLooks := .later }
def EventChecksUptoCardSaid : Prop := Claim7.holds Tryd.pinned (.plain (OpenSpec.upto eventChecksSpec)) eventChecksUptoCard

/-- THE SECOND FORM's CARD OF 'calamuslaw05.EventRound'. -/
def eventRoundUptoCard : Claim7 := { stood := { row := eventRoundUptoRow, standIns := [], harness := (true, "449ec201489a994e478d9c903de7a47cc5590272af4922b78629aee4fbad1f2a"), looks := false }, kinds := [], alts := [], laidByText := true, laidKinds := [.wider, .data], laidTests := true, laidLooks := .later }
def EventRoundUptoCardSaid : Prop := Claim7.holds Tryd.pinned (.plain (OpenSpec.upto eventRoundSpec)) eventRoundUptoCard

/-- THE SECOND FORM's CARD OF 'calamuslaw05.EventNil'. -/
def eventNilUptoCard : Claim7 := { stood := { row := eventNilUptoRow, standIns := [], harness := (true, "449ec201489a994e478d9c903de7a47cc5590272af4922b78629aee4fbad1f2a"), looks := false }, kinds := [], alts := [], laidByText := true, laidKinds := [.wider, .data], laidTests := true, laidLooks := .later }
def EventNilUptoCardSaid : Prop := Claim7.holds Tryd.pinned (.plain (OpenSpec.upto eventNilSpec)) eventNilUptoCard

/-- THE SECOND FORM's CARD OF 'calamuslaw05.EventLists'. -/
def eventListsUptoCard : Claim7 := { stood := { row := eventListsUptoRow, standIns := [], harness := (true, "449ec201489a994e478d9c903de7a47cc5590272af4922b78629aee4fbad1f2a"), looks := false }, kinds := [], alts := [], laidByText := true, laidKinds := [.wider, .data], laidTests := true, laidLooks := .later }
def EventListsUptoCardSaid : Prop := Claim7.holds Tryd.pinned (.plain (OpenSpec.upto eventListsSpec)) eventListsUptoCard
end Rows
end Go.Proofs.YthbfopdeaknbkaaDoor
