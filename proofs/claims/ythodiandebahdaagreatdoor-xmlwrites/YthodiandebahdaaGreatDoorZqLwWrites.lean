/-
  calamuslaw10.XmlWrites answers true for any struct, and leaves it as it was: a value has just its document, or is refused as the reference refuses it.
  What it leans on: the listed package variables (utf's two, and those of Go's library) start as the program's text lays them (the card ties them; what is pinned is held against the form's constant), and what is handed in fits into memory (the form's own reach); nothing else is asked.
-/
import Derived.Test.YthodiandebahdaaGreatDoorZq50
import Derived.Test.YthodiandebahdaaGreatDoorZq22
namespace Go.Proofs.YthodiandebahdaaGreatDoor
open Go.RowKit
theorem xmlWrites_card : Rows.XmlWritesCardSaid := xmlWrites_card0 fun n x ns ls w hr E hE => rcheck_any rval n x ns ls w hr E hE
end Go.Proofs.YthodiandebahdaaGreatDoor
