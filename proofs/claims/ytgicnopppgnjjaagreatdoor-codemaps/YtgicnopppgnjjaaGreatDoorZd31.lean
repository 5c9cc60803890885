/- Merged by program: GoScans. -/
import Derived.Test.YtgicnopppgnjjaaGreatDoorZd23
import Derived.Test.YtgicnopppgnjjaaGreatDoorZd05
import Derived.Test.YtgicnopppgnjjaaGreatDoorZd00
import Derived.Outline
import Derived.Deep.RegionHeld3
import Derived.Test.YtgicnopppgnjjaaGreatDoorUZd08
import Derived.Deep.RegionWith
import Derived.WalkSmall
import Derived.Laws.BytesArg
import Derived.Laws.IdiomStrings
import Derived.Lib.RuneCount
import Derived.Lib.OthersKept
import Derived.Lib.Strings
import Derived.Shelf.Unicode.DecodeAny
import Derived.BigQuiet
import Derived.Test.YtgicnopppgnjjaaGreatDoorZd10
import Derived.Test.YtgicnopppgnjjaaGreatDoorZd22
import Derived.Laws.CopyRow
import Derived.Laws.MakeOwn
import Derived.Laws.CopyOwn
import Derived.WalkMore
set_option linter.unusedSimpArgs false
set_option linter.unusedVariables false
namespace Go.Proofs.YtgicnopppgnjjaaGreatDoor
namespace Lx
open Go.RowKit
theorem scR_cnt (l:List UInt8):(scR l).2.2.length≤1024:=by
 unfold scR
 split
 ·simp
 ·cases h:scnA nok l 0 [] with
  | inl x=>obtain ⟨e,q⟩:=x;simp
  | inr r =>
   obtain ⟨x,hx,h1,_⟩:=scn_len nok _ _ _ _ _ (Nat.le_refl _) h (by simp)
   exact h1
end Lx
end Go.Proofs.YtgicnopppgnjjaaGreatDoor
