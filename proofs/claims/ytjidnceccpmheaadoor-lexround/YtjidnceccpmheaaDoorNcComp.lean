/- num.compareSizes and Cmp: walked. -/
import Derived.Test.YtjidnceccpmheaaDoorNbCount
import Derived.WalkKit
import Derived.WalkSpells
import Derived.WalkLawsBesides
import Derived.Deep.RegionWith
import Derived.Deep.RegionHeld3
namespace Go.Proofs.YtjidnceccpmheaaDoor
open Go.RowKit
set_option linter.unusedSimpArgs false
set_option linter.unusedVariables false
/-- compareSizes. -/
def cmpSz (na : Bool) (a : ByteArray) (xa : Int) (nb : Bool) (b : ByteArray) (xb : Int) : Int :=
  if cmpI (topN na a xa) (topN nb b xb) == 0 then cmpB a b else cmpI (topN na a xa) (topN nb b xb)

end Go.Proofs.YtjidnceccpmheaaDoor
