/- num's (*places).merge: walked. -/
import Derived.Test.YtjidnceccpmheaaDoorNbCount
import Derived.Test.YtjidnceccpmheaaDoorNeArr
import Derived.Test.YtjidnceccpmheaaDoorNmMath
import Derived.WalkKit
import Derived.WalkSpells
import Derived.WalkLawsBesides
import Derived.Deep.RegionWith
import Derived.Outline
namespace Go.Proofs.YtjidnceccpmheaaDoor
open Go.RowKit
set_option linter.unusedSimpArgs false
set_option linter.unusedVariables false
end Go.Proofs.YtjidnceccpmheaaDoor
