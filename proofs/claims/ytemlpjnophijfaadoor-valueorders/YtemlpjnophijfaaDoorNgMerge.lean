/- num's (*places).merge: walked. -/
import Derived.Test.YtemlpjnophijfaaDoorNbCount
import Derived.Test.YtemlpjnophijfaaDoorNeArr
import Derived.Test.YtemlpjnophijfaaDoorNmMath
import Derived.WalkKit
import Derived.WalkSpells
import Derived.WalkLawsBesides
import Derived.Deep.RegionWith
import Derived.Outline
namespace Go.Proofs.YtemlpjnophijfaaDoor
open Go.RowKit
set_option linter.unusedSimpArgs false
set_option linter.unusedVariables false
end Go.Proofs.YtemlpjnophijfaaDoor
