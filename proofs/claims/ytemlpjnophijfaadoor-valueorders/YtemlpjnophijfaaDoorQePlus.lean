/- calamusref01's plus and minus: walked. -/
import Derived.Test.YtemlpjnophijfaaDoorQcLess
import Derived.Test.YtemlpjnophijfaaDoorQdMath
namespace Go.Proofs.YtemlpjnophijfaaDoor
open Go.RowKit
set_option linter.unusedSimpArgs false
set_option linter.unusedVariables false
end Go.Proofs.YtemlpjnophijfaaDoor
