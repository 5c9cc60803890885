/- calamusref01's plus and minus: walked. -/
import Derived.Test.YtjpdlibncmldlabDoorQcLess
import Derived.Test.YtjpdlibncmldlabDoorQdMath
namespace Go.Proofs.YtjpdlibncmldlabDoor
open Go.RowKit
set_option linter.unusedSimpArgs false
set_option linter.unusedVariables false
end Go.Proofs.YtjpdlibncmldlabDoor
