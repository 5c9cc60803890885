/- calamusref01's less: walked. -/
import Derived.Test.YtjpdlibncmldlabDoorQbZeros
namespace Go.Proofs.YtjpdlibncmldlabDoor
open Go.RowKit
set_option linter.unusedSimpArgs false
set_option linter.unusedVariables false
end Go.Proofs.YtjpdlibncmldlabDoor
