/- calamuslaw11.TypesOrders: walked, given Join. -/
import Derived.Test.YtolmbjeinilhlaaDoorZtIiOrders
import Derived.Test.YtolmbjeinilhlaaDoorZtIiJoined
import Derived.Test.YtolmbjeinilhlaaDoorZtXkVal
namespace Go.Proofs.YtolmbjeinilhlaaDoor
open Go.RowKit Go.Maps
theorem torders_j (hJ : JoinOk) (n : Nat) (x : TT n) (y : TT n) (n0 l0 n1 l1 : Value) (w : World) (hr0 : RT n w x n0 l0) (hz0 : TSz n x) (hr1 : RT n w y n1 l1) (hz1 : TSz n y) (gu : Ut.Gu w) (gt : Gt w) :
    Calls Tryd.prog 4 #[.agg (tvs (thd n x) n0 l0), .agg (tvs (thd n y) n1 l1)] w fun e w' => e = .returned (.bool true) ∧ Below w.heap.size w w' :=
  torders_law hJ rval (joinedOk rval) n x y n0 l0 n1 l1 w hr0 hz0 hr1 hz1 gu gt
end Go.Proofs.YtolmbjeinilhlaaDoor
