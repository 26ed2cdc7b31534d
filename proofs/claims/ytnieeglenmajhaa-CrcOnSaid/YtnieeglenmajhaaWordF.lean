/-
  CONTRACTS of the document's own Reader (tankardref01): Text.
-/
import Derived.Test.YtnieeglenmajhaaWordE
import Derived.Deep.RegionHeld3
namespace Go.Proofs.Ytnieeglenmajhaa
open Go.RowKit

end Go.Proofs.Ytnieeglenmajhaa
