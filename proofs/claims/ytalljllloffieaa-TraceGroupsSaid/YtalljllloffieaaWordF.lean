/-
  CONTRACTS of the document's own Reader (tankardref01): Text.
-/
import Derived.Test.YtalljllloffieaaWordE
import Derived.Deep.RegionHeld3
namespace Go.Proofs.Ytalljllloffieaa
open Go.RowKit

end Go.Proofs.Ytalljllloffieaa
