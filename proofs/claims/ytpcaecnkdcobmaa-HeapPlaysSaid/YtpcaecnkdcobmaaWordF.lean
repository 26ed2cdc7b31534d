/-
  CONTRACTS of the document's own Reader (tankardref01): Text.
-/
import Derived.Test.YtpcaecnkdcobmaaWordE
import Derived.Deep.RegionHeld3
namespace Go.Proofs.Ytpcaecnkdcobmaa
open Go.RowKit

end Go.Proofs.Ytpcaecnkdcobmaa
