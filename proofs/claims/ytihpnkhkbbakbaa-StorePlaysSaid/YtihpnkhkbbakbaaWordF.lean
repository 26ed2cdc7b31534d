/-
  CONTRACTS of the document's own Reader (tankardref01): Text.
-/
import Derived.Test.YtihpnkhkbbakbaaWordE
import Derived.Deep.RegionHeld3
namespace Go.Proofs.Ytihpnkhkbbakbaa
open Go.RowKit

end Go.Proofs.Ytihpnkhkbbakbaa
