/-
  CONTRACTS of the document's own Reader (tankardref01): Text.
-/
import Derived.Test.YtanabbeohaengaaWordE
import Derived.Deep.RegionHeld3
namespace Go.Proofs.Ytanabbeohaengaa
open Go.RowKit

end Go.Proofs.Ytanabbeohaengaa
