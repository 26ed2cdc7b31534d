/-
  slices.SortFunc at spans: the library's own contract, laid at this program (in plain words). No condition.
-/
import Derived.Shelf.SlSortCmp.WholeK
import Derived.Shelf.SlSortCmp.NoneTotal
import Derived.Test.YtcpbikogccdknaaGat
import Derived.Test.YtcpbikogccdknaaSpanC
namespace Go.Proofs.Ytcpbikogccdknaa
open Go.Shelf

end Go.Proofs.Ytcpbikogccdknaa
