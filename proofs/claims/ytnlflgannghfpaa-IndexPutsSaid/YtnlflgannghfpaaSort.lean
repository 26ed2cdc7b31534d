/-
  slices.SortFunc at spans: the library's own contract, laid at this program (in plain words). No condition.
-/
import Derived.Shelf.SlSortCmp.WholeK
import Derived.Shelf.SlSortCmp.NoneTotal
import Derived.Test.YtnlflgannghfpaaGat
import Derived.Test.YtnlflgannghfpaaSpanB
namespace Go.Proofs.Ytnlflgannghfpaa
open Go.Shelf

end Go.Proofs.Ytnlflgannghfpaa
