/-
  slices.SortFunc at spans: the library's own contract, laid at this program (in plain words). No condition.
-/
import Derived.Test.YtnghpcfdgjkokaaGreatDoorGat
import Derived.Test.YtnghpcfdgjkokaaGreatDoorSpanB
namespace Go.Proofs.YtnghpcfdgjkokaaGreatDoor

end Go.Proofs.YtnghpcfdgjkokaaGreatDoor
