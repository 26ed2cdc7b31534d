/-
  slices.SortFunc at spans: the library's own contract, laid at this program (in plain words). No condition.
-/
import Derived.Test.YtfaefacefdkjdaaGreatDoorGat
import Derived.Test.YtfaefacefdkjdaaGreatDoorSpanB
namespace Go.Proofs.YtfaefacefdkjdaaGreatDoor

end Go.Proofs.YtfaefacefdkjdaaGreatDoor
