/-
  THE LIBRARY's OWN CONTRACTS, laid at this program: slices.Sort at strings (in plain words). Conditions: what each says.
-/
import Derived.Test.YtfaefacefdkjdaaGreatDoorCln
import Derived.Test.YtfaefacefdkjdaaGreatDoorStA
namespace Go.Proofs.YtfaefacefdkjdaaGreatDoor
set_option maxRecDepth 100000

end Go.Proofs.YtfaefacefdkjdaaGreatDoor
