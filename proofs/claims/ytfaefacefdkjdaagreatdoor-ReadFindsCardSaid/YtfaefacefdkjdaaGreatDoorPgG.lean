/-
  CONTRACT of the document's own Paged. Conditions: what it says.
-/
import Derived.Test.YtfaefacefdkjdaaGreatDoorPgA
namespace Go.Proofs.YtfaefacefdkjdaaGreatDoor
set_option maxRecDepth 100000

end Go.Proofs.YtfaefacefdkjdaaGreatDoor
