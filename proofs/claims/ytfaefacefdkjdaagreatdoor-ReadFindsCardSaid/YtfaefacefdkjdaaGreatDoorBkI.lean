/-
  CONTRACT of the document's Make where a block may be made: its objects and its meta. Conditions: at most 200 traces, 10000000 spans.
-/
import Derived.Test.YtfaefacefdkjdaaGreatDoorBkF
namespace Go.Proofs.YtfaefacefdkjdaaGreatDoor
set_option maxRecDepth 100000

end Go.Proofs.YtfaefacefdkjdaaGreatDoor
