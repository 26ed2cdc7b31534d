/-
  CONTRACTS of errors.As at a target '*api.Spot', where the error is a Spot itself. Condition: the package variable errors.errorType holds the handle of 'error' (Hd).
  CONTRACTS of errors.Is and tankardlaw00.Is, where the error is a Spot of that Code, at that place. Condition: the package variable errors.errorType holds the handle of 'error' (Hd).
-/
import Derived.Test.YtnghpcfdgjkokaaGreatDoorWordA
import Derived.LaidEql
import Derived.Stop.Asserts
import Derived.RowKitTokens
namespace Go.Proofs.YtnghpcfdgjkokaaGreatDoor

end Go.Proofs.YtnghpcfdgjkokaaGreatDoor

namespace Go.Proofs.YtnghpcfdgjkokaaGreatDoor

end Go.Proofs.YtnghpcfdgjkokaaGreatDoor
