/-
  CONTRACTS of errors.As at a target '*api.Spot', where the error is a Spot itself. Condition: the package variable errors.errorType holds the handle of 'error' (Hd).
-/
import Derived.Test.YtcpbikogccdknaaWordG
import Derived.LaidEql
import Derived.Stop.Asserts
import Derived.RowKitTokens
namespace Go.Proofs.Ytcpbikogccdknaa
open Go.RowKit Go.Extern.Stop Go.Stop Go.Extern

end Go.Proofs.Ytcpbikogccdknaa
