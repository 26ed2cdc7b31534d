/-
  CONTRACTS of both Readers' Word and Text, at whatever stands next: one statement each.
-/
import Derived.Test.YtpanpebllapbcaaWordA
namespace Go.Proofs.Ytpanpebllapbcaa
open Go.RowKit

end Go.Proofs.Ytpanpebllapbcaa
