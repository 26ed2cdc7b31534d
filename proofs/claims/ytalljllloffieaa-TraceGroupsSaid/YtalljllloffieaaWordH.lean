/-
  CONTRACTS of both Readers' Word and Text, at whatever stands next: one statement each.
-/
import Derived.Test.YtalljllloffieaaWordG
namespace Go.Proofs.Ytalljllloffieaa
open Go.RowKit

end Go.Proofs.Ytalljllloffieaa
