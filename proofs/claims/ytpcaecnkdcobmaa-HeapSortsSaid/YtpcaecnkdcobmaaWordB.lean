/-
  CONTRACTS of package word: Put, Text.
-/
import Derived.Test.YtpcaecnkdcobmaaWordA
namespace Go.Proofs.Ytpcaecnkdcobmaa
open Go.RowKit

/-- does Put take the number in that width? -/
def putOk (k n : Int) : Bool := isW k && decide (n.toNat < 256 ^ k.toNat)

theorem isW_cases {k : Int} (h : isW k = true) : k = 1 ∨ k = 2 ∨ k = 4 ∨ k = 8 := by simpa [isW, or_assoc] using h

end Go.Proofs.Ytpcaecnkdcobmaa
