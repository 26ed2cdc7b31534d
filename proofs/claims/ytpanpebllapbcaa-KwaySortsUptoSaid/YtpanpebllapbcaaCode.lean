/-
  CONTRACT of tankardlaw00.Code: an error's number. Conditions: what each says.
-/
import Derived.Test.YtpanpebllapbcaaWordA
namespace Go.Proofs.Ytpanpebllapbcaa
open Go.RowKit

theorem Bstr_take (s : List UInt8) (n : Nat) : (Bstr s).extract 0 n = Bstr (s.take n) := by
  apply ByteArray.ext
  simp [Bstr]

end Go.Proofs.Ytpanpebllapbcaa
