/-
  WHAT IS ASKED OF THE HEAP OF ROWS of numbers ('HeapKrO'). No condition.
-/
import Derived.Test.YtpanpebllapbcaaKwE
namespace Go.Proofs.Ytpanpebllapbcaa
open Go.RowKit
abbrev KrO := Kr On
/-- its cells -/
def krCO (o : KrO) : List Value := [.slice o.A o.n o.c, .int .i64 (o.pl : Int)]
/-- what is asked of the heap -/
abbrev HeapKrO := HeapK (krV : KrO → Value) (.agg #[.slice none 0 0, .int .i64 0]) 27 29 31 47 30
end Go.Proofs.Ytpanpebllapbcaa
