/-
  SLICES OF SLICES OF TRACES ('TsV' in 'Sls'). No condition but what each theorem says.
-/
import Derived.Test.YtfaefacefdkjdaaGreatDoorUs
import Derived.Test.YtfaefacefdkjdaaGreatDoorTrF
namespace Go.Proofs.YtfaefacefdkjdaaGreatDoor
open Go.RowKit
set_option maxRecDepth 100000

def TsV (w : World) (r : List Tn) (d : Value) : Prop := Ts w d r
theorem sls_ts_below {w w' : World} {v : Value} {rows : List (List Tn)} (h : Sls TsV w v rows) (hb : Below w.heap.size w w') : Sls TsV w' v rows := h.below (fun {_ _} (h1 : Ts _ _ _) => h1.below hb) hb

end Go.Proofs.YtfaefacefdkjdaaGreatDoor
