/-
  CONTRACTS of the document's Sizes and Make (a block's objects and its meta). Conditions: at most 200 traces, 10000000 spans.
  CONTRACT of the document's Make: the walk of its first loop (a filter beside a meta). Conditions: at most 200 traces, 10000000 spans.
  CONTRACT of the document's Make: a block's objects and its meta. Conditions: at most 200 traces, 10000000 spans.
-/
import Derived.Test.YtgafidnbmoomiaaGreatDoorBkB
namespace Go.Proofs.YtgafidnbmoomiaaGreatDoor
open Go.RowKit
set_option maxRecDepth 100000

section
variable {w u : World} {base : Nat} {v : Value} {l : List Sn} {bad : Nat → Prop}
end

section
variable {w3 u u' : World} {F0 F : Nat → Prop} {gf gm : Nat} {b b' : Bl} {m : Me}
end

def DMakeP (w w' : World) (id : Nat) (lv : Int) (l : List Tn) (s : Sz) (e : Ending) : Prop :=
  (¬ BkOk id lv l s ∧ e = .returned (.tuple #[.slice none 0 0, meV Me.zero, .int .i64 1])) ∨ (BkOk id lv l s ∧ ∃ x, e = .returned (.tuple #[x, meV (bkMe id lv l s), .int .i64 0]) ∧ OwnL 2 w' w.heap.size 99 x ((bkObs id lv l s).map obC))

end Go.Proofs.YtgafidnbmoomiaaGreatDoor
