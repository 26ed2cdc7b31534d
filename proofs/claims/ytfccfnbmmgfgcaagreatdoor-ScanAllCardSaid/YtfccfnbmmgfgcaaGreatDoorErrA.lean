/-
  CONTRACTS of errors.As at a target '*api.Spot', where the error is a Spot itself. Condition: the package variable errors.errorType holds the handle of 'error' (Hd).
  CONTRACTS of errors.Is and tankardlaw00.Is, where the error is a Spot of that Code, at that place. Condition: the package variable errors.errorType holds the handle of 'error' (Hd).
-/
import Derived.Test.YtfccfnbmmgfgcaaGreatDoorWordA
import Derived.LaidEql
import Derived.Stop.Asserts
import Derived.RowKitTokens
namespace Go.Proofs.YtfccfnbmmgfgcaaGreatDoor
open Go.RowKit Go.Extern.Stop Go.Stop Go.Extern

structure Sp (w : World) (v : Value) (at_ c : Int) : Prop where
  is : ∃ g, v = .iface 241 (.pointer (some ⟨g, 0, none⟩)) ∧ Blk w g 243 #[.int .i64 at_, .int .i64 c]
theorem Sp.below {w w' : World} {v : Value} {at_ c : Int} (h : Sp w v at_ c) (hb : Below w.heap.size w w') : Sp w' v at_ c := by
  obtain ⟨g, rfl, hB⟩ := h.is
  exact ⟨g, rfl, hB.below hb hB.lt⟩

end Go.Proofs.YtfccfnbmmgfgcaaGreatDoor
