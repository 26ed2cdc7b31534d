/-
  CONTRACTS of span.Put and of the document's Bytes of spans.
  WHAT BYTES ARE READ AS, as spans (plain functions); CONTRACTS of span.place, span.amiss, span.next.
  CONTRACT of span.Get.
  PLAIN FACTS on spans' bytes: what was put is read as it was; what is read is put as those bytes.
  CONTRACTS of the document's own Read (of spans' bytes) and Spans (are spans the same?).
-/
import Derived.Test.YtgafidnbmoomiaaGreatDoorSpanB
import Derived.Test.YtgafidnbmoomiaaGreatDoorWordA
import Derived.LaidEql
import Derived.Stop.Asserts
import Derived.RowKitTokens
import Derived.Test.YtgafidnbmoomiaaGreatDoorMix
namespace Go.Proofs.YtgafidnbmoomiaaGreatDoor
open Go.RowKit

def encS (l : List Sn) : List UInt8 := bet l.length 2 ++ l.flatMap encOne

theorem enc_length (l : List Sn) (h : l.all mayB = true) : (l.flatMap encOne).length ≤ 98 * l.length := by
  induction l with
  | nil => simp
  | cons s l ih =>
    simp only [List.all_cons, Bool.and_eq_true] at h
    have h1 := ih h.2
    have h2 := may_bounds h.1
    have h3 := encOne_length s
    rw [List.flatMap_cons, List.length_append, List.length_cons]
    omega

structure Grow (w0 W : World) (base gb : Nat) (t : TypeId) (cs : Array Value) (V : Value) (L : List UInt8) : Prop where
  own : Own W base 5 V L
  blk : Blk W gb t cs
  bel : Below base w0 W
  le : base ≤ W.heap.size
  sep : V.ownBlock ≠ some gb

section
variable {w0 W W' : World} {base gb : Nat} {t : TypeId} {cs : Array Value} {V V' : Value} {L L' : List UInt8}
theorem Grow.next (h : Grow w0 W base gb t cs V L) (hb : Below W.heap.size W W') : Grow w0 W' base gb t cs V L :=
  ⟨h.own.below hb, h.blk.below hb h.blk.lt, h.bel.trans (hb.mono h.le), Nat.le_trans h.le hb.size, h.sep⟩

end




end Go.Proofs.YtgafidnbmoomiaaGreatDoor
