/-
  SPANS: what a span is, as a value; CONTRACTS of span.May, span.Compare, span.Same and of what they call, and of the document's May, Ahead, Same.
-/
import Derived.Test.YtgafidnbmoomiaaGreatDoorMore
import Derived.StillTailTactics
namespace Go.Proofs.YtgafidnbmoomiaaGreatDoor
open Go.RowKit

structure Sn where
  tr : Int
  id : Int
  st : Int
  en : Int
  data : List UInt8

structure Sn.ok (s : Sn) : Prop where
  tr0 : 0 ≤ s.tr
  tr1 : s.tr ≤ 18446744073709551615
  id0 : 0 ≤ s.id
  id1 : s.id ≤ 18446744073709551615
  st0 : -9223372036854775808 ≤ s.st
  st1 : s.st ≤ 9223372036854775807
  en0 : -9223372036854775808 ≤ s.en
  en1 : s.en ≤ 9223372036854775807

def spCells (s : Sn) (d : Value) : List Value := [.int .u64 s.tr, .int .u64 s.id, .int .i64 s.st, .int .i64 s.en, d]

def SpC (w : World) (s : Sn) (x : List Value) : Prop := s.ok ∧ ∃ d, x = spCells s d ∧ Bs w d s.data

def SV (w : World) (v : Value) (s : Sn) : Prop := s.ok ∧ ∃ d, v = .agg #[.int .u64 s.tr, .int .u64 s.id, .int .i64 s.st, .int .i64 s.en, d] ∧ Bs w d s.data

section
variable {w w' : World} {v : Value} {s : Sn} {x : List Value}
theorem SpC.below (h : SpC w s x) (hb : Below w.heap.size w w') : SpC w' s x := by
  obtain ⟨ho, d, hx, hd⟩ := h
  exact ⟨ho, d, hx, hd.below hb⟩

theorem SV.below (h : SV w v s) (hb : Below w.heap.size w w') : SV w' v s := by
  obtain ⟨ho, d, hx, hd⟩ := h
  exact ⟨ho, d, hx, hd.below hb⟩

theorem SV.alloc (h : SV w v s) (o : Obj) : SV (w.alloc o) v s := by
  obtain ⟨ho, d, hx, hd⟩ := h
  exact ⟨ho, d, hx, hd.alloc o⟩

theorem SV.drewN (h : SV w v s) (n : Nat) : SV (w.drewN n) v s := h

theorem SV.drew (h : SV w v s) : SV w.drew v s := h

end

def mayB (s : Sn) : Bool := decide (0 ≤ s.st) && (decide (s.st ≤ s.en) && (decide (s.en ≤ 1099511627776) && decide (s.data.length ≤ 64)))

def cmpI (a b : Int) : Int := if a < b then -1 else if b < a then 1 else 0

def orI (a b c : Int) : Int := if a ≠ 0 then a else if b ≠ 0 then b else c

end Go.Proofs.YtgafidnbmoomiaaGreatDoor
