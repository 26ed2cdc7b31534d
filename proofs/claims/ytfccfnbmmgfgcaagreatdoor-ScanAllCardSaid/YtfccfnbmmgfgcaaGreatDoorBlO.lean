/-
  THE DOCUMENT's FILTER: the CONTRACT of Filtered. Conditions: what it says.
-/
import Derived.Test.YtfccfnbmmgfgcaaGreatDoorBlJ
namespace Go.Proofs.YtfccfnbmmgfgcaaGreatDoor
open Go.RowKit
set_option maxRecDepth 100000

theorem Bs.cells {w : World} {A : Option Addr} {n c : Nat} {l : List UInt8} (h : Bs w (.slice A n c) l) (hl : l ≠ []) : ∃ g o, A = some ⟨g, o, none⟩ ∧ g < w.heap.size ∧ ∀ j z, l[j]? = some z → w.cell? ⟨g, o + j, none⟩ = some (.int .u8 (z.toNat : Int)) := by
  obtain ⟨A', c', e, h1, h2, hr⟩ := h
  injection e with e1 e2 e3
  subst e1
  obtain ⟨x, m, rfl⟩ := List.exists_cons_of_ne_nil hl
  obtain ⟨ad, rfl, h0⟩ := hr 0 (.int .u8 (x.toNat : Int)) rfl
  have hz : ad.spot = none := by
    have := World.cell?_spot h0
    simpa [Addr.add] using this
  obtain ⟨g, o, sp⟩ := ad
  have hsp : sp = none := hz
  subst hsp
  refine ⟨g, o, rfl, by have := World.block_lt_of_cell? w _ h0; rw [add_block] at this; exact this, fun j z hj => ?_⟩
  have := hr.cells j (.int .u8 (z.toNat : Int)) (by rw [BV_getElem?, hj]; rfl)
  rwa [Addr.add_lit] at this

end Go.Proofs.YtfccfnbmmgfgcaaGreatDoor
