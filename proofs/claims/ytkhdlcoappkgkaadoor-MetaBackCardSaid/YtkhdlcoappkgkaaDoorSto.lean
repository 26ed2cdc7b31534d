/-
  ONE BYTE OF A SLICE OF THE CALL's OWN IS STORED; sealed bytes of which one is another one. No condition but what each theorem says.
-/
import Derived.Test.YtkhdlcoappkgkaaDoorCrcE
namespace Go.Proofs.YtkhdlcoappkgkaaDoor
open Go.RowKit

theorem BV_set (l : List UInt8) (i : Nat) (b : UInt8) : (BV l).set i (.int .u8 (b.toNat : Int)) = BV (l.set i b) := by simp [BV, List.map_set]

/-- one byte of a slice of the call's own is stored -/
theorem Own.stored {w : World} {base : Nat} {e : TypeId} {l : List UInt8} {g n cap : Nat} (hn : n = l.length) (h : Own w base e (.slice (some ⟨g, 0, none⟩) n cap) l) (i : Nat) (b : UInt8) (u : Value) (hu : u = .int .u8 (b.toNat : Int)) :
    Own (w.setCell ⟨g, i, none⟩ u) base e (.slice (some ⟨g, 0, none⟩) n cap) (l.set i b) ∧ w.grownBy (w.setCell ⟨g, i, none⟩ u) (some g) := by
  subst hn
  subst hu
  have h2 := World.ownsRow.stored h i (.int .u8 (b.toNat : Int))
  rw [BV_set] at h2
  refine ⟨?_, h2.2⟩
  unfold Own
  rw [List.length_set]
  exact h2.1

theorem tells_pure (l : List UInt8) (i : Nat) (x : UInt8) (h : i < l.length + 4) (hx : x ≠ 0) :
    ∃ (y : UInt8) (m : List UInt8), (sealedOf l)[i]? = some y ∧ m = (sealedOf l).set i (y ^^^ x) ∧ m.length = l.length + 4 ∧ tailOf m ≠ crcOf (bodyOf m) := by
  have hs := sealedOf_length l
  have hi : i < (sealedOf l).length := by omega
  exact ⟨(sealedOf l)[i], _, List.getElem?_eq_getElem hi, rfl, by simp [hs], altered l i x hi hx⟩

end Go.Proofs.YtkhdlcoappkgkaaDoor
