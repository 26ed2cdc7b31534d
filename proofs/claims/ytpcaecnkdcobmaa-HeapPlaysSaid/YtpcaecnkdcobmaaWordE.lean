/-
  CONTRACTS of the document's own Reader (tankardref01): Word, Text.
-/
import Derived.Test.YtpcaecnkdcobmaaWordD
namespace Go.Proofs.Ytpcaecnkdcobmaa
open Go.RowKit

/-- where something is amiss, as the document's Reader tells it -/
def badAt (bad : Bool) (p : Nat) : Int := if bad then (p : Int) else -1

theorem byte_step {w : World} {A : Option Addr} {l : List UInt8} (hr : Rd w A (BV l)) (p k j : Nat) (hj : j < k) (hk : p + k ≤ l.length) :
    ∃ b : Nat, b < 256 ∧ (∃ ad, A = some ad ∧ w.cell? (ad.add (p + j)) = some (.int .u8 (b : Int))) ∧ num (((l.drop p).take k).take (j + 1)) = num (((l.drop p).take k).take j) * 256 + b := by
  have hlen : ((l.drop p).take k).length = k := by simp; omega
  have hj' : j < ((l.drop p).take k).length := by omega
  refine ⟨(((l.drop p).take k)[j]'hj').toNat, UInt8.toNat_lt _, ?_, ?_⟩
  · refine hr (p + j) _ ?_
    rw [BV_getElem?, List.getElem_take, List.getElem_drop, List.getElem?_eq_getElem (by omega)]
    rfl
  · rw [List.take_succ_eq_append_getElem hj', num_snoc]

end Go.Proofs.Ytpcaecnkdcobmaa
