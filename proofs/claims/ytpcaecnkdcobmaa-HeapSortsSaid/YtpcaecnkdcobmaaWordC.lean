/-
  CONTRACTS of package word: Read, and the methods of Reader.
-/
import Derived.Test.YtpcaecnkdcobmaaWordB
import Derived.IntWalk
import Derived.StillTailTactics
namespace Go.Proofs.Ytpcaecnkdcobmaa
open Go.RowKit

/-- how many bytes the text that stands next has -/
def tsize (l : List UInt8) (p : Nat) : Nat := num ((l.drop p).take 2)
theorem tsize_lt (l : List UInt8) (p : Nat) : tsize l p < 65536 := by
  have h := num_lt ((l.drop p).take 2)
  have h3 : 256 ^ ((l.drop p).take 2).length ≤ 256 ^ 2 := Nat.pow_le_pow_right (by omega) (by simp; omega)
  unfold tsize
  omega

/-- is a text of at most that many bytes there? -/
def textOk (l : List UInt8) (p : Nat) (bad : Bool) (most : Int) : Bool := !bad && decide (2 ≤ (l.length : Int) - p) && decide ((tsize l p : Int) ≤ (l.length : Int) - p - 2) && decide ((tsize l p : Int) ≤ most)

theorem take_fill (l : List UInt8) (n : Nat) (h : n ≤ l.length) : l.take (List.replicate n (0 : UInt8)).length ++ (List.replicate n (0 : UInt8)).drop l.length = l.take n := by
  have hd : (List.replicate n (0 : UInt8)).drop l.length = [] := List.drop_eq_nil_of_le (by simpa using h)
  rw [hd, List.length_replicate, List.append_nil]

end Go.Proofs.Ytpcaecnkdcobmaa
