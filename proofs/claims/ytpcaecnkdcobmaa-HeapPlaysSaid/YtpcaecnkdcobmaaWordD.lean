/-
  CONTRACTS of the document's own answers (tankardref01): Wide, Fits, Bytes, Text.
-/
import Derived.Test.YtpcaecnkdcobmaaWordC
namespace Go.Proofs.Ytpcaecnkdcobmaa
open Go.RowKit

theorem div_pow_step (n k : Nat) : n / 256 ^ k / 256 = n / 256 ^ (k + 1) := by rw [Nat.pow_succ, Nat.div_div_eq_div_mul]

theorem bet_snoc (n k : Nat) : bet n (k + 1) = bet (n / 256) k ++ [UInt8.ofNat n] := by
  induction k with
  | zero => simp [bet]
  | succ k ih =>
    rw [bet, ih]
    simp only [bet, List.cons_append]
    rw [Nat.div_div_eq_div_mul, Nat.pow_succ, Nat.mul_comm]

end Go.Proofs.Ytpcaecnkdcobmaa
