/-
  CONTRACTS of the document's own answers (tankardref01): Wide, Fits, Bytes, Text.
-/
import Derived.Test.YtnieeglenmajhaaWordC
namespace Go.Proofs.Ytnieeglenmajhaa
open Go.RowKit

theorem div_pow_step (n k : Nat) : n / 256 ^ k / 256 = n / 256 ^ (k + 1) := by rw [Nat.pow_succ, Nat.div_div_eq_div_mul]

theorem bet_snoc (n k : Nat) : bet n (k + 1) = bet (n / 256) k ++ [UInt8.ofNat n] := by
  induction k with
  | zero => simp [bet]
  | succ k ih =>
    rw [bet, ih]
    simp only [bet, List.cons_append]
    rw [Nat.div_div_eq_div_mul, Nat.pow_succ, Nat.mul_comm]

theorem Bytes_nat (k : Nat) : ∀ (n : Int) (w : World), k ≤ 8 → 0 ≤ n → n < 18446744073709551616 →
    Calls Try.prog 17 #[.int .i64 k, .int .u64 n] w fun e w' => ∃ v, e = .returned v ∧ Own w' w.heap.size 5 v (bet n.toNat k) ∧ Below w.heap.size w w' := by
  induction k with
  | zero =>
    intro n w _ _ _
    go_enter Try.func17, Try.ntmps17
    go_wp2_with fail
    go_ret
    exact ⟨_, rfl, Own.nil _ _ _, Below.refl _ _⟩
  | succ k ih =>
    intro n w hk h0 hn
    have IH := Lib.hid ih
    clear ih
    have hz : (((k + 1 : Nat) : Int) == 0) = false := beq_eq_false_iff_ne.2 (by omega)
    go_enter Try.func17, Try.ntmps17
    go_wp2_with fail
    refine (IH.out _ _ (by omega) (by omega) (by omega)).mono ?_
    rintro e w1 ⟨v1, rfl, hown1, hb1⟩
    have hs1 := hb1.size
    go_wp2_with (at_builtin; refine wpList_append_bytes _ byteT rfl _ _ rfl w.heap.size _ _ rfl (hown1.alloc _) _ _ _ [UInt8.ofNat n.toNat] rfl rfl (Rd.one _ _ _ ?c1) ?c2 ?c3 ?_)
    case c1 =>
      obtain ⟨n, rfl⟩ := nat_of h0
      simp
    case c2 => simp [bet_length]; omega
    case c3 => simp; omega
    intro v2 w2 hown2 hg2 _
    go_wp2
    go_ret
    refine ⟨_, rfl, ?_, (hb1.alloc (by omega) _).grown hg2 (by simp; omega) hown1.ge⟩
    have hq : (n / 256).toNat = n.toNat / 256 := by omega
    rw [bet_snoc, ← hq]
    exact hown2

theorem Bytes_any (k n : Int) (w : World) (h0 : 0 ≤ k) (h8 : k ≤ 8) (hn : 0 ≤ n) (hn' : n < 18446744073709551616) :
    Calls Try.prog 17 #[.int .i64 k, .int .u64 n] w fun e w' => ∃ v, e = .returned v ∧ Own w' w.heap.size 5 v (bet n.toNat k.toNat) ∧ Below w.heap.size w w' := by
  obtain ⟨k, rfl⟩ := nat_of h0
  exact Bytes_nat k n w (by omega) hn hn'

end Go.Proofs.Ytnieeglenmajhaa
