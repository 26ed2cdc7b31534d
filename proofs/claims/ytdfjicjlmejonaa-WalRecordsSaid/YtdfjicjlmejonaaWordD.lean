/-
  CONTRACTS of the document's own answers (tankardref01): Wide, Fits, Bytes, Text.
-/
import Derived.Test.YtdfjicjlmejonaaWordC
namespace Go.Proofs.Ytdfjicjlmejonaa
open Go.RowKit

theorem Wide_any (n : Int) (w : World) : Calls Try.prog 54 #[.int .i64 n] w fun e w' => e = .returned (.bool (isW n)) ∧ w = w' := by
  by_cases h1 : n = 1
  · subst h1
    go_enter Try.func54, Try.ntmps54
    go_wp2
    go_ret
    exact ⟨rfl, rfl⟩
  by_cases h2 : n = 2
  · subst h2
    go_enter Try.func54, Try.ntmps54
    go_wp2
    go_ret
    exact ⟨rfl, rfl⟩
  by_cases h4 : n = 4
  · subst h4
    go_enter Try.func54, Try.ntmps54
    go_wp2
    go_ret
    exact ⟨rfl, rfl⟩
  by_cases h8 : n = 8
  · subst h8
    go_enter Try.func54, Try.ntmps54
    go_wp2
    go_ret
    exact ⟨rfl, rfl⟩
  have e : isW n = false := by simp [isW, h1, h2, h4, h8]
  have b1 : (n == 1) = false := by simpa using h1
  have b2 : (n == 2) = false := by simpa using h2
  have b4 : (n == 4) = false := by simpa using h4
  have b8 : (n == 8) = false := by simpa using h8
  rw [e]
  clear e h1 h2 h4 h8
  go_enter Try.func54, Try.ntmps54
  go_wp2
  go_ret
  exact ⟨rfl, rfl⟩

theorem div_pow_step (n k : Nat) : n / 256 ^ k / 256 = n / 256 ^ (k + 1) := by rw [Nat.pow_succ, Nat.div_div_eq_div_mul]

theorem bet_snoc (n k : Nat) : bet n (k + 1) = bet (n / 256) k ++ [UInt8.ofNat n] := by
  induction k with
  | zero => simp [bet]
  | succ k ih =>
    rw [bet, ih]
    simp only [bet, List.cons_append]
    rw [Nat.div_div_eq_div_mul, Nat.pow_succ, Nat.mul_comm]

theorem Bytes_nat (k : Nat) : ∀ (n : Int) (w : World), k ≤ 8 → 0 ≤ n → n < 18446744073709551616 →
    Calls Try.prog 55 #[.int .i64 k, .int .u64 n] w fun e w' => ∃ v, e = .returned v ∧ Own w' w.heap.size 5 v (bet n.toNat k) ∧ Below w.heap.size w w' := by
  induction k with
  | zero =>
    intro n w _ _ _
    go_enter Try.func55, Try.ntmps55
    go_wp2_with fail
    go_ret
    exact ⟨_, rfl, Own.nil _ _ _, Below.refl _ _⟩
  | succ k ih =>
    intro n w hk h0 hn
    have IH := Lib.hid ih
    clear ih
    have hz : (((k + 1 : Nat) : Int) == 0) = false := beq_eq_false_iff_ne.2 (by omega)
    go_enter Try.func55, Try.ntmps55
    go_wp2_with fail
    refine (IH.out _ _ (by omega) (by omega) (by omega)).mono ?_
    rintro e w1 ⟨v1, rfl, hown1, hb1⟩
    have hs1 := hb1.size
    go_wp2_with (at_builtin; refine wpList_append_bytes _ byteT rfl _ _ rfl w.heap.size _ _ rfl (hown1.alloc _) _ _ _ [UInt8.ofNat n.toNat] rfl rfl (Rd.one _ _ _ ?c1) ?c2 ?c3 ?_)
    case c1 =>
      obtain ⟨n, rfl⟩ := nat_of h0
      simp
    case c2 => simp [bet_length]; omega
    case c3 => simp; omega
    intro v2 w2 hown2 hg2 _
    go_wp2
    go_ret
    refine ⟨_, rfl, ?_, (hb1.alloc (by omega) _).grown hg2 (by simp; omega) hown1.ge⟩
    have hq : (n / 256).toNat = n.toNat / 256 := by omega
    rw [bet_snoc, ← hq]
    exact hown2

theorem Bytes_any (k n : Int) (w : World) (h0 : 0 ≤ k) (h8 : k ≤ 8) (hn : 0 ≤ n) (hn' : n < 18446744073709551616) :
    Calls Try.prog 55 #[.int .i64 k, .int .u64 n] w fun e w' => ∃ v, e = .returned v ∧ Own w' w.heap.size 5 v (bet n.toNat k.toNat) ∧ Below w.heap.size w w' := by
  obtain ⟨k, rfl⟩ := nat_of h0
  exact Bytes_nat k n w (by omega) hn hn'

theorem Text_any (s : List UInt8) (v : Value) (w : World) (hs : s.length ≤ 65535) (hv : Bs w v s) :
    Calls Try.prog 47 #[v] w fun e w' => ∃ v', e = .returned v' ∧ Own w' w.heap.size 5 v' (bet s.length 2 ++ s) ∧ Below w.heap.size w w' := by
  obtain ⟨A, c, rfl, hc1, hc2, hr⟩ := hv
  go_enter Try.func47, Try.ntmps47
  go_wp2_with fail
  refine (Bytes_any _ _ _ (by omega) (by omega) (by omega) (by omega)).mono ?_
  rintro e w1 ⟨v1, rfl, hown1, hb1⟩
  go_wp2_with (at_builtin; refine wpList_append_bytes _ byteT rfl _ _ rfl w.heap.size _ _ rfl hown1 _ _ _ s rfl rfl (hr.below hb1) ?c2 ?c3 ?_)
  case c2 => simp [bet_length]; omega
  case c3 => exact hb1.size
  intro v2 w2 hown2 hg2 _
  go_wp2
  go_ret
  exact ⟨_, rfl, hown2, hb1.grown hg2 hb1.size hown1.ge⟩

end Go.Proofs.Ytdfjicjlmejonaa
