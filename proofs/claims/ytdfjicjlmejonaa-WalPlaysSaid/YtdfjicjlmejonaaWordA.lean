/-
  CONTRACTS of the small functions of package word: isWidth, fits, number, copyWithRoom, appendNumber.
-/
import Derived.Test.YtdfjicjlmejonaaMem
import Derived.Test.YtdfjicjlmejonaaRows
import Derived.Outline
import Derived.Lib.Hide
import Derived.Deep.QuietTactic
import Derived.BigQuiet
import Derived.Laws.BitsAllLaws
namespace Go.Proofs.Ytdfjicjlmejonaa
open Go.RowKit

def isW (n : Int) : Bool := n == 1 || n == 2 || n == 4 || n == 8

theorem isWidth_any (n : Int) (w : World) : Calls Try.prog 50 #[.int .i64 n] w fun e w' => e = .returned (.bool (isW n)) ∧ w = w' := by
  by_cases h1 : n = 1
  · subst h1
    go_enter Try.func50, Try.ntmps50
    go_wp2
    go_ret
    exact ⟨rfl, rfl⟩
  by_cases h2 : n = 2
  · subst h2
    go_enter Try.func50, Try.ntmps50
    go_wp2
    go_ret
    exact ⟨rfl, rfl⟩
  by_cases h4 : n = 4
  · subst h4
    go_enter Try.func50, Try.ntmps50
    go_wp2
    go_ret
    exact ⟨rfl, rfl⟩
  by_cases h8 : n = 8
  · subst h8
    go_enter Try.func50, Try.ntmps50
    go_wp2
    go_ret
    exact ⟨rfl, rfl⟩
  have e : isW n = false := by simp [isW, h1, h2, h4, h8]
  have b1 : (n == 1) = false := by simpa using h1
  have b2 : (n == 2) = false := by simpa using h2
  have b4 : (n == 4) = false := by simpa using h4
  have b8 : (n == 8) = false := by simpa using h8
  rw [e]
  clear e h1 h2 h4 h8
  go_enter Try.func50, Try.ntmps50
  go_wp2
  go_ret
  exact ⟨rfl, rfl⟩

/-- whole numbers that are none below 0 -/
theorem nat_of {n : Int} (h : 0 ≤ n) : ∃ k : Nat, n = (k : Int) := Int.eq_ofNat_of_zero_le h

theorem ret_bool {a b : Bool} (h : a = b) : Ending.returned (.bool a) = .returned (.bool b) := by rw [h]
theorem ret_int {k : IntKind} {a b : Int} (h : a = b) : Ending.returned (.int k a) = .returned (.int k b) := by rw [h]
theorem div_small (n m : Nat) (hm : 0 < m) : ((n : Int) / (m : Int) == 0) = decide (n < m) := by
  rw [Bool.eq_iff_iff, beq_iff_eq, decide_eq_true_iff]
  constructor
  · intro h
    have h' : n / m = 0 := by exact_mod_cast h
    exact (Nat.div_eq_zero_iff.1 h').resolve_left (by omega)
  · intro h
    have h' : n / m = 0 := Nat.div_eq_of_lt h
    exact_mod_cast h'

theorem fits_any (n : Int) (k : Int) (w : World) (hk : isW k = true) (h0 : 0 ≤ n) :
    Calls Try.prog 61 #[.int .u64 n, .int .i64 k] w fun e w' => e = .returned (.bool (decide (n.toNat < 256 ^ k.toNat))) ∧ w = w' := by
  obtain ⟨n, rfl⟩ := nat_of h0
  rw [Int.toNat_natCast]
  have hk' : k = 1 ∨ k = 2 ∨ k = 4 ∨ k = 8 := by simpa [isW, or_assoc] using hk
  clear hk
  rcases hk' with rfl | rfl | rfl | rfl
  all_goals
    go_enter Try.func61, Try.ntmps61
    go_wp2
    go_ret
    refine ⟨ret_bool ?_, rfl⟩
  · exact div_small n 256 (by omega)
  · exact div_small n 65536 (by omega)
  · exact div_small n 4294967296 (by omega)
  · exact div_small n 18446744073709551616 (by omega)

/-- a number's bytes, the highest first; those of its last k places -/
def bet (n : Nat) : Nat → List UInt8
  | 0 => []
  | k + 1 => UInt8.ofNat (n / 256 ^ k) :: bet n k
/-- the number that bytes are -/
def num (l : List UInt8) : Nat := l.foldl (fun a b => a * 256 + b.toNat) 0

theorem num_snoc (l : List UInt8) (b : UInt8) : num (l ++ [b]) = num l * 256 + b.toNat := by simp [num]
theorem num_from (l : List UInt8) : ∀ a : Nat, l.foldl (fun a b => a * 256 + b.toNat) a < (a + 1) * 256 ^ l.length := by
  induction l with
  | nil => intro a; simp
  | cons b l ih =>
    intro a
    have hb := b.toNat_lt
    have h1 := ih (a * 256 + b.toNat)
    rw [List.foldl_cons, List.length_cons, Nat.pow_succ]
    refine Nat.lt_of_lt_of_le h1 ?_
    rw [Nat.mul_comm (256 ^ l.length) 256, ← Nat.mul_assoc]
    exact Nat.mul_le_mul_right _ (by omega)
theorem num_lt (l : List UInt8) : num l < 256 ^ l.length := by
  have := num_from l 0
  simpa [num] using this
theorem num_take_lt (l : List UInt8) (k : Nat) (hk : k < l.length) (hl : l.length ≤ 8) : num (l.take k) < 72057594037927936 := by
  have h := num_lt (l.take k)
  have h2 : (l.take k).length ≤ 7 := by simp; omega
  have h3 : 256 ^ (l.take k).length ≤ 256 ^ 7 := Nat.pow_le_pow_right (by omega) h2
  have h4 : (256 : Nat) ^ 7 = 72057594037927936 := by decide
  omega
theorem num_lt8 (l : List UInt8) (hl : l.length ≤ 8) : num l < 18446744073709551616 := by
  have h := num_lt l
  have h3 : 256 ^ l.length ≤ 256 ^ 8 := Nat.pow_le_pow_right (by omega) hl
  have h4 : (256 : Nat) ^ 8 = 18446744073709551616 := by decide
  omega
theorem or_step (a b : Nat) (ha : a < 72057594037927936) (hb : b < 256) : bits .or .u64 ((a : Int) * 256) (b : Int) = ((a * 256 + b : Nat) : Int) := by
  have hw : (a : Int) * 256 = ((a * 256 : Nat) : Int) := by omega
  rw [hw, u64_or_nat _ _ (by omega) (by omega)]
  have := Nat.two_pow_add_eq_or_of_lt (i := 8) (b := b) (by omega) a
  rw [show a * 256 = 2 ^ 8 * a by omega, ← this]

set_option maxHeartbeats 400000 in
theorem number_any (l : List UInt8) (v : Value) (w : World) (hl : l.length ≤ 8) (hv : Bs w v l) :
    Calls Try.prog 52 #[v] w fun e w' => e = .returned (.int .u64 (num l)) ∧ w = w' := by
  obtain ⟨A, c, rfl, hc1, hc2, hr⟩ := hv
  go_enter Try.func52, Try.ntmps52
  go_wp2
  go_loop [3, 8] (fun n i => ∃ k : Nat, k ≤ l.length ∧ i = .int .i64 k ∧ n = .int .u64 (num (l.take k))) (fun _ i => l.length - (intOf i).toNat)
  case atStart => exact ⟨0, Nat.zero_le _, rfl, rfl⟩
  case round =>
    obtain ⟨k, hk, rfl, rfl⟩ := hrel
    by_cases hlt : k < l.length
    · obtain ⟨ad, rfl, hc⟩ := hr k (.int .u8 (l[k].toNat : Int)) (by simp [BV_getElem?, hlt])
      have hb : l[k].toNat < 256 := l[k].toNat_lt
      have ht := num_take_lt l k hlt hl
      have hs : num (l.take (k + 1)) = num (l.take k) * 256 + l[k].toNat := by rw [List.take_succ_eq_append_getElem hlt, num_snoc]
      have HS := Lib.hid hs
      clear hs
      go_wp2
      refine ⟨⟨k + 1, by omega, by go_num, ?_⟩, by simp [intOf]; omega⟩
      rw [or_step _ _ ht hb, HS.out]
    · go_wp2
      go_ret
      exact ⟨ret_int (by rw [List.take_of_length_le (by omega)]), rfl⟩

theorem byteT : ByteT Try.prog 22 5 := ⟨Try.underlying22, Try.underlying5, by
  obtain ⟨i, h1, h2, h3, h4⟩ := info_parts (P := Try.prog) (e := 5) (z := .int .u8 0) (size := 1) (bytes := 1) (by kernel_rfl)
  exact ⟨i, h1, h2, h3, h4⟩⟩

set_option maxHeartbeats 400000 in
theorem copyWithRoom_any (l : List UInt8) (v : Value) (r : Int) (w : World) (h0 : 0 ≤ r) (hl : l.length + r ≤ 140737488355328) (hv : Bs w v l) :
    Calls Try.prog 57 #[v, .int .i64 r] w fun e w' => ∃ v', e = .returned v' ∧ Own w' w.heap.size 5 v' l ∧ Below w.heap.size w w' := by
  obtain ⟨r, rfl⟩ := nat_of h0
  have hl : l.length + r ≤ 140737488355328 := by omega
  obtain ⟨A, c, rfl, hc1, hc2, hr⟩ := hv
  have hmk : ∀ u : World, (Instr.makeSlice 22 (.int .i64 0) (.int .i64 ((l.length : Int) + (r : Int)))).run Try.prog u =
      .ok (.slice (some ⟨u.heap.size, 0, none⟩) 0 (l.length + r)) (u.alloc (.cells (madeCells #[.int .u8 0] (l.length + r)) 5)) := fun u => by
    have h := run_make_bytes byteT .i64 .i64 0 (l.length + r) (by omega) hl u
    rw [Int.natCast_add] at h
    exact h
  have hown : Own (w.alloc (.cells (madeCells #[.int .u8 0] (l.length + r)) 5)) w.heap.size 5 (.slice (some ⟨w.heap.size, 0, none⟩) 0 (l.length + r)) [] :=
    Own.made w _ _ _ _ (Nat.le_refl _) (by simp only [maxLen]; omega) (by simp [madeCells])
  have HO := Lib.hid hown
  clear hown
  go_enter Try.func57, Try.ntmps57
  go_wp2_with (at_builtin; refine wpList_append_bytes _ byteT rfl _ _ rfl w.heap.size _ [] rfl HO.out _ _ _ l rfl rfl (hr.alloc _) (by simp; omega) (by simp) ?_)
  intro v' w' h1 h2 h3
  go_wp2
  go_ret
  exact ⟨v', rfl, h1, ((Below.refl _ w).alloc (Nat.le_refl _) _).grown h2 (by simp) (by intro k hk; simp [Value.ownBlock] at hk; omega)⟩

theorem bet_length (n k : Nat) : (bet n k).length = k := by
  induction k with
  | zero => rfl
  | succ k ih => simp [bet, ih]

theorem byte_at (n k : Nat) : (n : Int) / 2 ^ (8 * k) % 256 = ((UInt8.ofNat (n / 256 ^ k)).toNat : Int) := by
  have h : (2 : Int) ^ (8 * k) = ((256 ^ k : Nat) : Int) := by rw [Int.pow_mul]; simp
  rw [h]
  simp

set_option maxHeartbeats 400000 in
theorem appendNumber_any (l : List UInt8) (v : Value) (base : Nat) (wide n : Int) (w : World) (h0 : 0 ≤ wide) (hw : wide ≤ 8) (hn : 0 ≤ n) (hown : Own w base 5 v l)
    (hl : l.length + wide ≤ 140737488355328) (hbase : base ≤ w.heap.size) :
    Calls Try.prog 58 #[v, .int .i64 wide, .int .u64 n] w fun e w' =>
      ∃ v', e = .returned v' ∧ Own w' base 5 v' (l ++ bet n.toNat wide.toNat) ∧ Below base w w' := by
  obtain ⟨n, rfl⟩ := nat_of hn
  obtain ⟨wide, rfl⟩ := nat_of h0
  rw [Int.toNat_natCast, Int.toNat_natCast]
  have hl : l.length + wide ≤ 140737488355328 := by omega
  have HO := Lib.hid hown
  clear hown
  go_enter Try.func58, Try.ntmps58
  go_wp2
  go_loopw [0, 7] (fun v i wr => ∃ (k : Nat) (m : List UInt8), k ≤ wide ∧ i = .int .i64 ((k : Int) - 1) ∧ m ++ bet n k = l ++ bet n wide ∧ Own wr base 5 v m ∧ Below base w wr) (fun _ i _ => (intOf i + 1).toNat)
  case atStart => exact ⟨wide, l, Nat.le_refl _, rfl, rfl, HO.out, Below.refl _ _⟩
  case round =>
    obtain ⟨k, m, hk, rfl, hm, hown, hb⟩ := hrel
    have HM := Lib.hid hm
    have HO' := Lib.hid hown
    have hml : m.length + k = l.length + wide := by
      have := congrArg List.length hm
      simpa [bet_length] using this
    clear hm hown
    cases k with
    | zero =>
      go_wp2
      go_ret
      have hme : m = l ++ bet n wide := by simpa [bet] using HM.out
      subst hme
      exact ⟨_, rfl, HO'.out, hb⟩
    | succ k =>
      have hbs := hb.size
      go_wp2_with (at_builtin; refine wpList_append_bytes _ byteT rfl _ _ rfl base _ m rfl (HO'.out.alloc _) _ _ _ [UInt8.ofNat (n / 256 ^ k)] rfl rfl ?c1 (by simp; omega) (by simp; omega) ?_)
      case c1 => exact Rd.one _ _ _ (congrArg _ (byte_at n k))
      intro v' w' h1 h2 h3
      go_wp2
      refine ⟨⟨k, _, by omega, rfl, ?_, h1, (hb.alloc (by omega) _).grown h2 (by simp; omega) HO'.out.ge⟩, by simp [intOf]⟩
      simpa [bet] using HM.out

end Go.Proofs.Ytdfjicjlmejonaa
