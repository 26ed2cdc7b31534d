/-
  THE SUM OF BYTES as a function of lists, and the contracts of crc.shiftOut, crc.On, crc.Sum and the document's own Sum: each returns it, and leaves the memory as it was.
-/
import Derived.Test.YtkhdlcoappkgkaaDoorWordA
namespace Go.Proofs.YtkhdlcoappkgkaaDoor
open Go.RowKit

/-- one bit falls out -/
def fall (n : Nat) : Nat := if n % 2 = 1 then (n / 2) ^^^ 3988292384 else n / 2
/-- k bits fall out -/
def falls (n : Nat) : Nat → Nat
  | 0 => n
  | k + 1 => fall (falls n k)
/-- one byte more -/
def upd (n : Nat) (b : UInt8) : Nat := falls (n ^^^ b.toNat) 8
def runs (n : Nat) (l : List UInt8) : Nat := l.foldl upd n
/-- the sum of any bytes that have the sum s, with l behind them -/
def crcOn (s : Nat) (l : List UInt8) : Nat := 4294967295 - runs (4294967295 - s) l
/-- the sum -/
def crcOf (l : List UInt8) : Nat := 4294967295 - runs 4294967295 l

theorem xor_lt32 {a b : Nat} (ha : a < 4294967296) (hb : b < 4294967296) : a ^^^ b < 4294967296 := Nat.xor_lt_two_pow (n := 32) ha hb

theorem fall_lt {n : Nat} (h : n < 4294967296) : fall n < 4294967296 := by
  unfold fall
  split
  · exact xor_lt32 (by omega) (by omega)
  · omega

theorem falls_lt {n : Nat} (h : n < 4294967296) (k : Nat) : falls n k < 4294967296 := by
  induction k with
  | zero => exact h
  | succ k ih => exact fall_lt ih

theorem upd_lt {n : Nat} (h : n < 4294967296) (b : UInt8) : upd n b < 4294967296 := falls_lt (xor_lt32 h (by have := b.toNat_lt; omega)) 8

theorem runs_lt (l : List UInt8) : ∀ {n : Nat}, n < 4294967296 → runs n l < 4294967296 := by
  induction l with
  | nil => intro n h; exact h
  | cons b l ih => intro n h; exact ih (upd_lt h b)

theorem runs_snoc (n : Nat) (l : List UInt8) (b : UInt8) : runs n (l ++ [b]) = upd (runs n l) b := by simp [runs]

theorem runs_append (n : Nat) (l m : List UInt8) : runs n (l ++ m) = runs (runs n l) m := by simp [runs]

theorem crcOf_lt (l : List UInt8) : crcOf l < 4294967296 := by unfold crcOf; omega

theorem crcOn_zero (l : List UInt8) : crcOn 0 l = crcOf l := rfl

theorem crcOn_of (l m : List UInt8) : crcOn (crcOf l) m = crcOf (l ++ m) := by
  have h := runs_lt l (n := 4294967295) (by omega)
  unfold crcOn crcOf
  rw [runs_append]
  congr 2
  omega

theorem and_one (q : Nat) (hq : q < 4294967296) : bits .and .u32 (q : Int) 1 = ((q % 2 : Nat) : Int) := by
  have h := u32_and_nat q 1 hq (by omega)
  rw [Nat.and_one_is_mod] at h
  exact h

theorem xor_poly (q : Nat) (hq : q < 4294967296) : bits .xor .u32 (q : Int) 3988292384 = ((q ^^^ 3988292384 : Nat) : Int) := u32_xor_nat q 3988292384 hq (by omega)

set_option maxHeartbeats 400000 in
theorem shiftOut_any (n : Int) (w : World) (h0 : 0 ≤ n) (h1 : n < 4294967296) :
    Calls Tryd.prog 76 #[.int .u32 n] w fun e w' => e = .returned (.int .u32 ((falls n.toNat 8 : Nat) : Int)) ∧ w = w' := by
  obtain ⟨n, rfl⟩ := nat_of h0
  rw [Int.toNat_natCast]
  have hn : n < 4294967296 := by omega
  clear h0 h1
  go_enter Tryd.func76, Tryd.ntmps76
  go_wp2
  go_loop [0, 4] (fun m i => ∃ j q : Nat, j ≤ 8 ∧ q < 4294967296 ∧ i = .int .i64 j ∧ m = .int .u32 q ∧ Hid (q = falls n j)) (fun _ i => 8 - (intOf i).toNat)
  case atStart => exact ⟨0, n, Nat.zero_le _, hn, rfl, rfl, Lib.hid rfl⟩
  case round =>
    obtain ⟨j, q, hj, hq, rfl, rfl, HQ⟩ := hrel
    by_cases hlt : j < 8
    · have ha := and_one q hq
      by_cases ho : q % 2 = 1
      · have hf : fall q = (q / 2) ^^^ 3988292384 := by simp [fall, ho]
        have hx := xor_poly (q / 2) (by omega)
        have hl := fall_lt hq
        rw [ho] at ha
        have HF := Lib.hid hf
        have HL := Lib.hid hl
        clear hf hl ho
        go_wp2
        refine ⟨⟨j + 1, fall q, by omega, HL.out, by go_num, ?_, Lib.hid ?_⟩, by simp [intOf]; omega⟩
        · rw [HF.out]; exact congrArg _ hx
        · rw [HQ.out]; rfl
      · have ho2 : q % 2 = 0 := by omega
        have hf : fall q = q / 2 := by simp [fall, ho]
        have hl := fall_lt hq
        rw [ho2] at ha
        have HF := Lib.hid hf
        have HL := Lib.hid hl
        clear hf hl ho ho2
        go_wp2
        refine ⟨⟨j + 1, fall q, by omega, HL.out, by go_num, ?_, Lib.hid ?_⟩, by simp [intOf]; omega⟩
        · rw [HF.out]; rfl
        · rw [HQ.out]; rfl
    · obtain rfl : j = 8 := by omega
      go_wp2
      go_ret
      exact ⟨ret_int (by rw [HQ.out]), rfl⟩

end Go.Proofs.YtkhdlcoappkgkaaDoor
