/-
  CONTRACTS of the small functions of package word: isWidth, fits, number, copyWithRoom, appendNumber.
  CONTRACTS of package word: Put, Text.
  CONTRACTS of package word: Read, and the methods of Reader.
  CONTRACTS of the document's own answers (tankardref01): Wide, Fits, Bytes, Text.
  CONTRACTS of the document's own Reader (tankardref01): Word, Text.
  CONTRACTS of the document's own Reader (tankardref01): Text.
  THE HEAD OF LAYER 1's STATEMENTS: 'up' returns true; nothing that was there has turned.
-/
import Derived.Test.YtohcbgchloncmaaMem
import Derived.Test.YtohcbgchloncmaaRows
import Derived.Outline
import Derived.Lib.Hide
import Derived.Deep.QuietTactic
import Derived.BigQuiet
import Derived.Laws.BitsAllLaws
import Derived.IntWalk
import Derived.StillTailTactics
import Derived.Deep.RegionHeld3
import Derived.Lib.IfaceEq
import Derived.Lib.IfaceNeq
import Derived.WalkSpells
namespace Go.Proofs.Ytohcbgchloncmaa
open Go.RowKit

def isW (n : Int) : Bool := n == 1 || n == 2 || n == 4 || n == 8

/-- whole numbers that are none below 0 -/
theorem nat_of {n : Int} (h : 0 ≤ n) : ∃ k : Nat, n = (k : Int) := Int.eq_ofNat_of_zero_le h

theorem ret_bool {a b : Bool} (h : a = b) : Ending.returned (.bool a) = .returned (.bool b) := by rw [h]

theorem ret_int {k : IntKind} {a b : Int} (h : a = b) : Ending.returned (.int k a) = .returned (.int k b) := by rw [h]

theorem div_small (n m : Nat) (hm : 0 < m) : ((n : Int) / (m : Int) == 0) = decide (n < m) := by
  rw [Bool.eq_iff_iff, beq_iff_eq, decide_eq_true_iff]
  constructor
  · intro h
    have h' : n / m = 0 := by exact_mod_cast h
    exact (Nat.div_eq_zero_iff.1 h').resolve_left (by omega)
  · intro h
    have h' : n / m = 0 := Nat.div_eq_of_lt h
    exact_mod_cast h'

/-- a number's bytes, the highest first; those of its last k places -/
def bet (n : Nat) : Nat → List UInt8
  | 0 => []
  | k + 1 => UInt8.ofNat (n / 256 ^ k) :: bet n k

/-- the number that bytes are -/
def num (l : List UInt8) : Nat := l.foldl (fun a b => a * 256 + b.toNat) 0

theorem num_snoc (l : List UInt8) (b : UInt8) : num (l ++ [b]) = num l * 256 + b.toNat := by simp [num]

theorem num_from (l : List UInt8) : ∀ a : Nat, l.foldl (fun a b => a * 256 + b.toNat) a < (a + 1) * 256 ^ l.length := by
  induction l with
  | nil => intro a; simp
  | cons b l ih =>
    intro a
    have hb := b.toNat_lt
    have h1 := ih (a * 256 + b.toNat)
    rw [List.foldl_cons, List.length_cons, Nat.pow_succ]
    refine Nat.lt_of_lt_of_le h1 ?_
    rw [Nat.mul_comm (256 ^ l.length) 256, ← Nat.mul_assoc]
    exact Nat.mul_le_mul_right _ (by omega)

theorem num_lt (l : List UInt8) : num l < 256 ^ l.length := by
  have := num_from l 0
  simpa [num] using this

theorem num_take_lt (l : List UInt8) (k : Nat) (hk : k < l.length) (hl : l.length ≤ 8) : num (l.take k) < 72057594037927936 := by
  have h := num_lt (l.take k)
  have h2 : (l.take k).length ≤ 7 := by simp; omega
  have h3 : 256 ^ (l.take k).length ≤ 256 ^ 7 := Nat.pow_le_pow_right (by omega) h2
  have h4 : (256 : Nat) ^ 7 = 72057594037927936 := by decide
  omega

theorem num_lt8 (l : List UInt8) (hl : l.length ≤ 8) : num l < 18446744073709551616 := by
  have h := num_lt l
  have h3 : 256 ^ l.length ≤ 256 ^ 8 := Nat.pow_le_pow_right (by omega) hl
  have h4 : (256 : Nat) ^ 8 = 18446744073709551616 := by decide
  omega

theorem or_step (a b : Nat) (ha : a < 72057594037927936) (hb : b < 256) : bits .or .u64 ((a : Int) * 256) (b : Int) = ((a * 256 + b : Nat) : Int) := by
  have hw : (a : Int) * 256 = ((a * 256 : Nat) : Int) := by omega
  rw [hw, u64_or_nat _ _ (by omega) (by omega)]
  have := Nat.two_pow_add_eq_or_of_lt (i := 8) (b := b) (by omega) a
  rw [show a * 256 = 2 ^ 8 * a by omega, ← this]

theorem bet_length (n k : Nat) : (bet n k).length = k := by
  induction k with
  | zero => rfl
  | succ k ih => simp [bet, ih]

theorem byte_at (n k : Nat) : (n : Int) / 2 ^ (8 * k) % 256 = ((UInt8.ofNat (n / 256 ^ k)).toNat : Int) := by
  have h : (2 : Int) ^ (8 * k) = ((256 ^ k : Nat) : Int) := by rw [Int.pow_mul]; simp
  rw [h]
  simp

end Go.Proofs.Ytohcbgchloncmaa

namespace Go.Proofs.Ytohcbgchloncmaa
open Go.RowKit

/-- does Put take the number in that width? -/
def putOk (k n : Int) : Bool := isW k && decide (n.toNat < 256 ^ k.toNat)

theorem isW_cases {k : Int} (h : isW k = true) : k = 1 ∨ k = 2 ∨ k = 4 ∨ k = 8 := by simpa [isW, or_assoc] using h

/-- an error that is one of api's, itself -/
abbrev code (n : Int) : Value := .iface 29 (.int .i64 n)

end Go.Proofs.Ytohcbgchloncmaa

namespace Go.Proofs.Ytohcbgchloncmaa
open Go.RowKit

/-- is a number of the width k there? -/
def wordOk (l : List UInt8) (p : Nat) (bad : Bool) (k : Int) : Bool := !bad && isW k && decide (k ≤ (l.length : Int) - p)

/-- how many bytes the text that stands next has -/
def tsize (l : List UInt8) (p : Nat) : Nat := num ((l.drop p).take 2)

theorem tsize_lt (l : List UInt8) (p : Nat) : tsize l p < 65536 := by
  have h := num_lt ((l.drop p).take 2)
  have h3 : 256 ^ ((l.drop p).take 2).length ≤ 256 ^ 2 := Nat.pow_le_pow_right (by omega) (by simp; omega)
  unfold tsize
  omega

/-- is a text of at most that many bytes there? -/
def textOk (l : List UInt8) (p : Nat) (bad : Bool) (most : Int) : Bool := !bad && decide (2 ≤ (l.length : Int) - p) && decide ((tsize l p : Int) ≤ (l.length : Int) - p - 2) && decide ((tsize l p : Int) ≤ most)

theorem take_fill (l : List UInt8) (n : Nat) (h : n ≤ l.length) : l.take (List.replicate n (0 : UInt8)).length ++ (List.replicate n (0 : UInt8)).drop l.length = l.take n := by
  have hd : (List.replicate n (0 : UInt8)).drop l.length = [] := List.drop_eq_nil_of_le (by simpa using h)
  rw [hd, List.length_replicate, List.append_nil]

end Go.Proofs.Ytohcbgchloncmaa

namespace Go.Proofs.Ytohcbgchloncmaa
open Go.RowKit

theorem div_pow_step (n k : Nat) : n / 256 ^ k / 256 = n / 256 ^ (k + 1) := by rw [Nat.pow_succ, Nat.div_div_eq_div_mul]

theorem bet_snoc (n k : Nat) : bet n (k + 1) = bet (n / 256) k ++ [UInt8.ofNat n] := by
  induction k with
  | zero => simp [bet]
  | succ k ih =>
    rw [bet, ih]
    simp only [bet, List.cons_append]
    rw [Nat.div_div_eq_div_mul, Nat.pow_succ, Nat.mul_comm]

end Go.Proofs.Ytohcbgchloncmaa

namespace Go.Proofs.Ytohcbgchloncmaa
open Go.RowKit

/-- where something is amiss, as the document's Reader tells it -/
def badAt (bad : Bool) (p : Nat) : Int := if bad then (p : Int) else -1

section
variable {w w' : World} {g : Nat} {v : Value} {l : List UInt8} {p : Nat} {bad : Bool}
end

theorem byte_step {w : World} {A : Option Addr} {l : List UInt8} (hr : Rd w A (BV l)) (p k j : Nat) (hj : j < k) (hk : p + k ≤ l.length) :
    ∃ b : Nat, b < 256 ∧ (∃ ad, A = some ad ∧ w.cell? (ad.add (p + j)) = some (.int .u8 (b : Int))) ∧ num (((l.drop p).take k).take (j + 1)) = num (((l.drop p).take k).take j) * 256 + b := by
  have hlen : ((l.drop p).take k).length = k := by simp; omega
  have hj' : j < ((l.drop p).take k).length := by omega
  refine ⟨(((l.drop p).take k)[j]'hj').toNat, UInt8.toNat_lt _, ?_, ?_⟩
  · refine hr (p + j) _ ?_
    rw [BV_getElem?, List.getElem_take, List.getElem_drop, List.getElem?_eq_getElem (by omega)]
    rfl
  · rw [List.take_succ_eq_append_getElem hj', num_snoc]

end Go.Proofs.Ytohcbgchloncmaa

namespace Go.Proofs.Ytohcbgchloncmaa
open Go.RowKit

end Go.Proofs.Ytohcbgchloncmaa

namespace Go.Proofs.Ytohcbgchloncmaa
open Go.RowKit

theorem ownK : ownKnob Try.prog.godebug = none := by kernel_rfl

theorem laidO : laidOutB Try.prog = true := by kernel_rfl

theorem cellsB : Try.prog.cellsOf 5 = 1 := by kernel_rfl

theorem bytesB : Try.prog.bytesOf 5 = 1 := by kernel_rfl

theorem strT : Try.prog.underlying 9 = some .string := Try.underlying9

theorem eqCode (u : World) (a b : Int) : (binOp .eql 25 (code a) (code b)).run Try.prog u = .ok (.bool (a == b)) u :=
  Lib.run_eql_iface_int u a b Try.underlying25 (by kernel_rfl) Try.underlying29

theorem neCode (u : World) (a b : Int) : (binOp .neq 25 (code a) (code b)).run Try.prog u = .ok (.bool (!(a == b))) u :=
  Lib.run_neq_iface_int u a b Try.underlying25 (by kernel_rfl) Try.underlying29

/-- the string of bytes -/
def Bstr (l : List UInt8) : ByteArray := ⟨l.toArray⟩

theorem Bstr_append (l m : List UInt8) : Bstr l ++ Bstr m = Bstr (l ++ m) := by
  apply ByteArray.ext
  simp [Bstr]

theorem Bstr_inj {l m : List UInt8} (h : Bstr l = Bstr m) : l = m := by
  have := congrArg (fun b : ByteArray => b.data.toList) h
  simpa [Bstr] using this

theorem Bstr_toList (l : List UInt8) : (Bstr l).toList = l := ByteArray.toList_mk l

theorem Bstr_size (l : List UInt8) : (Bstr l).size = l.length := by simp [Bstr, ByteArray.size]

/-- two strings, joined -/
theorem addStr (l m : List UInt8) (h : l.length + m.length ≤ 140737488355328) (u : World) : (Op.stringOp .add (Bstr l) (Bstr m)).run Try.prog u = .ok (.string (Bstr (l ++ m))) u := by
  rw [run_string_add_sum u _ _ (by rw [Bstr_size, Bstr_size]; omega), Bstr_append]

end Go.Proofs.Ytohcbgchloncmaa
