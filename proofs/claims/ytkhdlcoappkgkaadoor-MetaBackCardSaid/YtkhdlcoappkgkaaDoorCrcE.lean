/-
  THE HEAD OF LAYER 2's STATEMENTS; and why one byte that is another one is told: sums of lists that differ in one byte differ.
-/
import Derived.Test.YtkhdlcoappkgkaaDoorCrcD
import Derived.Lib.SlBytesConst
namespace Go.Proofs.YtkhdlcoappkgkaaDoor
open Go.RowKit

theorem crc_example : crcOf [49, 50, 51, 52, 53, 54, 55, 56, 57] = 3421780262 := by decide +kernel

/-- the cells of a row that the program has laid -/
def exCells : Array Value := #[.int .u8 49, .int .u8 50, .int .u8 51, .int .u8 52, .int .u8 53, .int .u8 54, .int .u8 55, .int .u8 56, .int .u8 57]

theorem Rd.marked (w : World) (cs : Array Value) (e : TypeId) (f : Nat × Nat) : Rd (w.alloc (.cells cs e f)) (some ⟨w.heap.size, 0, none⟩) cs.toList :=
  Rd.of_cells (World.news_of_block (heap_alloc_new w _))

theorem xor_cancel {a b p : Nat} (h : a ^^^ p = b ^^^ p) : a = b := by
  have := congrArg (· ^^^ p) h
  simpa [Nat.xor_assoc] using this

theorem xor_cancel_left {a b p : Nat} (h : p ^^^ a = p ^^^ b) : a = b := by
  rw [Nat.xor_comm p a, Nat.xor_comm p b] at h
  exact xor_cancel h

theorem poly_top (a b : Nat) (ha : a < 2147483648) (hb : b < 2147483648) : a ^^^ 3988292384 ≠ b := by
  intro h
  have h1 := congrArg (fun n => Nat.testBit n 31) h
  have h2 : Nat.testBit a 31 = false := Nat.testBit_lt_two_pow ha
  have h3 : Nat.testBit b 31 = false := Nat.testBit_lt_two_pow hb
  have h4 : Nat.testBit 3988292384 31 = true := by decide
  simp only [Nat.testBit_xor, h2, h3, h4] at h1
  exact absurd h1 (by decide)

theorem fall_inj {a b : Nat} (ha : a < 4294967296) (hb : b < 4294967296) (h : fall a = fall b) : a = b := by
  unfold fall at h
  split at h <;> split at h
  · have := xor_cancel h
    omega
  · exact absurd h (poly_top _ _ (by omega) (by omega))
  · exact absurd h.symm (poly_top _ _ (by omega) (by omega))
  · omega

theorem falls_inj {a b : Nat} (ha : a < 4294967296) (hb : b < 4294967296) (k : Nat) (h : falls a k = falls b k) : a = b := by
  induction k with
  | zero => exact h
  | succ k ih => exact ih (fall_inj (falls_lt ha k) (falls_lt hb k) h)

theorem upd_inj {a b : Nat} (ha : a < 4294967296) (hb : b < 4294967296) (x : UInt8) (h : upd a x = upd b x) : a = b := by
  have hx : x.toNat < 4294967296 := by have := x.toNat_lt; omega
  exact xor_cancel (falls_inj (xor_lt32 ha hx) (xor_lt32 hb hx) 8 h)

theorem upd_byte {a : Nat} (ha : a < 4294967296) (x y : UInt8) (h : upd a x = upd a y) : x = y := by
  have hx : x.toNat < 4294967296 := by have := x.toNat_lt; omega
  have hy : y.toNat < 4294967296 := by have := y.toNat_lt; omega
  exact UInt8.toNat.inj (xor_cancel_left (falls_inj (xor_lt32 ha hx) (xor_lt32 ha hy) 8 h))

theorem runs_inj (l : List UInt8) : ∀ {a b : Nat}, a < 4294967296 → b < 4294967296 → runs a l = runs b l → a = b := by
  induction l with
  | nil => intro a b _ _ h; exact h
  | cons x l ih => intro a b ha hb h; exact upd_inj ha hb x (ih (upd_lt ha x) (upd_lt hb x) h)

theorem crc_byte (p q : List UInt8) (x y : UInt8) (h : crcOf (p ++ x :: q) = crcOf (p ++ y :: q)) : x = y := by
  have h0 : (4294967295 : Nat) < 4294967296 := by omega
  have hp := runs_lt p h0
  have e1 : ∀ z : UInt8, runs 4294967295 (p ++ z :: q) = runs (upd (runs 4294967295 p) z) q := fun z => by rw [runs_append]; rfl
  have l1 := runs_lt q (upd_lt hp x)
  have l2 := runs_lt q (upd_lt hp y)
  unfold crcOf at h
  rw [e1, e1] at h
  exact upd_byte hp x y (runs_inj q (upd_lt hp x) (upd_lt hp y) (by omega))

theorem xor_self_zero {a x : UInt8} (h : a ^^^ x = a) : x = 0 := by
  have := congrArg (a ^^^ ·) h
  simpa [← UInt8.xor_assoc] using this

theorem set_parts (l : List UInt8) (i : Nat) (b : UInt8) (h : i < l.length) : l.set i b = l.take i ++ b :: l.drop (i + 1) := List.set_eq_take_append_cons_drop.trans (if_pos h)

theorem crc_set (l : List UInt8) (i : Nat) (x : UInt8) (h : i < l.length) (hx : x ≠ 0) : crcOf (l.set i (l[i] ^^^ x)) ≠ crcOf l := by
  intro he
  rw [set_parts l i _ h] at he
  have hl : l = l.take i ++ l[i] :: l.drop (i + 1) := by simp
  have he2 : crcOf (l.take i ++ (l[i] ^^^ x) :: l.drop (i + 1)) = crcOf (l.take i ++ l[i] :: l.drop (i + 1)) := by rw [← hl]; exact he
  exact hx (xor_self_zero (crc_byte _ _ _ _ he2))

theorem body_sealed (l : List UInt8) : bodyOf (sealedOf l) = l := by
  unfold bodyOf
  rw [sealedOf_length]
  unfold sealedOf
  simp

theorem tail_sealed (l : List UInt8) : tailOf (sealedOf l) = crcOf (bodyOf (sealedOf l)) := by
  rw [← sealed_iff _ (by rw [sealedOf_length]; omega), body_sealed]

/-- of sealed bytes of which one is another one the last four aren't the sum of the others -/
theorem altered (l : List UInt8) (i : Nat) (x : UInt8) (h : i < (sealedOf l).length) (hx : x ≠ 0) :
    tailOf ((sealedOf l).set i ((sealedOf l)[i] ^^^ x)) ≠ crcOf (bodyOf ((sealedOf l).set i ((sealedOf l)[i] ^^^ x))) := by
  intro he
  have hlen := sealedOf_length l
  have hset : ((sealedOf l).set i ((sealedOf l)[i] ^^^ x)).length = l.length + 4 := by simp [hlen]
  rw [← sealed_iff _ (by omega)] at he
  by_cases hi : i < l.length
  · have hget : (sealedOf l)[i] = l[i] := by simp [sealedOf, hi]
    have hS : (sealedOf l).set i ((sealedOf l)[i] ^^^ x) = l.set i (l[i] ^^^ x) ++ bet (crcOf l) 4 := by
      rw [hget]
      unfold sealedOf
      rw [List.set_append_left _ _ hi]
    have hb : bodyOf ((sealedOf l).set i ((sealedOf l)[i] ^^^ x)) = l.set i (l[i] ^^^ x) := by
      unfold bodyOf
      rw [hset, hS]
      simp
    rw [hb, hS] at he
    have h2 := congrArg num (List.append_cancel_left he)
    rw [num_bet 4 _ (by have := crcOf_lt (l.set i (l[i] ^^^ x)); omega), num_bet 4 _ (by have := crcOf_lt l; omega)] at h2
    exact crc_set l i x hi hx h2
  · have hb : bodyOf ((sealedOf l).set i ((sealedOf l)[i] ^^^ x)) = l := by
      unfold bodyOf
      rw [hset]
      unfold sealedOf
      rw [List.set_append_right _ _ (by omega)]
      simp
    rw [hb] at he
    have h3 := congrArg (fun m : List UInt8 => m[i]?) he
    simp only [List.getElem?_set_self h, List.getElem?_eq_getElem h] at h3
    injection h3 with h3
    exact hx (xor_self_zero h3.symm)

end Go.Proofs.YtkhdlcoappkgkaaDoor
