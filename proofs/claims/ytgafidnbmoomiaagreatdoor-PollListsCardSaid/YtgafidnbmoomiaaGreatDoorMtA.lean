/-
  METAS, MARKERS AND NAMES, plain: which may be, their bytes, what any bytes are; digits to a base; an object's name, and what any name is of. Of no program. No condition but what each theorem says.
  CONTRACTS of the program's May, Fair, and of the document's May, Fair (written by tools/genmay.py). Conditions: what each says.
  CONTRACTS of the program's Put and Mark. Conditions: what each says.
  CONTRACTS of the document's Plain and Bare (written by tools/genplain.py). Conditions: what each says.
  CONTRACTS of the program's isWhole, Get and Marked. Conditions: what each says.
  CONTRACTS of the document's Told, Stood, Meta, Marker (written by tools/gentold.py). Conditions: what each says.
-/
import Derived.Test.YtgafidnbmoomiaaGreatDoorCrcA
import Derived.Test.YtgafidnbmoomiaaGreatDoorMore
import Derived.Test.YtgafidnbmoomiaaGreatDoorMix
namespace Go.Proofs.YtgafidnbmoomiaaGreatDoor
open Go.RowKit
set_option maxRecDepth 100000

structure Me where
  id : Int
  lv : Int
  st : Int
  en : Int
  pg : Int
  tr : Int

structure Me.ok (m : Me) : Prop where
  id0 : 0 ≤ m.id
  id1 : m.id ≤ 18446744073709551615
  lv0 : -9223372036854775808 ≤ m.lv
  lv1 : m.lv ≤ 9223372036854775807
  st0 : -9223372036854775808 ≤ m.st
  st1 : m.st ≤ 9223372036854775807
  en0 : -9223372036854775808 ≤ m.en
  en1 : m.en ≤ 9223372036854775807
  pg0 : -9223372036854775808 ≤ m.pg
  pg1 : m.pg ≤ 9223372036854775807
  tr0 : -9223372036854775808 ≤ m.tr
  tr1 : m.tr ≤ 9223372036854775807

def Me.zero : Me := ⟨0, 0, 0, 0, 0, 0⟩

def meV (m : Me) : Value := .agg #[.int .u64 m.id, .int .i64 m.lv, .int .i64 m.st, .int .i64 m.en, .int .i64 m.pg, .int .i64 m.tr]

def meP (m : Me) : Prop := 1 ≤ m.id ∧ 0 ≤ m.lv ∧ m.lv ≤ 10 ∧ 0 ≤ m.st ∧ m.st ≤ m.en ∧ m.en ≤ 1099511627776 ∧ 1 ≤ m.pg ∧ m.pg ≤ 200 ∧ m.pg ≤ m.tr ∧ m.tr ≤ 64 * m.pg

instance (m : Me) : Decidable (meP m) := by unfold meP; infer_instance

def meB (m : Me) : Bool := decide (meP m)

def meRaw (m : Me) : List UInt8 := bet m.id.toNat 8 ++ bet m.st.toNat 8 ++ bet m.en.toNat 8 ++ bet m.lv.toNat 1 ++ bet m.pg.toNat 2 ++ bet m.tr.toNat 4

def meAt (b : List UInt8) : Me := ⟨(num ((b.drop 0).take 8) : Int), (num ((b.drop 24).take 1) : Int), wrap64 (num ((b.drop 8).take 8) : Int), wrap64 (num ((b.drop 16).take 8) : Int), (num ((b.drop 25).take 2) : Int), (num ((b.drop 27).take 4) : Int)⟩

def meOf (b : List UInt8) : Int × Me := if b.length = 31 ∧ meB (meAt b) = true then (0, meAt b) else (2, Me.zero)

def meX (x : List UInt8) : Int × Me := if x.length < 4 then (2, Me.zero) else if tailOf x = crcOf (bodyOf x) then meOf (bodyOf x) else (7, Me.zero)

theorem meOf_code (b : List UInt8) : 0 ≤ (meOf b).1 ∧ (meOf b).1 ≤ 10 := by unfold meOf; split <;> simp

theorem meX_code (x : List UInt8) : 0 ≤ (meX x).1 ∧ (meX x).1 ≤ 10 := by
  unfold meX
  split
  · simp
  · split
    · exact meOf_code _
    · simp

structure Mk where
  id : Int
  at_ : Int
  by_ : Int

structure Mk.ok (m : Mk) : Prop where
  id0 : 0 ≤ m.id
  id1 : m.id ≤ 18446744073709551615
  at0 : -9223372036854775808 ≤ m.at_
  at1 : m.at_ ≤ 9223372036854775807
  by0 : 0 ≤ m.by_
  by1 : m.by_ ≤ 18446744073709551615

def Mk.zero : Mk := ⟨0, 0, 0⟩

def mkV (m : Mk) : Value := .agg #[.int .u64 m.id, .int .i64 m.at_, .int .u64 m.by_]

def mkP (m : Mk) : Prop := 1 ≤ m.id ∧ 0 ≤ m.at_ ∧ m.at_ ≤ 1099511627776 ∧ m.by_ ≠ m.id

instance (m : Mk) : Decidable (mkP m) := by unfold mkP; infer_instance

def mkB (m : Mk) : Bool := decide (mkP m)

def mkAt (b : List UInt8) : Mk := ⟨(num ((b.drop 0).take 8) : Int), wrap64 (num ((b.drop 8).take 8) : Int), (num ((b.drop 16).take 8) : Int)⟩

def mkOf (b : List UInt8) : Int × Mk := if b.length = 24 ∧ mkB (mkAt b) = true then (0, mkAt b) else (2, Mk.zero)

def mkX (x : List UInt8) : Int × Mk := if x.length < 4 then (2, Mk.zero) else if tailOf x = crcOf (bodyOf x) then mkOf (bodyOf x) else (7, Mk.zero)

theorem mkOf_code (b : List UInt8) : 0 ≤ (mkOf b).1 ∧ (mkOf b).1 ≤ 10 := by unfold mkOf; split <;> simp

theorem mkX_code (x : List UInt8) : 0 ≤ (mkX x).1 ∧ (mkX x).1 ≤ 10 := by
  unfold mkX
  split
  · simp
  · split
    · exact mkOf_code _
    · simp

theorem cutp {a b c l : List UInt8} {p k : Nat} (h : l = a ++ (b ++ c)) (ha : a.length = p) (hb : b.length = k) : (l.drop p).take k = b := by
  subst h ha hb
  simp

def dchar (d : Nat) : UInt8 := if d < 10 then UInt8.ofNat (48 + d) else UInt8.ofNat (87 + d)

def digs (b n : Nat) : Nat → List UInt8
  | 0 => []
  | k + 1 => digs b (n / b) k ++ [dchar (n % b)]

theorem digs_length (b n k : Nat) : (digs b n k).length = k := by
  induction k generalizing n with
  | zero => rfl
  | succ k ih => simp [digs, ih]

theorem digs_zero (b : Nat) (k : Nat) : digs b 0 k = List.replicate k 48 := by
  induction k with
  | zero => rfl
  | succ k ih =>
    have h0 : dchar (0 % b) = 48 := by rw [Nat.zero_mod]; rfl
    rw [digs, Nat.zero_div, ih, h0, List.replicate_succ']

theorem digs_pad (b : Nat) (hb : 0 < b) : ∀ (k m n : Nat), n < b ^ k → digs b n (m + k) = List.replicate m 48 ++ digs b n k
  | 0, m, n, h => by
    have : n = 0 := by simp at h; exact h
    subst this
    rw [Nat.add_zero, digs_zero b]
    simp [digs]
  | k + 1, m, n, h => by
    have : n / b < b ^ k := by rw [Nat.div_lt_iff_lt_mul hb, ← Nat.pow_succ]; exact h
    rw [← Nat.add_assoc, digs, digs_pad b hb k m (n / b) this, digs, List.append_assoc]

theorem digs_left (b : Nat) : ∀ (k n : Nat), digs b n (k + 1) = dchar (n / b ^ k % b) :: digs b n k
  | 0, n => by simp [digs]
  | k + 1, n => by
    rw [digs, digs_left b k (n / b), Nat.div_div_eq_div_mul, ← Nat.pow_succ']
    simp [digs]

theorem among_yes (n a b : Int) (w : World) (h : a ≤ n ∧ n ≤ b) : Calls Tryz.prog 99 #[.int .i64 n, .int .i64 a, .int .i64 b] w fun e w' => e = .returned (.bool true) ∧ w' = w := by
  obtain ⟨h1, h2⟩ := h
  go_enter Tryz.func99, Tryz.ntmps99
  go_wp2
  go_ret
  exact ⟨by first | rfl | exact ret_bool (by simp; omega), rfl⟩

theorem among_no (n a b : Int) (w : World) (h : ¬ (a ≤ n ∧ n ≤ b)) : Calls Tryz.prog 99 #[.int .i64 n, .int .i64 a, .int .i64 b] w fun e w' => e = .returned (.bool false) ∧ w' = w := by
  by_cases h1 : a ≤ n
  · have h2 : ¬ n ≤ b := fun h2 => h ⟨h1, h2⟩
    clear h
    go_enter Tryz.func99, Tryz.ntmps99
    go_wp2
    go_ret
    exact ⟨by first | rfl | exact ret_bool (by simp; omega), rfl⟩
  · clear h
    go_enter Tryz.func99, Tryz.ntmps99
    go_wp2
    go_ret
    exact ⟨by first | rfl | exact ret_bool (by simp; omega), rfl⟩

set_option maxHeartbeats 3200000 in
theorem mmay_any (m : Me) (ho : m.ok) (w : World) : Calls Tryz.prog 80 #[meV m] w fun e w' => e = .returned (.bool (meB m)) ∧ Below w.heap.size w w' := by
  obtain ⟨i, l, s, e, p, t⟩ := m
  show Calls Tryz.prog 80 #[.agg #[.int .u64 i, .int .i64 l, .int .i64 s, .int .i64 e, .int .i64 p, .int .i64 t]] w _
  by_cases c1 : 1 ≤ i
  rotate_left
  · have E : meB ⟨i, l, s, e, p, t⟩ = false := decide_eq_false fun h => c1 (by obtain ⟨q0, q1, q2, q3, q4, q5, q6, q7, q8, q9⟩ := h; exact q0)
    rw [E]
    clear E
    go_enter Tryz.func80, Tryz.ntmps80
    go_wp2_with fail
    go_ret
    exact ⟨by first | rfl | exact ret_bool (decide_eq_true (by omega)) | exact ret_bool (decide_eq_false (by omega)) | (exact ret_bool (by simp; omega)), (Below.refl _ _).alloc (Nat.le_refl _) _⟩
  by_cases cL : 0 ≤ l ∧ l ≤ 10
  rotate_left
  · have E : meB ⟨i, l, s, e, p, t⟩ = false := decide_eq_false fun h => cL (by obtain ⟨q0, q1, q2, q3, q4, q5, q6, q7, q8, q9⟩ := h; exact ⟨q1, q2⟩)
    rw [E]
    clear E
    go_enter Tryz.func80, Tryz.ntmps80
    go_wp2_with fail
    refine (among_no _ _ _ _ cL).mono ?_
    rintro e w1 ⟨rfl, rfl⟩
    go_wp2_with fail
    go_ret
    exact ⟨by first | rfl | exact ret_bool (decide_eq_true (by omega)) | exact ret_bool (decide_eq_false (by omega)) | (exact ret_bool (by simp; omega)), (Below.refl _ _).alloc (Nat.le_refl _) _⟩
  by_cases c3 : 0 ≤ s
  rotate_left
  · have E : meB ⟨i, l, s, e, p, t⟩ = false := decide_eq_false fun h => c3 (by obtain ⟨q0, q1, q2, q3, q4, q5, q6, q7, q8, q9⟩ := h; exact q3)
    rw [E]
    clear E
    go_enter Tryz.func80, Tryz.ntmps80
    go_wp2_with fail
    refine (among_yes _ _ _ _ cL).mono ?_
    rintro e w1 ⟨rfl, rfl⟩
    go_wp2_with fail
    go_ret
    exact ⟨by first | rfl | exact ret_bool (decide_eq_true (by omega)) | exact ret_bool (decide_eq_false (by omega)) | (exact ret_bool (by simp; omega)), (Below.refl _ _).alloc (Nat.le_refl _) _⟩
  by_cases c4 : s ≤ e
  rotate_left
  · have E : meB ⟨i, l, s, e, p, t⟩ = false := decide_eq_false fun h => c4 (by obtain ⟨q0, q1, q2, q3, q4, q5, q6, q7, q8, q9⟩ := h; exact q4)
    rw [E]
    clear E
    go_enter Tryz.func80, Tryz.ntmps80
    go_wp2_with fail
    refine (among_yes _ _ _ _ cL).mono ?_
    rintro e w1 ⟨rfl, rfl⟩
    go_wp2_with fail
    go_ret
    exact ⟨by first | rfl | exact ret_bool (decide_eq_true (by omega)) | exact ret_bool (decide_eq_false (by omega)) | (exact ret_bool (by simp; omega)), (Below.refl _ _).alloc (Nat.le_refl _) _⟩
  by_cases c5 : e ≤ 1099511627776
  rotate_left
  · have E : meB ⟨i, l, s, e, p, t⟩ = false := decide_eq_false fun h => c5 (by obtain ⟨q0, q1, q2, q3, q4, q5, q6, q7, q8, q9⟩ := h; exact q5)
    rw [E]
    clear E
    go_enter Tryz.func80, Tryz.ntmps80
    go_wp2_with fail
    refine (among_yes _ _ _ _ cL).mono ?_
    rintro e w1 ⟨rfl, rfl⟩
    go_wp2_with fail
    go_ret
    exact ⟨by first | rfl | exact ret_bool (decide_eq_true (by omega)) | exact ret_bool (decide_eq_false (by omega)) | (exact ret_bool (by simp; omega)), (Below.refl _ _).alloc (Nat.le_refl _) _⟩
  by_cases cP : 1 ≤ p ∧ p ≤ 200
  rotate_left
  · have E : meB ⟨i, l, s, e, p, t⟩ = false := decide_eq_false fun h => cP (by obtain ⟨q0, q1, q2, q3, q4, q5, q6, q7, q8, q9⟩ := h; exact ⟨q6, q7⟩)
    rw [E]
    clear E
    go_enter Tryz.func80, Tryz.ntmps80
    go_wp2_with fail
    refine (among_yes _ _ _ _ cL).mono ?_
    rintro e w1 ⟨rfl, rfl⟩
    go_wp2_with fail
    refine (among_no _ _ _ _ cP).mono ?_
    rintro e w1 ⟨rfl, rfl⟩
    go_wp2_with fail
    go_ret
    exact ⟨by first | rfl | exact ret_bool (decide_eq_true (by omega)) | exact ret_bool (decide_eq_false (by omega)) | (exact ret_bool (by simp; omega)), (Below.refl _ _).alloc (Nat.le_refl _) _⟩
  by_cases cT : p ≤ t ∧ t ≤ p * 64
  rotate_left
  · have E : meB ⟨i, l, s, e, p, t⟩ = false := decide_eq_false fun h => cT (by obtain ⟨q0, q1, q2, q3, q4, q5, q6, q7, q8, q9⟩ := h; exact ⟨q8, by simp only at q9; omega⟩)
    rw [E]
    clear E
    go_enter Tryz.func80, Tryz.ntmps80
    go_wp2_with fail
    refine (among_yes _ _ _ _ cL).mono ?_
    rintro e w1 ⟨rfl, rfl⟩
    go_wp2_with fail
    refine (among_yes _ _ _ _ cP).mono ?_
    rintro e w1 ⟨rfl, rfl⟩
    go_wp2_with fail
    refine (among_no _ _ _ _ cT).mono ?_
    rintro e w1 ⟨rfl, rfl⟩
    go_wp2_with fail
    go_ret
    exact ⟨by first | rfl | exact ret_bool (decide_eq_true (by omega)) | exact ret_bool (decide_eq_false (by omega)) | (exact ret_bool (by simp; omega)), (Below.refl _ _).alloc (Nat.le_refl _) _⟩
  have E : meB ⟨i, l, s, e, p, t⟩ = true := decide_eq_true ⟨c1, cL.1, cL.2, c3, c4, c5, cP.1, cP.2, cT.1, by simp only; omega⟩
  rw [E]
  clear E
  go_enter Tryz.func80, Tryz.ntmps80
  go_wp2_with fail
  refine (among_yes _ _ _ _ cL).mono ?_
  rintro e w1 ⟨rfl, rfl⟩
  go_wp2_with fail
  refine (among_yes _ _ _ _ cP).mono ?_
  rintro e w1 ⟨rfl, rfl⟩
  go_wp2_with fail
  refine (among_yes _ _ _ _ cT).mono ?_
  rintro e w1 ⟨rfl, rfl⟩
  go_wp2_with fail
  go_ret
  exact ⟨by first | rfl | exact ret_bool (decide_eq_true (by omega)) | exact ret_bool (decide_eq_false (by omega)) | (exact ret_bool (by simp; omega)), (Below.refl _ _).alloc (Nat.le_refl _) _⟩

set_option maxHeartbeats 3200000 in
theorem MMay_any (m : Me) (ho : m.ok) (w : World) : Calls Tryz.prog 84 #[meV m] w fun e w' => e = .returned (.bool (meB m)) ∧ Below w.heap.size w w' := by
  obtain ⟨i, l, s, e, p, t⟩ := m
  show Calls Tryz.prog 84 #[.agg #[.int .u64 i, .int .i64 l, .int .i64 s, .int .i64 e, .int .i64 p, .int .i64 t]] w _
  by_cases c1 : 0 < i
  rotate_left
  · have E : meB ⟨i, l, s, e, p, t⟩ = false := decide_eq_false fun h => c1 (by obtain ⟨q0, q1, q2, q3, q4, q5, q6, q7, q8, q9⟩ := h; exact q0)
    rw [E]
    clear E
    go_enter Tryz.func84, Tryz.ntmps84
    go_wp2_with fail
    go_ret
    exact ⟨by first | rfl | exact ret_bool (decide_eq_true (by omega)) | exact ret_bool (decide_eq_false (by omega)) | (exact ret_bool (by simp; omega)), (Below.refl _ _).alloc (Nat.le_refl _) _⟩
  by_cases c2 : 0 ≤ l
  rotate_left
  · have E : meB ⟨i, l, s, e, p, t⟩ = false := decide_eq_false fun h => c2 (by obtain ⟨q0, q1, q2, q3, q4, q5, q6, q7, q8, q9⟩ := h; exact q1)
    rw [E]
    clear E
    go_enter Tryz.func84, Tryz.ntmps84
    go_wp2_with fail
    go_ret
    exact ⟨by first | rfl | exact ret_bool (decide_eq_true (by omega)) | exact ret_bool (decide_eq_false (by omega)) | (exact ret_bool (by simp; omega)), (Below.refl _ _).alloc (Nat.le_refl _) _⟩
  by_cases c2b : l ≤ 10
  rotate_left
  · have E : meB ⟨i, l, s, e, p, t⟩ = false := decide_eq_false fun h => c2b (by obtain ⟨q0, q1, q2, q3, q4, q5, q6, q7, q8, q9⟩ := h; exact q2)
    rw [E]
    clear E
    go_enter Tryz.func84, Tryz.ntmps84
    go_wp2_with fail
    go_ret
    exact ⟨by first | rfl | exact ret_bool (decide_eq_true (by omega)) | exact ret_bool (decide_eq_false (by omega)) | (exact ret_bool (by simp; omega)), (Below.refl _ _).alloc (Nat.le_refl _) _⟩
  by_cases c3 : 0 ≤ s
  rotate_left
  · have E : meB ⟨i, l, s, e, p, t⟩ = false := decide_eq_false fun h => c3 (by obtain ⟨q0, q1, q2, q3, q4, q5, q6, q7, q8, q9⟩ := h; exact q3)
    rw [E]
    clear E
    go_enter Tryz.func84, Tryz.ntmps84
    go_wp2_with fail
    go_ret
    exact ⟨by first | rfl | exact ret_bool (decide_eq_true (by omega)) | exact ret_bool (decide_eq_false (by omega)) | (exact ret_bool (by simp; omega)), (Below.refl _ _).alloc (Nat.le_refl _) _⟩
  by_cases c4 : s ≤ e
  rotate_left
  · have E : meB ⟨i, l, s, e, p, t⟩ = false := decide_eq_false fun h => c4 (by obtain ⟨q0, q1, q2, q3, q4, q5, q6, q7, q8, q9⟩ := h; exact q4)
    rw [E]
    clear E
    go_enter Tryz.func84, Tryz.ntmps84
    go_wp2_with fail
    go_ret
    exact ⟨by first | rfl | exact ret_bool (decide_eq_true (by omega)) | exact ret_bool (decide_eq_false (by omega)) | (exact ret_bool (by simp; omega)), (Below.refl _ _).alloc (Nat.le_refl _) _⟩
  by_cases c5 : e ≤ 1099511627776
  rotate_left
  · have E : meB ⟨i, l, s, e, p, t⟩ = false := decide_eq_false fun h => c5 (by obtain ⟨q0, q1, q2, q3, q4, q5, q6, q7, q8, q9⟩ := h; exact q5)
    rw [E]
    clear E
    go_enter Tryz.func84, Tryz.ntmps84
    go_wp2_with fail
    go_ret
    exact ⟨by first | rfl | exact ret_bool (decide_eq_true (by omega)) | exact ret_bool (decide_eq_false (by omega)) | (exact ret_bool (by simp; omega)), (Below.refl _ _).alloc (Nat.le_refl _) _⟩
  by_cases c6 : 1 ≤ p
  rotate_left
  · have E : meB ⟨i, l, s, e, p, t⟩ = false := decide_eq_false fun h => c6 (by obtain ⟨q0, q1, q2, q3, q4, q5, q6, q7, q8, q9⟩ := h; exact q6)
    rw [E]
    clear E
    go_enter Tryz.func84, Tryz.ntmps84
    go_wp2_with fail
    go_ret
    exact ⟨by first | rfl | exact ret_bool (decide_eq_true (by omega)) | exact ret_bool (decide_eq_false (by omega)) | (exact ret_bool (by simp; omega)), (Below.refl _ _).alloc (Nat.le_refl _) _⟩
  by_cases c7 : p ≤ 200
  rotate_left
  · have E : meB ⟨i, l, s, e, p, t⟩ = false := decide_eq_false fun h => c7 (by obtain ⟨q0, q1, q2, q3, q4, q5, q6, q7, q8, q9⟩ := h; exact q7)
    rw [E]
    clear E
    go_enter Tryz.func84, Tryz.ntmps84
    go_wp2_with fail
    go_ret
    exact ⟨by first | rfl | exact ret_bool (decide_eq_true (by omega)) | exact ret_bool (decide_eq_false (by omega)) | (exact ret_bool (by simp; omega)), (Below.refl _ _).alloc (Nat.le_refl _) _⟩
  by_cases c8 : p ≤ t
  rotate_left
  · have E : meB ⟨i, l, s, e, p, t⟩ = false := decide_eq_false fun h => c8 (by obtain ⟨q0, q1, q2, q3, q4, q5, q6, q7, q8, q9⟩ := h; exact q8)
    rw [E]
    clear E
    go_enter Tryz.func84, Tryz.ntmps84
    go_wp2_with fail
    go_ret
    exact ⟨by first | rfl | exact ret_bool (decide_eq_true (by omega)) | exact ret_bool (decide_eq_false (by omega)) | (exact ret_bool (by simp; omega)), (Below.refl _ _).alloc (Nat.le_refl _) _⟩
  by_cases c9 : t ≤ 64 * p
  rotate_left
  · have E : meB ⟨i, l, s, e, p, t⟩ = false := decide_eq_false fun h => c9 (by obtain ⟨q0, q1, q2, q3, q4, q5, q6, q7, q8, q9⟩ := h; exact q9)
    rw [E]
    clear E
    go_enter Tryz.func84, Tryz.ntmps84
    go_wp2_with fail
    go_ret
    exact ⟨by first | rfl | exact ret_bool (decide_eq_true (by omega)) | exact ret_bool (decide_eq_false (by omega)) | (exact ret_bool (by simp; omega)), (Below.refl _ _).alloc (Nat.le_refl _) _⟩
  have E : meB ⟨i, l, s, e, p, t⟩ = true := decide_eq_true ⟨c1, c2, c2b, c3, c4, c5, c6, c7, c8, c9⟩
  rw [E]
  clear E
  go_enter Tryz.func84, Tryz.ntmps84
  go_wp2_with fail
  go_ret
  exact ⟨by first | rfl | exact ret_bool (decide_eq_true (by omega)) | exact ret_bool (decide_eq_false (by omega)) | (exact ret_bool (by simp; omega)), (Below.refl _ _).alloc (Nat.le_refl _) _⟩

set_option maxHeartbeats 3200000 in
theorem mfair_any (m : Mk) (ho : m.ok) (w : World) : Calls Tryz.prog 81 #[mkV m] w fun e w' => e = .returned (.bool (mkB m)) ∧ Below w.heap.size w w' := by
  obtain ⟨i, a, b⟩ := m
  show Calls Tryz.prog 81 #[.agg #[.int .u64 i, .int .i64 a, .int .u64 b]] w _
  by_cases c1 : 1 ≤ i
  rotate_left
  · have E : mkB ⟨i, a, b⟩ = false := decide_eq_false fun h => c1 (by obtain ⟨q0, q1, q2, q3⟩ := h; exact q0)
    rw [E]
    clear E
    go_enter Tryz.func81, Tryz.ntmps81
    go_wp2_with fail
    go_ret
    exact ⟨by first | rfl | exact ret_bool (decide_eq_true (by omega)) | exact ret_bool (decide_eq_false (by omega)) | (exact ret_bool (by simp; omega)), (Below.refl _ _).alloc (Nat.le_refl _) _⟩
  by_cases c2 : 0 ≤ a
  rotate_left
  · have E : mkB ⟨i, a, b⟩ = false := decide_eq_false fun h => c2 (by obtain ⟨q0, q1, q2, q3⟩ := h; exact q1)
    rw [E]
    clear E
    go_enter Tryz.func81, Tryz.ntmps81
    go_wp2_with fail
    go_ret
    exact ⟨by first | rfl | exact ret_bool (decide_eq_true (by omega)) | exact ret_bool (decide_eq_false (by omega)) | (exact ret_bool (by simp; omega)), (Below.refl _ _).alloc (Nat.le_refl _) _⟩
  by_cases c3 : a ≤ 1099511627776
  rotate_left
  · have E : mkB ⟨i, a, b⟩ = false := decide_eq_false fun h => c3 (by obtain ⟨q0, q1, q2, q3⟩ := h; exact q2)
    rw [E]
    clear E
    go_enter Tryz.func81, Tryz.ntmps81
    go_wp2_with fail
    go_ret
    exact ⟨by first | rfl | exact ret_bool (decide_eq_true (by omega)) | exact ret_bool (decide_eq_false (by omega)) | (exact ret_bool (by simp; omega)), (Below.refl _ _).alloc (Nat.le_refl _) _⟩
  by_cases c4 : b ≠ i
  rotate_left
  · have E : mkB ⟨i, a, b⟩ = false := decide_eq_false fun h => c4 (by obtain ⟨q0, q1, q2, q3⟩ := h; exact q3)
    rw [E]
    clear E
    obtain rfl : b = i := by omega
    go_enter Tryz.func81, Tryz.ntmps81
    go_wp2_with fail
    go_ret
    exact ⟨by first | rfl | exact ret_bool (decide_eq_true (by omega)) | exact ret_bool (decide_eq_false (by omega)) | (exact ret_bool (by simp; omega)), (Below.refl _ _).alloc (Nat.le_refl _) _⟩
  have E : mkB ⟨i, a, b⟩ = true := decide_eq_true ⟨c1, c2, c3, c4⟩
  rw [E]
  clear E
  have hbi : (b == i) = false := by simpa using c4
  go_enter Tryz.func81, Tryz.ntmps81
  go_wp2_with fail
  go_ret
  exact ⟨by first | rfl | exact ret_bool (decide_eq_true (by omega)) | exact ret_bool (decide_eq_false (by omega)) | (exact ret_bool (by simp; omega)), (Below.refl _ _).alloc (Nat.le_refl _) _⟩

set_option maxHeartbeats 3200000 in
theorem MFair_any (m : Mk) (ho : m.ok) (w : World) : Calls Tryz.prog 85 #[mkV m] w fun e w' => e = .returned (.bool (mkB m)) ∧ Below w.heap.size w w' := by
  obtain ⟨i, a, b⟩ := m
  show Calls Tryz.prog 85 #[.agg #[.int .u64 i, .int .i64 a, .int .u64 b]] w _
  by_cases c1 : 0 < i
  rotate_left
  · have E : mkB ⟨i, a, b⟩ = false := decide_eq_false fun h => c1 (by obtain ⟨q0, q1, q2, q3⟩ := h; exact q0)
    rw [E]
    clear E
    go_enter Tryz.func85, Tryz.ntmps85
    go_wp2_with fail
    go_ret
    exact ⟨by first | rfl | exact ret_bool (decide_eq_true (by omega)) | exact ret_bool (decide_eq_false (by omega)) | (exact ret_bool (by simp; omega)), (Below.refl _ _).alloc (Nat.le_refl _) _⟩
  by_cases c2 : 0 ≤ a
  rotate_left
  · have E : mkB ⟨i, a, b⟩ = false := decide_eq_false fun h => c2 (by obtain ⟨q0, q1, q2, q3⟩ := h; exact q1)
    rw [E]
    clear E
    go_enter Tryz.func85, Tryz.ntmps85
    go_wp2_with fail
    go_ret
    exact ⟨by first | rfl | exact ret_bool (decide_eq_true (by omega)) | exact ret_bool (decide_eq_false (by omega)) | (exact ret_bool (by simp; omega)), (Below.refl _ _).alloc (Nat.le_refl _) _⟩
  by_cases c3 : a ≤ 1099511627776
  rotate_left
  · have E : mkB ⟨i, a, b⟩ = false := decide_eq_false fun h => c3 (by obtain ⟨q0, q1, q2, q3⟩ := h; exact q2)
    rw [E]
    clear E
    go_enter Tryz.func85, Tryz.ntmps85
    go_wp2_with fail
    go_ret
    exact ⟨by first | rfl | exact ret_bool (decide_eq_true (by omega)) | exact ret_bool (decide_eq_false (by omega)) | (exact ret_bool (by simp; omega)), (Below.refl _ _).alloc (Nat.le_refl _) _⟩
  by_cases c4 : b ≠ i
  rotate_left
  · have E : mkB ⟨i, a, b⟩ = false := decide_eq_false fun h => c4 (by obtain ⟨q0, q1, q2, q3⟩ := h; exact q3)
    rw [E]
    clear E
    obtain rfl : b = i := by omega
    go_enter Tryz.func85, Tryz.ntmps85
    go_wp2_with fail
    go_ret
    exact ⟨by first | rfl | exact ret_bool (decide_eq_true (by omega)) | exact ret_bool (decide_eq_false (by omega)) | (exact ret_bool (by simp; omega)), (Below.refl _ _).alloc (Nat.le_refl _) _⟩
  have E : mkB ⟨i, a, b⟩ = true := decide_eq_true ⟨c1, c2, c3, c4⟩
  rw [E]
  clear E
  have hbi : (b == i) = false := by simpa using c4
  go_enter Tryz.func85, Tryz.ntmps85
  go_wp2_with fail
  go_ret
  exact ⟨by first | rfl | exact ret_bool (decide_eq_true (by omega)) | exact ret_bool (decide_eq_false (by omega)) | (exact ret_bool (by simp; omega)), (Below.refl _ _).alloc (Nat.le_refl _) _⟩



def wholeB (l : List UInt8) (p : Nat) (bad : Bool) : Bool := !bad && decide (p = l.length)

theorem whole_any (g : Nat) (v : Value) (l : List UInt8) (p : Nat) (bad : Bool) (w : World) (h : WR w g v l p bad) :
    Calls Tryz.prog 79 #[.pointer (some ⟨g, 0, none⟩)] w fun e w' => e = .returned (.bool (wholeB l p bad)) ∧ Below w.heap.size w w' := by
  have hBad := bad_any g v l p bad w h
  have hle := h.le
  cases bad with
  | true =>
    simp only [if_true] at hBad
    go_enter Tryz.func79, Tryz.ntmps79
    go_wp2_with fail
    refine hBad.mono ?_
    rintro e w4 ⟨rfl, rfl⟩
    go_wp2_with fail
    go_ret
    exact ⟨ret_bool (by simp [wholeB]), Below.refl _ _⟩
  | false =>
    have hLeft := left_any g v l p false w h
    simp only [if_neg Bool.false_ne_true] at hBad
    have e : ((l.length : Int) - p == 0) = decide (p = l.length) := by
      rw [Bool.eq_iff_iff]
      simp
      omega
    clear h
    go_enter Tryz.func79, Tryz.ntmps79
    go_wp2_with fail
    refine hBad.mono ?_
    rintro e w4 ⟨rfl, rfl⟩
    go_wp2_with fail
    refine hLeft.mono ?_
    rintro e w4 ⟨rfl, m, rfl⟩
    go_wp2_with fail
    go_ret
    exact ⟨ret_bool (by simp [wholeB]), below_drewN (Below.refl _ _) _⟩

def rdS (l : List UInt8) (s : Nat × Bool) (k : Int) : Nat × Bool := (wNext l s.1 s.2 k, !wordOk l s.1 s.2 k)

theorem rdS_bad (l : List UInt8) (p : Nat) (k : Int) : rdS l (p, true) k = (p, true) := by simp [rdS, wNext, wordOk]

theorem rdS_yes (l : List UInt8) (p : Nat) (k : Int) (hk : isW k = true) (h : p + k.toNat ≤ l.length) (h0 : 0 ≤ k) : rdS l (p, false) k = (p + k.toNat, false) := by
  have : wordOk l p false k = true := by simp [wordOk, hk]; omega
  simp [rdS, wNext, this]

theorem rdS_no (l : List UInt8) (p : Nat) (k : Int) (h : (l.length : Int) < p + k) : rdS l (p, false) k = (p, true) := by
  have : wordOk l p false k = false := by simp [wordOk]; omega
  simp [rdS, wNext, this]

theorem rdS_whole (l : List UInt8) : ∀ (ks : List Int) (p : Nat), p ≤ l.length → (∀ k ∈ ks, isW k = true) → wholeB l (ks.foldl (rdS l) (p, false)).1 (ks.foldl (rdS l) (p, false)).2 = decide (p + (ks.map (·.toNat)).sum = l.length)
  | [], p, _, _ => by
    show (!false && decide (p = l.length)) = decide (p + 0 = l.length)
    rfl
  | k :: ks, p, hp, h => by
    have hk := h k (by simp)
    have h0 : 0 ≤ k := by rcases isW_cases hk with rfl | rfl | rfl | rfl <;> omega
    rw [List.foldl_cons]
    by_cases hl : p + k.toNat ≤ l.length
    · rw [rdS_yes l p k hk hl h0, rdS_whole l ks (p + k.toNat) hl fun k' hk' => h k' (by simp [hk'])]
      simp [Nat.add_assoc]
    · rw [rdS_no l p k (by omega)]
      have hb : ∀ (ks : List Int), ks.foldl (rdS l) (p, true) = (p, true) := by
        intro ks
        induction ks with
        | nil => rfl
        | cons k ks ih => rw [List.foldl_cons, rdS_bad, ih]
      rw [hb]
      have : ¬ p + ((k :: ks).map (·.toNat)).sum = l.length := by simp; omega
      simp only [wholeB, Bool.not_true, Bool.false_and, this, decide_false]

theorem setall6 {w : World} (g : Nat) {t : TypeId} {a0 a1 a2 a3 a4 a5 : Value} (h : Blk w g t #[a0, a1, a2, a3, a4, a5]) (b0 b1 b2 b3 b4 b5 : Value) :
    Blk ((((((w.setCell ⟨g, 0, none⟩ b0).setCell ⟨g, 1, none⟩ b1).setCell ⟨g, 2, none⟩ b2).setCell ⟨g, 3, none⟩ b3).setCell ⟨g, 4, none⟩ b4).setCell ⟨g, 5, none⟩ b5) g t #[b0, b1, b2, b3, b4, b5] := by
  have := (((((h.set_ 0 b0).set_ 1 b1).set_ 2 b2).set_ 3 b3).set_ 4 b4).set_ 5 b5
  simpa using this

theorem setall3 {w : World} (g : Nat) {t : TypeId} {a0 a1 a2 : Value} (h : Blk w g t #[a0, a1, a2]) (b0 b1 b2 : Value) :
    Blk (((w.setCell ⟨g, 0, none⟩ b0).setCell ⟨g, 1, none⟩ b1).setCell ⟨g, 2, none⟩ b2) g t #[b0, b1, b2] := by
  have := ((h.set_ 0 b0).set_ 1 b1).set_ 2 b2
  simpa using this

theorem gset3 (w : World) (g : Nat) (b0 b1 b2 : Value) : w.grownBy (((w.setCell ⟨g, 0, none⟩ b0).setCell ⟨g, 1, none⟩ b1).setCell ⟨g, 2, none⟩ b2) (some g) :=
  grown_trans (grown_trans (grown_set _ _ _ _) (grown_set _ _ _ _)) (grown_set _ _ _ _)

theorem gset6 (w : World) (g : Nat) (b0 b1 b2 b3 b4 b5 : Value) : w.grownBy ((((((w.setCell ⟨g, 0, none⟩ b0).setCell ⟨g, 1, none⟩ b1).setCell ⟨g, 2, none⟩ b2).setCell ⟨g, 3, none⟩ b3).setCell ⟨g, 4, none⟩ b4).setCell ⟨g, 5, none⟩ b5) (some g) :=
  grown_trans (gset3 w g b0 b1 b2) (grown_trans (grown_trans (grown_set _ _ _ _) (grown_set _ _ _ _)) (grown_set _ _ _ _))

theorem wrap64_range (n : Int) : -9223372036854775808 ≤ wrap64 n ∧ wrap64 n ≤ 9223372036854775807 := by
  unfold wrap64
  omega

theorem okMe (n0 n1 n2 n3 n4 n5 : Nat) (h0 : n0 < 18446744073709551616) (h3 : n3 < 256) (h4 : n4 < 65536) (h5 : n5 < 4294967296) : Me.ok ⟨(n0 : Int), (n3 : Int), wrap64 (n1 : Int), wrap64 (n2 : Int), (n4 : Int), (n5 : Int)⟩ := by
  have h1 := wrap64_range n1
  have h2 := wrap64_range n2
  constructor <;> (simp only; omega)

theorem okMk (n0 n1 n2 : Nat) (h0 : n0 < 18446744073709551616) (h2 : n2 < 18446744073709551616) : Mk.ok ⟨(n0 : Int), wrap64 (n1 : Int), (n2 : Int)⟩ := by
  have h1 := wrap64_range n1
  constructor <;> (simp only; omega)

theorem mget_short {x : List UInt8} {v : Value} (w : World) (hv : Bs w v x) (hl : x.length < 4) :
    Calls Tryz.prog 58 #[v] w fun e w' => e = .returned (.tuple #[meV Me.zero, code 2]) ∧ Below w.heap.size w w' := by
  have hb0 : Below w.heap.size w (w.alloc (.cells #[.int .u64 0, .int .i64 0, .int .i64 0, .int .i64 0, .int .i64 0, .int .i64 0] 85)) := (Below.refl _ _).alloc (Nat.le_refl _) _
  have hm0 := Blk.new w 85 #[.int .u64 0, .int .i64 0, .int .i64 0, .int .i64 0, .int .i64 0, .int .i64 0]
  go_enter Tryz.func58, Tryz.ntmps58
  go_wp2_with fail
  refine (open_short x v _ hl (hv.alloc _)).mono ?_
  rintro e w1 ⟨rfl, rfl⟩
  go_wp2_with fail
  refine bodyPost_ret (v := .tuple #[.agg #[.int .u64 0, .int .i64 0, .int .i64 0, .int .i64 0, .int .i64 0, .int .i64 0], code 2]) (by have c := hm0.cell; simp [results, go_sem, c]; try rfl) rfl ?_
  exact ⟨rfl, hb0⟩

set_option maxHeartbeats 800000 in
theorem mget_sum {x : List UInt8} {v : Value} (w : World) (hv : Bs w v x) (h4 : 4 ≤ x.length) (hl : x.length ≤ 140737488355320) (hs : tailOf x ≠ crcOf (bodyOf x)) :
    Calls Tryz.prog 58 #[v] w fun e w' => e = .returned (.tuple #[meV Me.zero, code 7]) ∧ Below w.heap.size w w' := by
  have hb0 : Below w.heap.size w (w.alloc (.cells #[.int .u64 0, .int .i64 0, .int .i64 0, .int .i64 0, .int .i64 0, .int .i64 0] 85)) := (Below.refl _ _).alloc (Nat.le_refl _) _
  have hm0 := Blk.new w 85 #[.int .u64 0, .int .i64 0, .int .i64 0, .int .i64 0, .int .i64 0, .int .i64 0]
  have HS := Lib.hid hs
  have hO := open_long x v (w.alloc (.cells #[.int .u64 0, .int .i64 0, .int .i64 0, .int .i64 0, .int .i64 0, .int .i64 0] 85)) h4 (by omega) (hv.alloc _)
  have HM := Lib.hid hm0
  have HB := Lib.hid hb0
  clear hs hl h4 hm0 hb0
  go_enter Tryz.func58, Tryz.ntmps58
  go_wp2_with fail
  refine hO.mono ?_
  rintro e w1 ⟨y, f, rfl, hOp, hb1⟩
  obtain ⟨rfl, rfl⟩ := hOp.no HS.out
  have hm1 := HM.out.below hb1 (by simp)
  have HB1 := Lib.hid (HB.out.trans (hb1.mono (by simp)))
  have hfz := fun j => hm1.frozen j
  have k0 := hm1.cell 0
  have k1 := hm1.cell 1
  have k2 := hm1.cell 2
  have k3 := hm1.cell 3
  have k4 := hm1.cell 4
  have k5 := hm1.cell 5
  clear hO hOp hb1 HB
  go_wp2_with fail
  have hm2 := setall6 w.heap.size hm1 (.int .u64 0) (.int .i64 0) (.int .i64 0) (.int .i64 0) (.int .i64 0) (.int .i64 0)
  have hg2 : w1.grownBy ((((((w1.setCell ⟨w.heap.size, 0, none⟩ (.int .u64 0)).setCell ⟨w.heap.size, 1, none⟩ (.int .i64 0)).setCell ⟨w.heap.size, 2, none⟩ (.int .i64 0)).setCell ⟨w.heap.size, 3, none⟩ (.int .i64 0)).setCell ⟨w.heap.size, 4, none⟩ (.int .i64 0)).setCell ⟨w.heap.size, 5, none⟩ (.int .i64 0)) (some w.heap.size) := gset6 _ _ _ _ _ _ _ _
  refine bodyPost_ret (v := .tuple #[.agg #[.int .u64 0, .int .i64 0, .int .i64 0, .int .i64 0, .int .i64 0, .int .i64 0], code 7]) (by have c := hm2.cell; simp [results, go_sem, c]; try rfl) rfl ?_
  exact ⟨rfl, HB1.out.grown hg2 HB1.out.size (by intro z hz; injection hz with hz; omega)⟩

set_option maxHeartbeats 3200000 in
theorem mget_len {x : List UInt8} {v : Value} (w : World) (hv : Bs w v x) (h4 : 4 ≤ x.length) (hl : x.length ≤ 140737488355320) (hs : tailOf x = crcOf (bodyOf x)) (h31 : (bodyOf x).length ≠ 31) :
    Calls Tryz.prog 58 #[v] w fun e w' => e = .returned (.tuple #[meV Me.zero, code 2]) ∧ Below w.heap.size w w' := by
  have hb0 : Below w.heap.size w (w.alloc (.cells #[.int .u64 0, .int .i64 0, .int .i64 0, .int .i64 0, .int .i64 0, .int .i64 0] 85)) := (Below.refl _ _).alloc (Nat.le_refl _) _
  have hm0 := Blk.new w 85 #[.int .u64 0, .int .i64 0, .int .i64 0, .int .i64 0, .int .i64 0, .int .i64 0]
  have HS := Lib.hid hs
  have hO := open_long x v (w.alloc (.cells #[.int .u64 0, .int .i64 0, .int .i64 0, .int .i64 0, .int .i64 0, .int .i64 0] 85)) h4 (by omega) (hv.alloc _)
  have HM := Lib.hid hm0
  have HB := Lib.hid hb0
  have H31 := Lib.hid h31
  clear hs hl h4 hm0 hb0 h31
  go_enter Tryz.func58, Tryz.ntmps58
  go_wp2_with fail
  refine hO.mono ?_
  rintro e w1 ⟨y, f, rfl, hOp, hb1⟩
  obtain ⟨rfl, hoy⟩ := hOp.yes HS.out
  have HM1 := Lib.hid (HM.out.below hb1 (by simp))
  have HB1 := Lib.hid (HB.out.trans (hb1.mono (by simp)))
  have HOY := Lib.hid hoy.bs
  have HG : Hid (w.heap.size < w1.heap.size) := Lib.hid HM1.out.lt
  clear hO hOp hb1 hoy HB HM HS
  generalize hbx : bodyOf x = b at *
  have HBX := Lib.hid hbx
  clear hbx
  go_wp2_with fail
  refine (read_any y b w1 HOY.out).mono ?_
  rintro e w2 ⟨rfl, hR2, hb2⟩
  have HR2 : Hid (WR w2 w1.heap.size y b 0 false) := Lib.hid hR2
  have HM2 := Lib.hid (HM1.out.below hb2 HM1.out.lt)
  have HB2 := Lib.hid (HB1.out.trans (hb2.mono HB1.out.size))
  have HG2 : Hid (w1.heap.size < w2.heap.size) := Lib.hid hR2.blk.lt
  have HE : Hid (w.heap.size ≤ w1.heap.size) := Lib.hid HB1.out.size
  clear hR2 hb2 HM1 HB1 HOY
  have HW : Hid (wholeB b ((([8, 8, 8, 1, 2, 4] : List Int).foldl (rdS b) (0, false)).1) ((([8, 8, 8, 1, 2, 4] : List Int).foldl (rdS b) (0, false)).2) = false) := Lib.hid (by
    rw [rdS_whole b _ 0 (Nat.zero_le _) (by decide)]
    exact decide_eq_false fun h => H31.out (by simpa using h.symm))
  simp only [List.foldl_cons, List.foldl_nil] at HW
  obtain ⟨s0, hs0⟩ : ∃ s : Nat × Bool, s = (0, false) := ⟨_, rfl⟩
  rw [← hs0] at HW
  have HR2 : Hid (WR w2 w1.heap.size y b s0.1 s0.2) := Lib.hid (by rw [hs0]; exact HR2.out)
  clear hs0
  have hC := word_all _ y b s0.1 s0.2 8 _ HR2.out
  obtain ⟨s1, hs⟩ : ∃ s : Nat × Bool, s = rdS b s0 8 := ⟨_, rfl⟩
  rw [← hs] at HW
  have HSS := Lib.hid hs
  clear hs
  generalize wOut b s0.1 s0.2 8 = n0 at hC
  go_wp2_with fail
  refine hC.mono ?_
  rintro e w3 ⟨rfl, hR, hg⟩
  have HR3 : Hid (WR w3 w1.heap.size y b s1.1 s1.2) := Lib.hid (by rw [HSS.out]; exact hR)
  have HM3 := Lib.hid (HM2.out.grown hg (fun h => by injection h with h; have := HG.out; omega))
  have HB3 := Lib.hid (HB2.out.grown hg HB2.out.size (by intro z hz; injection hz with hz; have := HE.out; omega))
  clear hR hg hC HM2 HB2 HR2 HSS
  have hC := word_all _ y b s1.1 s1.2 8 _ HR3.out
  obtain ⟨s2, hs⟩ : ∃ s : Nat × Bool, s = rdS b s1 8 := ⟨_, rfl⟩
  rw [← hs] at HW
  have HSS := Lib.hid hs
  clear hs
  generalize wOut b s1.1 s1.2 8 = n1 at hC
  go_wp2_with fail
  refine hC.mono ?_
  rintro e w4 ⟨rfl, hR, hg⟩
  have HR4 : Hid (WR w4 w1.heap.size y b s2.1 s2.2) := Lib.hid (by rw [HSS.out]; exact hR)
  have HM4 := Lib.hid (HM3.out.grown hg (fun h => by injection h with h; have := HG.out; omega))
  have HB4 := Lib.hid (HB3.out.grown hg HB3.out.size (by intro z hz; injection hz with hz; have := HE.out; omega))
  clear hR hg hC HM3 HB3 HR3 HSS
  have hC := word_all _ y b s2.1 s2.2 8 _ HR4.out
  obtain ⟨s3, hs⟩ : ∃ s : Nat × Bool, s = rdS b s2 8 := ⟨_, rfl⟩
  rw [← hs] at HW
  have HSS := Lib.hid hs
  clear hs
  generalize wOut b s2.1 s2.2 8 = n2 at hC
  go_wp2_with fail
  refine hC.mono ?_
  rintro e w5 ⟨rfl, hR, hg⟩
  have HR5 : Hid (WR w5 w1.heap.size y b s3.1 s3.2) := Lib.hid (by rw [HSS.out]; exact hR)
  have HM5 := Lib.hid (HM4.out.grown hg (fun h => by injection h with h; have := HG.out; omega))
  have HB5 := Lib.hid (HB4.out.grown hg HB4.out.size (by intro z hz; injection hz with hz; have := HE.out; omega))
  clear hR hg hC HM4 HB4 HR4 HSS
  have hC := word_all _ y b s3.1 s3.2 1 _ HR5.out
  obtain ⟨s4, hs⟩ : ∃ s : Nat × Bool, s = rdS b s3 1 := ⟨_, rfl⟩
  rw [← hs] at HW
  have HSS := Lib.hid hs
  clear hs
  generalize wOut b s3.1 s3.2 1 = n3 at hC
  go_wp2_with fail
  refine hC.mono ?_
  rintro e w6 ⟨rfl, hR, hg⟩
  have HR6 : Hid (WR w6 w1.heap.size y b s4.1 s4.2) := Lib.hid (by rw [HSS.out]; exact hR)
  have HM6 := Lib.hid (HM5.out.grown hg (fun h => by injection h with h; have := HG.out; omega))
  have HB6 := Lib.hid (HB5.out.grown hg HB5.out.size (by intro z hz; injection hz with hz; have := HE.out; omega))
  clear hR hg hC HM5 HB5 HR5 HSS
  have hC := word_all _ y b s4.1 s4.2 2 _ HR6.out
  obtain ⟨s5, hs⟩ : ∃ s : Nat × Bool, s = rdS b s4 2 := ⟨_, rfl⟩
  rw [← hs] at HW
  have HSS := Lib.hid hs
  clear hs
  generalize wOut b s4.1 s4.2 2 = n4 at hC
  go_wp2_with fail
  refine hC.mono ?_
  rintro e w7 ⟨rfl, hR, hg⟩
  have HR7 : Hid (WR w7 w1.heap.size y b s5.1 s5.2) := Lib.hid (by rw [HSS.out]; exact hR)
  have HM7 := Lib.hid (HM6.out.grown hg (fun h => by injection h with h; have := HG.out; omega))
  have HB7 := Lib.hid (HB6.out.grown hg HB6.out.size (by intro z hz; injection hz with hz; have := HE.out; omega))
  clear hR hg hC HM6 HB6 HR6 HSS
  have hC := word_all _ y b s5.1 s5.2 4 _ HR7.out
  obtain ⟨s6, hs⟩ : ∃ s : Nat × Bool, s = rdS b s5 4 := ⟨_, rfl⟩
  rw [← hs] at HW
  have HSS := Lib.hid hs
  clear hs
  generalize wOut b s5.1 s5.2 4 = n5 at hC
  go_wp2_with fail
  refine hC.mono ?_
  rintro e w8 ⟨rfl, hR, hg⟩
  have HR8 : Hid (WR w8 w1.heap.size y b s6.1 s6.2) := Lib.hid (by rw [HSS.out]; exact hR)
  have HM8 := Lib.hid (HM7.out.grown hg (fun h => by injection h with h; have := HG.out; omega))
  have HB8 := Lib.hid (HB7.out.grown hg HB7.out.size (by intro z hz; injection hz with hz; have := HE.out; omega))
  clear hR hg hC HM7 HB7 HR7 HSS
  go_wp2_with fail
  refine (whole_any _ y b s6.1 s6.2 _ (HR8.out.alloc _)).mono ?_
  rintro e w9 ⟨rfl, hb9⟩
  have HB9' := HB8.out.alloc HB8.out.size (.cells #[.int .u64 (n0 : Int), .int .i64 (wrap64 (n3 : Int)), .int .i64 (wrap64 (n1 : Int)), .int .i64 (wrap64 (n2 : Int)), .int .i64 (wrap64 (n4 : Int)), .int .i64 (wrap64 (n5 : Int))] 85)
  have HM9 := Lib.hid ((HM8.out.alloc (.cells #[.int .u64 (n0 : Int), .int .i64 (wrap64 (n3 : Int)), .int .i64 (wrap64 (n1 : Int)), .int .i64 (wrap64 (n2 : Int)), .int .i64 (wrap64 (n4 : Int)), .int .i64 (wrap64 (n5 : Int))] 85)).below hb9 (HM8.out.alloc _).lt)
  have HK9 := Lib.hid ((Blk.new w8 85 #[.int .u64 (n0 : Int), .int .i64 (wrap64 (n3 : Int)), .int .i64 (wrap64 (n1 : Int)), .int .i64 (wrap64 (n2 : Int)), .int .i64 (wrap64 (n4 : Int)), .int .i64 (wrap64 (n5 : Int))]).below hb9 (by simp))
  have HB9 := Lib.hid (HB9'.trans (hb9.mono HB9'.size))
  clear hb9 HB9' HM8 HB8 HR8
  rw [HW.out]
  have hfz := fun j => HM9.out.frozen j
  have k0 := HM9.out.cell 0
  have k1 := HM9.out.cell 1
  have k2 := HM9.out.cell 2
  have k3 := HM9.out.cell 3
  have k4 := HM9.out.cell 4
  have k5 := HM9.out.cell 5
  go_wp2_with fail
  have hm2 := setall6 w.heap.size HM9.out (.int .u64 0) (.int .i64 0) (.int .i64 0) (.int .i64 0) (.int .i64 0) (.int .i64 0)
  have hg2 : w9.grownBy ((((((w9.setCell ⟨w.heap.size, 0, none⟩ (.int .u64 0)).setCell ⟨w.heap.size, 1, none⟩ (.int .i64 0)).setCell ⟨w.heap.size, 2, none⟩ (.int .i64 0)).setCell ⟨w.heap.size, 3, none⟩ (.int .i64 0)).setCell ⟨w.heap.size, 4, none⟩ (.int .i64 0)).setCell ⟨w.heap.size, 5, none⟩ (.int .i64 0)) (some w.heap.size) := gset6 _ _ _ _ _ _ _ _
  refine bodyPost_ret (v := .tuple #[.agg #[.int .u64 0, .int .i64 0, .int .i64 0, .int .i64 0, .int .i64 0, .int .i64 0], code 2]) (by have c := hm2.cell; simp [results, go_sem, c]; try rfl) rfl ?_
  exact ⟨rfl, HB9.out.grown hg2 HB9.out.size (by intro z hz; injection hz with hz; omega)⟩

set_option maxHeartbeats 3200000 in
theorem mget_may {x : List UInt8} {v : Value} (w : World) (hv : Bs w v x) (h4 : 4 ≤ x.length) (hl : x.length ≤ 140737488355320) (hs : tailOf x = crcOf (bodyOf x)) (h31 : (bodyOf x).length = 31) (hmay : meB (meAt (bodyOf x)) = true) :
    Calls Tryz.prog 58 #[v] w fun e w' => e = .returned (.tuple #[meV (meAt (bodyOf x)), .nilIface]) ∧ Below w.heap.size w w' := by
  have hb0 : Below w.heap.size w (w.alloc (.cells #[.int .u64 0, .int .i64 0, .int .i64 0, .int .i64 0, .int .i64 0, .int .i64 0] 85)) := (Below.refl _ _).alloc (Nat.le_refl _) _
  have hm0 := Blk.new w 85 #[.int .u64 0, .int .i64 0, .int .i64 0, .int .i64 0, .int .i64 0, .int .i64 0]
  have HS := Lib.hid hs
  have hO := open_long x v (w.alloc (.cells #[.int .u64 0, .int .i64 0, .int .i64 0, .int .i64 0, .int .i64 0, .int .i64 0] 85)) h4 (by omega) (hv.alloc _)
  have HM := Lib.hid hm0
  have HB := Lib.hid hb0
  have H31 := Lib.hid h31
  have HMAY := Lib.hid hmay
  clear hmay
  clear hs hl h4 hm0 hb0 h31
  go_enter Tryz.func58, Tryz.ntmps58
  go_wp2_with fail
  refine hO.mono ?_
  rintro e w1 ⟨y, f, rfl, hOp, hb1⟩
  obtain ⟨rfl, hoy⟩ := hOp.yes HS.out
  have HM1 := Lib.hid (HM.out.below hb1 (by simp))
  have HB1 := Lib.hid (HB.out.trans (hb1.mono (by simp)))
  have HOY := Lib.hid hoy.bs
  have HG : Hid (w.heap.size < w1.heap.size) := Lib.hid HM1.out.lt
  clear hO hOp hb1 hoy HB HM HS
  generalize hbx : bodyOf x = b at *
  have HBX := Lib.hid hbx
  clear hbx
  go_wp2_with fail
  refine (read_any y b w1 HOY.out).mono ?_
  rintro e w2 ⟨rfl, hR2, hb2⟩
  have HR2 : Hid (WR w2 w1.heap.size y b 0 false) := Lib.hid hR2
  have HM2 := Lib.hid (HM1.out.below hb2 HM1.out.lt)
  have HB2 := Lib.hid (HB1.out.trans (hb2.mono HB1.out.size))
  have HG2 : Hid (w1.heap.size < w2.heap.size) := Lib.hid hR2.blk.lt
  have HE : Hid (w.heap.size ≤ w1.heap.size) := Lib.hid HB1.out.size
  clear hR2 hb2 HM1 HB1 HOY
  have hC := word_yes _ y b 0 false 8 _ HR2.out (by simp [wordOk, isW]; have := H31.out; omega)
  rw [show Int.toNat 8 = 8 from rfl, show 0 + 8 = 8 from rfl] at hC
  obtain ⟨n0, hn⟩ : ∃ n : Nat, n = num ((b.drop 0).take 8) := ⟨_, rfl⟩
  rw [← hn] at hC
  have HN0 := Lib.hid hn
  clear hn
  go_wp2_with fail
  refine hC.mono ?_
  rintro e w3 ⟨rfl, hR, hg⟩
  have HR3 : Hid (WR w3 w1.heap.size y b 8 false) := Lib.hid hR
  have HM3 := Lib.hid (HM2.out.grown hg (fun h => by injection h with h; have := HG.out; omega))
  have HB3 := Lib.hid (HB2.out.grown hg HB2.out.size (by intro z hz; injection hz with hz; have := HE.out; omega))
  clear hR hg hC HM2 HB2 HR2
  have hC := word_yes _ y b 8 false 8 _ HR3.out (by simp [wordOk, isW]; have := H31.out; omega)
  rw [show Int.toNat 8 = 8 from rfl, show 8 + 8 = 16 from rfl] at hC
  obtain ⟨n1, hn⟩ : ∃ n : Nat, n = num ((b.drop 8).take 8) := ⟨_, rfl⟩
  rw [← hn] at hC
  have HN1 := Lib.hid hn
  clear hn
  go_wp2_with fail
  refine hC.mono ?_
  rintro e w4 ⟨rfl, hR, hg⟩
  have HR4 : Hid (WR w4 w1.heap.size y b 16 false) := Lib.hid hR
  have HM4 := Lib.hid (HM3.out.grown hg (fun h => by injection h with h; have := HG.out; omega))
  have HB4 := Lib.hid (HB3.out.grown hg HB3.out.size (by intro z hz; injection hz with hz; have := HE.out; omega))
  clear hR hg hC HM3 HB3 HR3
  have hC := word_yes _ y b 16 false 8 _ HR4.out (by simp [wordOk, isW]; have := H31.out; omega)
  rw [show Int.toNat 8 = 8 from rfl, show 16 + 8 = 24 from rfl] at hC
  obtain ⟨n2, hn⟩ : ∃ n : Nat, n = num ((b.drop 16).take 8) := ⟨_, rfl⟩
  rw [← hn] at hC
  have HN2 := Lib.hid hn
  clear hn
  go_wp2_with fail
  refine hC.mono ?_
  rintro e w5 ⟨rfl, hR, hg⟩
  have HR5 : Hid (WR w5 w1.heap.size y b 24 false) := Lib.hid hR
  have HM5 := Lib.hid (HM4.out.grown hg (fun h => by injection h with h; have := HG.out; omega))
  have HB5 := Lib.hid (HB4.out.grown hg HB4.out.size (by intro z hz; injection hz with hz; have := HE.out; omega))
  clear hR hg hC HM4 HB4 HR4
  have hC := word_yes _ y b 24 false 1 _ HR5.out (by simp [wordOk, isW]; have := H31.out; omega)
  rw [show Int.toNat 1 = 1 from rfl, show 24 + 1 = 25 from rfl] at hC
  have hn3 : num ((b.drop 24).take 1) < 256 := Nat.lt_of_lt_of_le (num_lt _) (by rw [List.length_take]; exact Nat.pow_le_pow_right (by omega) (Nat.min_le_left _ _))
  obtain ⟨n3, hn⟩ : ∃ n : Nat, n = num ((b.drop 24).take 1) := ⟨_, rfl⟩
  rw [← hn] at hC hn3
  have HN3 := Lib.hid hn
  clear hn
  go_wp2_with fail
  refine hC.mono ?_
  rintro e w6 ⟨rfl, hR, hg⟩
  have HR6 : Hid (WR w6 w1.heap.size y b 25 false) := Lib.hid hR
  have HM6 := Lib.hid (HM5.out.grown hg (fun h => by injection h with h; have := HG.out; omega))
  have HB6 := Lib.hid (HB5.out.grown hg HB5.out.size (by intro z hz; injection hz with hz; have := HE.out; omega))
  clear hR hg hC HM5 HB5 HR5
  have hC := word_yes _ y b 25 false 2 _ HR6.out (by simp [wordOk, isW]; have := H31.out; omega)
  rw [show Int.toNat 2 = 2 from rfl, show 25 + 2 = 27 from rfl] at hC
  have hn4 : num ((b.drop 25).take 2) < 65536 := Nat.lt_of_lt_of_le (num_lt _) (by rw [List.length_take]; exact Nat.pow_le_pow_right (by omega) (Nat.min_le_left _ _))
  obtain ⟨n4, hn⟩ : ∃ n : Nat, n = num ((b.drop 25).take 2) := ⟨_, rfl⟩
  rw [← hn] at hC hn4
  have HN4 := Lib.hid hn
  clear hn
  go_wp2_with fail
  refine hC.mono ?_
  rintro e w7 ⟨rfl, hR, hg⟩
  have HR7 : Hid (WR w7 w1.heap.size y b 27 false) := Lib.hid hR
  have HM7 := Lib.hid (HM6.out.grown hg (fun h => by injection h with h; have := HG.out; omega))
  have HB7 := Lib.hid (HB6.out.grown hg HB6.out.size (by intro z hz; injection hz with hz; have := HE.out; omega))
  clear hR hg hC HM6 HB6 HR6
  have hC := word_yes _ y b 27 false 4 _ HR7.out (by simp [wordOk, isW]; have := H31.out; omega)
  rw [show Int.toNat 4 = 4 from rfl, show 27 + 4 = 31 from rfl] at hC
  have hn5 : num ((b.drop 27).take 4) < 4294967296 := Nat.lt_of_lt_of_le (num_lt _) (by rw [List.length_take]; exact Nat.pow_le_pow_right (by omega) (Nat.min_le_left _ _))
  obtain ⟨n5, hn⟩ : ∃ n : Nat, n = num ((b.drop 27).take 4) := ⟨_, rfl⟩
  rw [← hn] at hC hn5
  have HN5 := Lib.hid hn
  clear hn
  go_wp2_with fail
  refine hC.mono ?_
  rintro e w8 ⟨rfl, hR, hg⟩
  have HR8 : Hid (WR w8 w1.heap.size y b 31 false) := Lib.hid hR
  have HM8 := Lib.hid (HM7.out.grown hg (fun h => by injection h with h; have := HG.out; omega))
  have HB8 := Lib.hid (HB7.out.grown hg HB7.out.size (by intro z hz; injection hz with hz; have := HE.out; omega))
  clear hR hg hC HM7 HB7 HR7
  have hw3 : wrap64 (n3 : Int) = (n3 : Int) := IntWalk.wrap64_in _ ⟨by omega, by omega⟩
  have hw4 : wrap64 (n4 : Int) = (n4 : Int) := IntWalk.wrap64_in _ ⟨by omega, by omega⟩
  have hw5 : wrap64 (n5 : Int) = (n5 : Int) := IntWalk.wrap64_in _ ⟨by omega, by omega⟩
  go_wp2_with fail
  refine (whole_any _ y b 31 false _ (HR8.out.alloc _)).mono ?_
  rintro e w9 ⟨rfl, hb9⟩
  have HB9' := HB8.out.alloc HB8.out.size (.cells #[.int .u64 (n0 : Int), .int .i64 (n3 : Int), .int .i64 (wrap64 (n1 : Int)), .int .i64 (wrap64 (n2 : Int)), .int .i64 (n4 : Int), .int .i64 (n5 : Int)] 85)
  have HM9 := Lib.hid ((HM8.out.alloc (.cells #[.int .u64 (n0 : Int), .int .i64 (n3 : Int), .int .i64 (wrap64 (n1 : Int)), .int .i64 (wrap64 (n2 : Int)), .int .i64 (n4 : Int), .int .i64 (n5 : Int)] 85)).below hb9 (HM8.out.alloc _).lt)
  have HK9 := Lib.hid ((Blk.new w8 85 #[.int .u64 (n0 : Int), .int .i64 (n3 : Int), .int .i64 (wrap64 (n1 : Int)), .int .i64 (wrap64 (n2 : Int)), .int .i64 (n4 : Int), .int .i64 (n5 : Int)]).below hb9 (by simp))
  have HB9 := Lib.hid (HB9'.trans (hb9.mono HB9'.size))
  clear hb9 HB9' HM8 HB8 HR8
  rw [show wholeB b 31 false = true by rw [wholeB, H31.out]; rfl]
  have HME : Hid (meAt b = ⟨(n0 : Int), (n3 : Int), wrap64 (n1 : Int), wrap64 (n2 : Int), (n4 : Int), (n5 : Int)⟩) := Lib.hid (by
    simp only [meAt]
    rw [HN0.out, HN1.out, HN2.out, HN3.out, HN4.out, HN5.out])
  have hMay := fun u => mmay_any ⟨(n0 : Int), (n3 : Int), wrap64 (n1 : Int), wrap64 (n2 : Int), (n4 : Int), (n5 : Int)⟩ (okMe n0 n1 n2 n3 n4 n5 (by rw [HN0.out]; exact num_lt8 _ (by simp; omega)) hn3 hn4 hn5) u
  have HV : Hid (meB ⟨(n0 : Int), (n3 : Int), wrap64 (n1 : Int), wrap64 (n2 : Int), (n4 : Int), (n5 : Int)⟩ = true) := Lib.hid (by rw [← HME.out]; exact HMAY.out)
  rw [HV.out] at hMay
  simp only [meV] at hMay
  have j0 := HK9.out.cell 0
  have j1 := HK9.out.cell 1
  have j2 := HK9.out.cell 2
  have j3 := HK9.out.cell 3
  have j4 := HK9.out.cell 4
  have j5 := HK9.out.cell 5
  go_wp2_with fail
  refine (hMay _).mono ?_
  rintro e w10 ⟨rfl, hb10⟩
  have HM10 := Lib.hid (HM9.out.below hb10 HM9.out.lt)
  have HK10 := Lib.hid (HK9.out.below hb10 HK9.out.lt)
  have HB10 := Lib.hid (HB9.out.trans (hb10.mono HB9.out.size))
  clear hb10 hMay j0 j1 j2 j3 j4 j5
  clear HM9 HK9 HB9
  have j0 := HK10.out.cell 0
  have j1 := HK10.out.cell 1
  have j2 := HK10.out.cell 2
  have j3 := HK10.out.cell 3
  have j4 := HK10.out.cell 4
  have j5 := HK10.out.cell 5
  have hfz := fun j => HM10.out.frozen j
  have k0 := HM10.out.cell 0
  have k1 := HM10.out.cell 1
  have k2 := HM10.out.cell 2
  have k3 := HM10.out.cell 3
  have k4 := HM10.out.cell 4
  have k5 := HM10.out.cell 5
  go_wp2_with fail
  have hm2 := setall6 w.heap.size HM10.out (.int .u64 (n0 : Int)) (.int .i64 (n3 : Int)) (.int .i64 (wrap64 (n1 : Int))) (.int .i64 (wrap64 (n2 : Int))) (.int .i64 (n4 : Int)) (.int .i64 (n5 : Int))
  have hg2 : w10.grownBy ((((((w10.setCell ⟨w.heap.size, 0, none⟩ (.int .u64 (n0 : Int))).setCell ⟨w.heap.size, 1, none⟩ (.int .i64 (n3 : Int))).setCell ⟨w.heap.size, 2, none⟩ (.int .i64 (wrap64 (n1 : Int)))).setCell ⟨w.heap.size, 3, none⟩ (.int .i64 (wrap64 (n2 : Int)))).setCell ⟨w.heap.size, 4, none⟩ (.int .i64 (n4 : Int))).setCell ⟨w.heap.size, 5, none⟩ (.int .i64 (n5 : Int))) (some w.heap.size) := gset6 _ _ _ _ _ _ _ _
  rw [HBX.out, HME.out]
  refine bodyPost_ret (v := .tuple #[.agg #[.int .u64 (n0 : Int), .int .i64 (n3 : Int), .int .i64 (wrap64 (n1 : Int)), .int .i64 (wrap64 (n2 : Int)), .int .i64 (n4 : Int), .int .i64 (n5 : Int)], .nilIface]) (by have c := hm2.cell; simp [results, go_sem, c]; try rfl) rfl ?_
  exact ⟨rfl, HB10.out.grown hg2 HB10.out.size (by intro z hz; injection hz with hz; omega)⟩

set_option maxHeartbeats 3200000 in
theorem mget_not {x : List UInt8} {v : Value} (w : World) (hv : Bs w v x) (h4 : 4 ≤ x.length) (hl : x.length ≤ 140737488355320) (hs : tailOf x = crcOf (bodyOf x)) (h31 : (bodyOf x).length = 31) (hmay : meB (meAt (bodyOf x)) = false) :
    Calls Tryz.prog 58 #[v] w fun e w' => e = .returned (.tuple #[meV Me.zero, code 2]) ∧ Below w.heap.size w w' := by
  have hb0 : Below w.heap.size w (w.alloc (.cells #[.int .u64 0, .int .i64 0, .int .i64 0, .int .i64 0, .int .i64 0, .int .i64 0] 85)) := (Below.refl _ _).alloc (Nat.le_refl _) _
  have hm0 := Blk.new w 85 #[.int .u64 0, .int .i64 0, .int .i64 0, .int .i64 0, .int .i64 0, .int .i64 0]
  have HS := Lib.hid hs
  have hO := open_long x v (w.alloc (.cells #[.int .u64 0, .int .i64 0, .int .i64 0, .int .i64 0, .int .i64 0, .int .i64 0] 85)) h4 (by omega) (hv.alloc _)
  have HM := Lib.hid hm0
  have HB := Lib.hid hb0
  have H31 := Lib.hid h31
  have HMAY := Lib.hid hmay
  clear hmay
  clear hs hl h4 hm0 hb0 h31
  go_enter Tryz.func58, Tryz.ntmps58
  go_wp2_with fail
  refine hO.mono ?_
  rintro e w1 ⟨y, f, rfl, hOp, hb1⟩
  obtain ⟨rfl, hoy⟩ := hOp.yes HS.out
  have HM1 := Lib.hid (HM.out.below hb1 (by simp))
  have HB1 := Lib.hid (HB.out.trans (hb1.mono (by simp)))
  have HOY := Lib.hid hoy.bs
  have HG : Hid (w.heap.size < w1.heap.size) := Lib.hid HM1.out.lt
  clear hO hOp hb1 hoy HB HM HS
  generalize hbx : bodyOf x = b at *
  have HBX := Lib.hid hbx
  clear hbx
  go_wp2_with fail
  refine (read_any y b w1 HOY.out).mono ?_
  rintro e w2 ⟨rfl, hR2, hb2⟩
  have HR2 : Hid (WR w2 w1.heap.size y b 0 false) := Lib.hid hR2
  have HM2 := Lib.hid (HM1.out.below hb2 HM1.out.lt)
  have HB2 := Lib.hid (HB1.out.trans (hb2.mono HB1.out.size))
  have HG2 : Hid (w1.heap.size < w2.heap.size) := Lib.hid hR2.blk.lt
  have HE : Hid (w.heap.size ≤ w1.heap.size) := Lib.hid HB1.out.size
  clear hR2 hb2 HM1 HB1 HOY
  have hC := word_yes _ y b 0 false 8 _ HR2.out (by simp [wordOk, isW]; have := H31.out; omega)
  rw [show Int.toNat 8 = 8 from rfl, show 0 + 8 = 8 from rfl] at hC
  obtain ⟨n0, hn⟩ : ∃ n : Nat, n = num ((b.drop 0).take 8) := ⟨_, rfl⟩
  rw [← hn] at hC
  have HN0 := Lib.hid hn
  clear hn
  go_wp2_with fail
  refine hC.mono ?_
  rintro e w3 ⟨rfl, hR, hg⟩
  have HR3 : Hid (WR w3 w1.heap.size y b 8 false) := Lib.hid hR
  have HM3 := Lib.hid (HM2.out.grown hg (fun h => by injection h with h; have := HG.out; omega))
  have HB3 := Lib.hid (HB2.out.grown hg HB2.out.size (by intro z hz; injection hz with hz; have := HE.out; omega))
  clear hR hg hC HM2 HB2 HR2
  have hC := word_yes _ y b 8 false 8 _ HR3.out (by simp [wordOk, isW]; have := H31.out; omega)
  rw [show Int.toNat 8 = 8 from rfl, show 8 + 8 = 16 from rfl] at hC
  obtain ⟨n1, hn⟩ : ∃ n : Nat, n = num ((b.drop 8).take 8) := ⟨_, rfl⟩
  rw [← hn] at hC
  have HN1 := Lib.hid hn
  clear hn
  go_wp2_with fail
  refine hC.mono ?_
  rintro e w4 ⟨rfl, hR, hg⟩
  have HR4 : Hid (WR w4 w1.heap.size y b 16 false) := Lib.hid hR
  have HM4 := Lib.hid (HM3.out.grown hg (fun h => by injection h with h; have := HG.out; omega))
  have HB4 := Lib.hid (HB3.out.grown hg HB3.out.size (by intro z hz; injection hz with hz; have := HE.out; omega))
  clear hR hg hC HM3 HB3 HR3
  have hC := word_yes _ y b 16 false 8 _ HR4.out (by simp [wordOk, isW]; have := H31.out; omega)
  rw [show Int.toNat 8 = 8 from rfl, show 16 + 8 = 24 from rfl] at hC
  obtain ⟨n2, hn⟩ : ∃ n : Nat, n = num ((b.drop 16).take 8) := ⟨_, rfl⟩
  rw [← hn] at hC
  have HN2 := Lib.hid hn
  clear hn
  go_wp2_with fail
  refine hC.mono ?_
  rintro e w5 ⟨rfl, hR, hg⟩
  have HR5 : Hid (WR w5 w1.heap.size y b 24 false) := Lib.hid hR
  have HM5 := Lib.hid (HM4.out.grown hg (fun h => by injection h with h; have := HG.out; omega))
  have HB5 := Lib.hid (HB4.out.grown hg HB4.out.size (by intro z hz; injection hz with hz; have := HE.out; omega))
  clear hR hg hC HM4 HB4 HR4
  have hC := word_yes _ y b 24 false 1 _ HR5.out (by simp [wordOk, isW]; have := H31.out; omega)
  rw [show Int.toNat 1 = 1 from rfl, show 24 + 1 = 25 from rfl] at hC
  have hn3 : num ((b.drop 24).take 1) < 256 := Nat.lt_of_lt_of_le (num_lt _) (by rw [List.length_take]; exact Nat.pow_le_pow_right (by omega) (Nat.min_le_left _ _))
  obtain ⟨n3, hn⟩ : ∃ n : Nat, n = num ((b.drop 24).take 1) := ⟨_, rfl⟩
  rw [← hn] at hC hn3
  have HN3 := Lib.hid hn
  clear hn
  go_wp2_with fail
  refine hC.mono ?_
  rintro e w6 ⟨rfl, hR, hg⟩
  have HR6 : Hid (WR w6 w1.heap.size y b 25 false) := Lib.hid hR
  have HM6 := Lib.hid (HM5.out.grown hg (fun h => by injection h with h; have := HG.out; omega))
  have HB6 := Lib.hid (HB5.out.grown hg HB5.out.size (by intro z hz; injection hz with hz; have := HE.out; omega))
  clear hR hg hC HM5 HB5 HR5
  have hC := word_yes _ y b 25 false 2 _ HR6.out (by simp [wordOk, isW]; have := H31.out; omega)
  rw [show Int.toNat 2 = 2 from rfl, show 25 + 2 = 27 from rfl] at hC
  have hn4 : num ((b.drop 25).take 2) < 65536 := Nat.lt_of_lt_of_le (num_lt _) (by rw [List.length_take]; exact Nat.pow_le_pow_right (by omega) (Nat.min_le_left _ _))
  obtain ⟨n4, hn⟩ : ∃ n : Nat, n = num ((b.drop 25).take 2) := ⟨_, rfl⟩
  rw [← hn] at hC hn4
  have HN4 := Lib.hid hn
  clear hn
  go_wp2_with fail
  refine hC.mono ?_
  rintro e w7 ⟨rfl, hR, hg⟩
  have HR7 : Hid (WR w7 w1.heap.size y b 27 false) := Lib.hid hR
  have HM7 := Lib.hid (HM6.out.grown hg (fun h => by injection h with h; have := HG.out; omega))
  have HB7 := Lib.hid (HB6.out.grown hg HB6.out.size (by intro z hz; injection hz with hz; have := HE.out; omega))
  clear hR hg hC HM6 HB6 HR6
  have hC := word_yes _ y b 27 false 4 _ HR7.out (by simp [wordOk, isW]; have := H31.out; omega)
  rw [show Int.toNat 4 = 4 from rfl, show 27 + 4 = 31 from rfl] at hC
  have hn5 : num ((b.drop 27).take 4) < 4294967296 := Nat.lt_of_lt_of_le (num_lt _) (by rw [List.length_take]; exact Nat.pow_le_pow_right (by omega) (Nat.min_le_left _ _))
  obtain ⟨n5, hn⟩ : ∃ n : Nat, n = num ((b.drop 27).take 4) := ⟨_, rfl⟩
  rw [← hn] at hC hn5
  have HN5 := Lib.hid hn
  clear hn
  go_wp2_with fail
  refine hC.mono ?_
  rintro e w8 ⟨rfl, hR, hg⟩
  have HR8 : Hid (WR w8 w1.heap.size y b 31 false) := Lib.hid hR
  have HM8 := Lib.hid (HM7.out.grown hg (fun h => by injection h with h; have := HG.out; omega))
  have HB8 := Lib.hid (HB7.out.grown hg HB7.out.size (by intro z hz; injection hz with hz; have := HE.out; omega))
  clear hR hg hC HM7 HB7 HR7
  have hw3 : wrap64 (n3 : Int) = (n3 : Int) := IntWalk.wrap64_in _ ⟨by omega, by omega⟩
  have hw4 : wrap64 (n4 : Int) = (n4 : Int) := IntWalk.wrap64_in _ ⟨by omega, by omega⟩
  have hw5 : wrap64 (n5 : Int) = (n5 : Int) := IntWalk.wrap64_in _ ⟨by omega, by omega⟩
  go_wp2_with fail
  refine (whole_any _ y b 31 false _ (HR8.out.alloc _)).mono ?_
  rintro e w9 ⟨rfl, hb9⟩
  have HB9' := HB8.out.alloc HB8.out.size (.cells #[.int .u64 (n0 : Int), .int .i64 (n3 : Int), .int .i64 (wrap64 (n1 : Int)), .int .i64 (wrap64 (n2 : Int)), .int .i64 (n4 : Int), .int .i64 (n5 : Int)] 85)
  have HM9 := Lib.hid ((HM8.out.alloc (.cells #[.int .u64 (n0 : Int), .int .i64 (n3 : Int), .int .i64 (wrap64 (n1 : Int)), .int .i64 (wrap64 (n2 : Int)), .int .i64 (n4 : Int), .int .i64 (n5 : Int)] 85)).below hb9 (HM8.out.alloc _).lt)
  have HK9 := Lib.hid ((Blk.new w8 85 #[.int .u64 (n0 : Int), .int .i64 (n3 : Int), .int .i64 (wrap64 (n1 : Int)), .int .i64 (wrap64 (n2 : Int)), .int .i64 (n4 : Int), .int .i64 (n5 : Int)]).below hb9 (by simp))
  have HB9 := Lib.hid (HB9'.trans (hb9.mono HB9'.size))
  clear hb9 HB9' HM8 HB8 HR8
  rw [show wholeB b 31 false = true by rw [wholeB, H31.out]; rfl]
  have HME : Hid (meAt b = ⟨(n0 : Int), (n3 : Int), wrap64 (n1 : Int), wrap64 (n2 : Int), (n4 : Int), (n5 : Int)⟩) := Lib.hid (by
    simp only [meAt]
    rw [HN0.out, HN1.out, HN2.out, HN3.out, HN4.out, HN5.out])
  have hMay := fun u => mmay_any ⟨(n0 : Int), (n3 : Int), wrap64 (n1 : Int), wrap64 (n2 : Int), (n4 : Int), (n5 : Int)⟩ (okMe n0 n1 n2 n3 n4 n5 (by rw [HN0.out]; exact num_lt8 _ (by simp; omega)) hn3 hn4 hn5) u
  have HV : Hid (meB ⟨(n0 : Int), (n3 : Int), wrap64 (n1 : Int), wrap64 (n2 : Int), (n4 : Int), (n5 : Int)⟩ = false) := Lib.hid (by rw [← HME.out]; exact HMAY.out)
  rw [HV.out] at hMay
  simp only [meV] at hMay
  have j0 := HK9.out.cell 0
  have j1 := HK9.out.cell 1
  have j2 := HK9.out.cell 2
  have j3 := HK9.out.cell 3
  have j4 := HK9.out.cell 4
  have j5 := HK9.out.cell 5
  go_wp2_with fail
  refine (hMay _).mono ?_
  rintro e w10 ⟨rfl, hb10⟩
  have HM10 := Lib.hid (HM9.out.below hb10 HM9.out.lt)
  have HK10 := Lib.hid (HK9.out.below hb10 HK9.out.lt)
  have HB10 := Lib.hid (HB9.out.trans (hb10.mono HB9.out.size))
  clear hb10 hMay j0 j1 j2 j3 j4 j5
  clear HM9 HK9 HB9
  have hfz := fun j => HM10.out.frozen j
  have k0 := HM10.out.cell 0
  have k1 := HM10.out.cell 1
  have k2 := HM10.out.cell 2
  have k3 := HM10.out.cell 3
  have k4 := HM10.out.cell 4
  have k5 := HM10.out.cell 5
  go_wp2_with fail
  have hm2 := setall6 w.heap.size HM10.out (.int .u64 0) (.int .i64 0) (.int .i64 0) (.int .i64 0) (.int .i64 0) (.int .i64 0)
  have hg2 : w10.grownBy ((((((w10.setCell ⟨w.heap.size, 0, none⟩ (.int .u64 0)).setCell ⟨w.heap.size, 1, none⟩ (.int .i64 0)).setCell ⟨w.heap.size, 2, none⟩ (.int .i64 0)).setCell ⟨w.heap.size, 3, none⟩ (.int .i64 0)).setCell ⟨w.heap.size, 4, none⟩ (.int .i64 0)).setCell ⟨w.heap.size, 5, none⟩ (.int .i64 0)) (some w.heap.size) := gset6 _ _ _ _ _ _ _ _
  refine bodyPost_ret (v := .tuple #[.agg #[.int .u64 0, .int .i64 0, .int .i64 0, .int .i64 0, .int .i64 0, .int .i64 0], code 2]) (by have c := hm2.cell; simp [results, go_sem, c]; try rfl) rfl ?_
  exact ⟨rfl, HB10.out.grown hg2 HB10.out.size (by intro z hz; injection hz with hz; omega)⟩

theorem mmarked_short {x : List UInt8} {v : Value} (w : World) (hv : Bs w v x) (hl : x.length < 4) :
    Calls Tryz.prog 60 #[v] w fun e w' => e = .returned (.tuple #[mkV Mk.zero, code 2]) ∧ Below w.heap.size w w' := by
  have hb0 : Below w.heap.size w (w.alloc (.cells #[.int .u64 0, .int .i64 0, .int .u64 0] 89)) := (Below.refl _ _).alloc (Nat.le_refl _) _
  have hm0 := Blk.new w 89 #[.int .u64 0, .int .i64 0, .int .u64 0]
  go_enter Tryz.func60, Tryz.ntmps60
  go_wp2_with fail
  refine (open_short x v _ hl (hv.alloc _)).mono ?_
  rintro e w1 ⟨rfl, rfl⟩
  go_wp2_with fail
  refine bodyPost_ret (v := .tuple #[.agg #[.int .u64 0, .int .i64 0, .int .u64 0], code 2]) (by have c := hm0.cell; simp [results, go_sem, c]; try rfl) rfl ?_
  exact ⟨rfl, hb0⟩

set_option maxHeartbeats 800000 in
theorem mmarked_sum {x : List UInt8} {v : Value} (w : World) (hv : Bs w v x) (h4 : 4 ≤ x.length) (hl : x.length ≤ 140737488355320) (hs : tailOf x ≠ crcOf (bodyOf x)) :
    Calls Tryz.prog 60 #[v] w fun e w' => e = .returned (.tuple #[mkV Mk.zero, code 7]) ∧ Below w.heap.size w w' := by
  have hb0 : Below w.heap.size w (w.alloc (.cells #[.int .u64 0, .int .i64 0, .int .u64 0] 89)) := (Below.refl _ _).alloc (Nat.le_refl _) _
  have hm0 := Blk.new w 89 #[.int .u64 0, .int .i64 0, .int .u64 0]
  have HS := Lib.hid hs
  have hO := open_long x v (w.alloc (.cells #[.int .u64 0, .int .i64 0, .int .u64 0] 89)) h4 (by omega) (hv.alloc _)
  have HM := Lib.hid hm0
  have HB := Lib.hid hb0
  clear hs hl h4 hm0 hb0
  go_enter Tryz.func60, Tryz.ntmps60
  go_wp2_with fail
  refine hO.mono ?_
  rintro e w1 ⟨y, f, rfl, hOp, hb1⟩
  obtain ⟨rfl, rfl⟩ := hOp.no HS.out
  have hm1 := HM.out.below hb1 (by simp)
  have HB1 := Lib.hid (HB.out.trans (hb1.mono (by simp)))
  have hfz := fun j => hm1.frozen j
  have k0 := hm1.cell 0
  have k1 := hm1.cell 1
  have k2 := hm1.cell 2
  clear hO hOp hb1 HB
  go_wp2_with fail
  have hm2 := setall3 w.heap.size hm1 (.int .u64 0) (.int .i64 0) (.int .u64 0)
  have hg2 : w1.grownBy (((w1.setCell ⟨w.heap.size, 0, none⟩ (.int .u64 0)).setCell ⟨w.heap.size, 1, none⟩ (.int .i64 0)).setCell ⟨w.heap.size, 2, none⟩ (.int .u64 0)) (some w.heap.size) := gset3 _ _ _ _ _
  refine bodyPost_ret (v := .tuple #[.agg #[.int .u64 0, .int .i64 0, .int .u64 0], code 7]) (by have c := hm2.cell; simp [results, go_sem, c]; try rfl) rfl ?_
  exact ⟨rfl, HB1.out.grown hg2 HB1.out.size (by intro z hz; injection hz with hz; omega)⟩

set_option maxHeartbeats 3200000 in
theorem mmarked_len {x : List UInt8} {v : Value} (w : World) (hv : Bs w v x) (h4 : 4 ≤ x.length) (hl : x.length ≤ 140737488355320) (hs : tailOf x = crcOf (bodyOf x)) (h31 : (bodyOf x).length ≠ 24) :
    Calls Tryz.prog 60 #[v] w fun e w' => e = .returned (.tuple #[mkV Mk.zero, code 2]) ∧ Below w.heap.size w w' := by
  have hb0 : Below w.heap.size w (w.alloc (.cells #[.int .u64 0, .int .i64 0, .int .u64 0] 89)) := (Below.refl _ _).alloc (Nat.le_refl _) _
  have hm0 := Blk.new w 89 #[.int .u64 0, .int .i64 0, .int .u64 0]
  have HS := Lib.hid hs
  have hO := open_long x v (w.alloc (.cells #[.int .u64 0, .int .i64 0, .int .u64 0] 89)) h4 (by omega) (hv.alloc _)
  have HM := Lib.hid hm0
  have HB := Lib.hid hb0
  have H31 := Lib.hid h31
  clear hs hl h4 hm0 hb0 h31
  go_enter Tryz.func60, Tryz.ntmps60
  go_wp2_with fail
  refine hO.mono ?_
  rintro e w1 ⟨y, f, rfl, hOp, hb1⟩
  obtain ⟨rfl, hoy⟩ := hOp.yes HS.out
  have HM1 := Lib.hid (HM.out.below hb1 (by simp))
  have HB1 := Lib.hid (HB.out.trans (hb1.mono (by simp)))
  have HOY := Lib.hid hoy.bs
  have HG : Hid (w.heap.size < w1.heap.size) := Lib.hid HM1.out.lt
  clear hO hOp hb1 hoy HB HM HS
  generalize hbx : bodyOf x = b at *
  have HBX := Lib.hid hbx
  clear hbx
  go_wp2_with fail
  refine (read_any y b w1 HOY.out).mono ?_
  rintro e w2 ⟨rfl, hR2, hb2⟩
  have HR2 : Hid (WR w2 w1.heap.size y b 0 false) := Lib.hid hR2
  have HM2 := Lib.hid (HM1.out.below hb2 HM1.out.lt)
  have HB2 := Lib.hid (HB1.out.trans (hb2.mono HB1.out.size))
  have HG2 : Hid (w1.heap.size < w2.heap.size) := Lib.hid hR2.blk.lt
  have HE : Hid (w.heap.size ≤ w1.heap.size) := Lib.hid HB1.out.size
  clear hR2 hb2 HM1 HB1 HOY
  have HW : Hid (wholeB b ((([8, 8, 8] : List Int).foldl (rdS b) (0, false)).1) ((([8, 8, 8] : List Int).foldl (rdS b) (0, false)).2) = false) := Lib.hid (by
    rw [rdS_whole b _ 0 (Nat.zero_le _) (by decide)]
    exact decide_eq_false fun h => H31.out (by simpa using h.symm))
  simp only [List.foldl_cons, List.foldl_nil] at HW
  obtain ⟨s0, hs0⟩ : ∃ s : Nat × Bool, s = (0, false) := ⟨_, rfl⟩
  rw [← hs0] at HW
  have HR2 : Hid (WR w2 w1.heap.size y b s0.1 s0.2) := Lib.hid (by rw [hs0]; exact HR2.out)
  clear hs0
  have hC := word_all _ y b s0.1 s0.2 8 _ HR2.out
  obtain ⟨s1, hs⟩ : ∃ s : Nat × Bool, s = rdS b s0 8 := ⟨_, rfl⟩
  rw [← hs] at HW
  have HSS := Lib.hid hs
  clear hs
  generalize wOut b s0.1 s0.2 8 = n0 at hC
  go_wp2_with fail
  refine hC.mono ?_
  rintro e w3 ⟨rfl, hR, hg⟩
  have HR3 : Hid (WR w3 w1.heap.size y b s1.1 s1.2) := Lib.hid (by rw [HSS.out]; exact hR)
  have HM3 := Lib.hid (HM2.out.grown hg (fun h => by injection h with h; have := HG.out; omega))
  have HB3 := Lib.hid (HB2.out.grown hg HB2.out.size (by intro z hz; injection hz with hz; have := HE.out; omega))
  clear hR hg hC HM2 HB2 HR2 HSS
  have hC := word_all _ y b s1.1 s1.2 8 _ HR3.out
  obtain ⟨s2, hs⟩ : ∃ s : Nat × Bool, s = rdS b s1 8 := ⟨_, rfl⟩
  rw [← hs] at HW
  have HSS := Lib.hid hs
  clear hs
  generalize wOut b s1.1 s1.2 8 = n1 at hC
  go_wp2_with fail
  refine hC.mono ?_
  rintro e w4 ⟨rfl, hR, hg⟩
  have HR4 : Hid (WR w4 w1.heap.size y b s2.1 s2.2) := Lib.hid (by rw [HSS.out]; exact hR)
  have HM4 := Lib.hid (HM3.out.grown hg (fun h => by injection h with h; have := HG.out; omega))
  have HB4 := Lib.hid (HB3.out.grown hg HB3.out.size (by intro z hz; injection hz with hz; have := HE.out; omega))
  clear hR hg hC HM3 HB3 HR3 HSS
  have hC := word_all _ y b s2.1 s2.2 8 _ HR4.out
  obtain ⟨s3, hs⟩ : ∃ s : Nat × Bool, s = rdS b s2 8 := ⟨_, rfl⟩
  rw [← hs] at HW
  have HSS := Lib.hid hs
  clear hs
  generalize wOut b s2.1 s2.2 8 = n2 at hC
  go_wp2_with fail
  refine hC.mono ?_
  rintro e w5 ⟨rfl, hR, hg⟩
  have HR5 : Hid (WR w5 w1.heap.size y b s3.1 s3.2) := Lib.hid (by rw [HSS.out]; exact hR)
  have HM5 := Lib.hid (HM4.out.grown hg (fun h => by injection h with h; have := HG.out; omega))
  have HB5 := Lib.hid (HB4.out.grown hg HB4.out.size (by intro z hz; injection hz with hz; have := HE.out; omega))
  clear hR hg hC HM4 HB4 HR4 HSS
  go_wp2_with fail
  refine (whole_any _ y b s3.1 s3.2 _ (HR5.out.alloc _)).mono ?_
  rintro e w6 ⟨rfl, hb9⟩
  have HB6' := HB5.out.alloc HB5.out.size (.cells #[.int .u64 (n0 : Int), .int .i64 (wrap64 (n1 : Int)), .int .u64 (n2 : Int)] 89)
  have HM6 := Lib.hid ((HM5.out.alloc (.cells #[.int .u64 (n0 : Int), .int .i64 (wrap64 (n1 : Int)), .int .u64 (n2 : Int)] 89)).below hb9 (HM5.out.alloc _).lt)
  have HK6 := Lib.hid ((Blk.new w5 89 #[.int .u64 (n0 : Int), .int .i64 (wrap64 (n1 : Int)), .int .u64 (n2 : Int)]).below hb9 (by simp))
  have HB6 := Lib.hid (HB6'.trans (hb9.mono HB6'.size))
  clear hb9 HB6' HM5 HB5 HR5
  rw [HW.out]
  have hfz := fun j => HM6.out.frozen j
  have k0 := HM6.out.cell 0
  have k1 := HM6.out.cell 1
  have k2 := HM6.out.cell 2
  go_wp2_with fail
  have hm2 := setall3 w.heap.size HM6.out (.int .u64 0) (.int .i64 0) (.int .u64 0)
  have hg2 : w6.grownBy (((w6.setCell ⟨w.heap.size, 0, none⟩ (.int .u64 0)).setCell ⟨w.heap.size, 1, none⟩ (.int .i64 0)).setCell ⟨w.heap.size, 2, none⟩ (.int .u64 0)) (some w.heap.size) := gset3 _ _ _ _ _
  refine bodyPost_ret (v := .tuple #[.agg #[.int .u64 0, .int .i64 0, .int .u64 0], code 2]) (by have c := hm2.cell; simp [results, go_sem, c]; try rfl) rfl ?_
  exact ⟨rfl, HB6.out.grown hg2 HB6.out.size (by intro z hz; injection hz with hz; omega)⟩

set_option maxHeartbeats 3200000 in
theorem mmarked_may {x : List UInt8} {v : Value} (w : World) (hv : Bs w v x) (h4 : 4 ≤ x.length) (hl : x.length ≤ 140737488355320) (hs : tailOf x = crcOf (bodyOf x)) (h31 : (bodyOf x).length = 24) (hmay : mkB (mkAt (bodyOf x)) = true) :
    Calls Tryz.prog 60 #[v] w fun e w' => e = .returned (.tuple #[mkV (mkAt (bodyOf x)), .nilIface]) ∧ Below w.heap.size w w' := by
  have hb0 : Below w.heap.size w (w.alloc (.cells #[.int .u64 0, .int .i64 0, .int .u64 0] 89)) := (Below.refl _ _).alloc (Nat.le_refl _) _
  have hm0 := Blk.new w 89 #[.int .u64 0, .int .i64 0, .int .u64 0]
  have HS := Lib.hid hs
  have hO := open_long x v (w.alloc (.cells #[.int .u64 0, .int .i64 0, .int .u64 0] 89)) h4 (by omega) (hv.alloc _)
  have HM := Lib.hid hm0
  have HB := Lib.hid hb0
  have H31 := Lib.hid h31
  have HMAY := Lib.hid hmay
  clear hmay
  clear hs hl h4 hm0 hb0 h31
  go_enter Tryz.func60, Tryz.ntmps60
  go_wp2_with fail
  refine hO.mono ?_
  rintro e w1 ⟨y, f, rfl, hOp, hb1⟩
  obtain ⟨rfl, hoy⟩ := hOp.yes HS.out
  have HM1 := Lib.hid (HM.out.below hb1 (by simp))
  have HB1 := Lib.hid (HB.out.trans (hb1.mono (by simp)))
  have HOY := Lib.hid hoy.bs
  have HG : Hid (w.heap.size < w1.heap.size) := Lib.hid HM1.out.lt
  clear hO hOp hb1 hoy HB HM HS
  generalize hbx : bodyOf x = b at *
  have HBX := Lib.hid hbx
  clear hbx
  go_wp2_with fail
  refine (read_any y b w1 HOY.out).mono ?_
  rintro e w2 ⟨rfl, hR2, hb2⟩
  have HR2 : Hid (WR w2 w1.heap.size y b 0 false) := Lib.hid hR2
  have HM2 := Lib.hid (HM1.out.below hb2 HM1.out.lt)
  have HB2 := Lib.hid (HB1.out.trans (hb2.mono HB1.out.size))
  have HG2 : Hid (w1.heap.size < w2.heap.size) := Lib.hid hR2.blk.lt
  have HE : Hid (w.heap.size ≤ w1.heap.size) := Lib.hid HB1.out.size
  clear hR2 hb2 HM1 HB1 HOY
  have hC := word_yes _ y b 0 false 8 _ HR2.out (by simp [wordOk, isW]; have := H31.out; omega)
  rw [show Int.toNat 8 = 8 from rfl, show 0 + 8 = 8 from rfl] at hC
  obtain ⟨n0, hn⟩ : ∃ n : Nat, n = num ((b.drop 0).take 8) := ⟨_, rfl⟩
  rw [← hn] at hC
  have HN0 := Lib.hid hn
  clear hn
  go_wp2_with fail
  refine hC.mono ?_
  rintro e w3 ⟨rfl, hR, hg⟩
  have HR3 : Hid (WR w3 w1.heap.size y b 8 false) := Lib.hid hR
  have HM3 := Lib.hid (HM2.out.grown hg (fun h => by injection h with h; have := HG.out; omega))
  have HB3 := Lib.hid (HB2.out.grown hg HB2.out.size (by intro z hz; injection hz with hz; have := HE.out; omega))
  clear hR hg hC HM2 HB2 HR2
  have hC := word_yes _ y b 8 false 8 _ HR3.out (by simp [wordOk, isW]; have := H31.out; omega)
  rw [show Int.toNat 8 = 8 from rfl, show 8 + 8 = 16 from rfl] at hC
  obtain ⟨n1, hn⟩ : ∃ n : Nat, n = num ((b.drop 8).take 8) := ⟨_, rfl⟩
  rw [← hn] at hC
  have HN1 := Lib.hid hn
  clear hn
  go_wp2_with fail
  refine hC.mono ?_
  rintro e w4 ⟨rfl, hR, hg⟩
  have HR4 : Hid (WR w4 w1.heap.size y b 16 false) := Lib.hid hR
  have HM4 := Lib.hid (HM3.out.grown hg (fun h => by injection h with h; have := HG.out; omega))
  have HB4 := Lib.hid (HB3.out.grown hg HB3.out.size (by intro z hz; injection hz with hz; have := HE.out; omega))
  clear hR hg hC HM3 HB3 HR3
  have hC := word_yes _ y b 16 false 8 _ HR4.out (by simp [wordOk, isW]; have := H31.out; omega)
  rw [show Int.toNat 8 = 8 from rfl, show 16 + 8 = 24 from rfl] at hC
  obtain ⟨n2, hn⟩ : ∃ n : Nat, n = num ((b.drop 16).take 8) := ⟨_, rfl⟩
  rw [← hn] at hC
  have HN2 := Lib.hid hn
  clear hn
  go_wp2_with fail
  refine hC.mono ?_
  rintro e w5 ⟨rfl, hR, hg⟩
  have HR5 : Hid (WR w5 w1.heap.size y b 24 false) := Lib.hid hR
  have HM5 := Lib.hid (HM4.out.grown hg (fun h => by injection h with h; have := HG.out; omega))
  have HB5 := Lib.hid (HB4.out.grown hg HB4.out.size (by intro z hz; injection hz with hz; have := HE.out; omega))
  clear hR hg hC HM4 HB4 HR4
  go_wp2_with fail
  refine (whole_any _ y b 24 false _ (HR5.out.alloc _)).mono ?_
  rintro e w6 ⟨rfl, hb9⟩
  have HB6' := HB5.out.alloc HB5.out.size (.cells #[.int .u64 (n0 : Int), .int .i64 (wrap64 (n1 : Int)), .int .u64 (n2 : Int)] 89)
  have HM6 := Lib.hid ((HM5.out.alloc (.cells #[.int .u64 (n0 : Int), .int .i64 (wrap64 (n1 : Int)), .int .u64 (n2 : Int)] 89)).below hb9 (HM5.out.alloc _).lt)
  have HK6 := Lib.hid ((Blk.new w5 89 #[.int .u64 (n0 : Int), .int .i64 (wrap64 (n1 : Int)), .int .u64 (n2 : Int)]).below hb9 (by simp))
  have HB6 := Lib.hid (HB6'.trans (hb9.mono HB6'.size))
  clear hb9 HB6' HM5 HB5 HR5
  rw [show wholeB b 24 false = true by rw [wholeB, H31.out]; rfl]
  have HME : Hid (mkAt b = ⟨(n0 : Int), wrap64 (n1 : Int), (n2 : Int)⟩) := Lib.hid (by
    simp only [mkAt]
    rw [HN0.out, HN1.out, HN2.out])
  have hMay := fun u => mfair_any ⟨(n0 : Int), wrap64 (n1 : Int), (n2 : Int)⟩ (okMk n0 n1 n2 (by rw [HN0.out]; exact num_lt8 _ (by simp; omega)) (by rw [HN2.out]; exact num_lt8 _ (by simp; omega))) u
  have HV : Hid (mkB ⟨(n0 : Int), wrap64 (n1 : Int), (n2 : Int)⟩ = true) := Lib.hid (by rw [← HME.out]; exact HMAY.out)
  rw [HV.out] at hMay
  simp only [mkV] at hMay
  have j0 := HK6.out.cell 0
  have j1 := HK6.out.cell 1
  have j2 := HK6.out.cell 2
  go_wp2_with fail
  refine (hMay _).mono ?_
  rintro e w7 ⟨rfl, hb10⟩
  have HM7 := Lib.hid (HM6.out.below hb10 HM6.out.lt)
  have HK7 := Lib.hid (HK6.out.below hb10 HK6.out.lt)
  have HB7 := Lib.hid (HB6.out.trans (hb10.mono HB6.out.size))
  clear hb10 hMay j0 j1 j2
  clear HM6 HK6 HB6
  have j0 := HK7.out.cell 0
  have j1 := HK7.out.cell 1
  have j2 := HK7.out.cell 2
  have hfz := fun j => HM7.out.frozen j
  have k0 := HM7.out.cell 0
  have k1 := HM7.out.cell 1
  have k2 := HM7.out.cell 2
  go_wp2_with fail
  have hm2 := setall3 w.heap.size HM7.out (.int .u64 (n0 : Int)) (.int .i64 (wrap64 (n1 : Int))) (.int .u64 (n2 : Int))
  have hg2 : w7.grownBy (((w7.setCell ⟨w.heap.size, 0, none⟩ (.int .u64 (n0 : Int))).setCell ⟨w.heap.size, 1, none⟩ (.int .i64 (wrap64 (n1 : Int)))).setCell ⟨w.heap.size, 2, none⟩ (.int .u64 (n2 : Int))) (some w.heap.size) := gset3 _ _ _ _ _
  rw [HBX.out, HME.out]
  refine bodyPost_ret (v := .tuple #[.agg #[.int .u64 (n0 : Int), .int .i64 (wrap64 (n1 : Int)), .int .u64 (n2 : Int)], .nilIface]) (by have c := hm2.cell; simp [results, go_sem, c]; try rfl) rfl ?_
  exact ⟨rfl, HB7.out.grown hg2 HB7.out.size (by intro z hz; injection hz with hz; omega)⟩

set_option maxHeartbeats 3200000 in
theorem mmarked_not {x : List UInt8} {v : Value} (w : World) (hv : Bs w v x) (h4 : 4 ≤ x.length) (hl : x.length ≤ 140737488355320) (hs : tailOf x = crcOf (bodyOf x)) (h31 : (bodyOf x).length = 24) (hmay : mkB (mkAt (bodyOf x)) = false) :
    Calls Tryz.prog 60 #[v] w fun e w' => e = .returned (.tuple #[mkV Mk.zero, code 2]) ∧ Below w.heap.size w w' := by
  have hb0 : Below w.heap.size w (w.alloc (.cells #[.int .u64 0, .int .i64 0, .int .u64 0] 89)) := (Below.refl _ _).alloc (Nat.le_refl _) _
  have hm0 := Blk.new w 89 #[.int .u64 0, .int .i64 0, .int .u64 0]
  have HS := Lib.hid hs
  have hO := open_long x v (w.alloc (.cells #[.int .u64 0, .int .i64 0, .int .u64 0] 89)) h4 (by omega) (hv.alloc _)
  have HM := Lib.hid hm0
  have HB := Lib.hid hb0
  have H31 := Lib.hid h31
  have HMAY := Lib.hid hmay
  clear hmay
  clear hs hl h4 hm0 hb0 h31
  go_enter Tryz.func60, Tryz.ntmps60
  go_wp2_with fail
  refine hO.mono ?_
  rintro e w1 ⟨y, f, rfl, hOp, hb1⟩
  obtain ⟨rfl, hoy⟩ := hOp.yes HS.out
  have HM1 := Lib.hid (HM.out.below hb1 (by simp))
  have HB1 := Lib.hid (HB.out.trans (hb1.mono (by simp)))
  have HOY := Lib.hid hoy.bs
  have HG : Hid (w.heap.size < w1.heap.size) := Lib.hid HM1.out.lt
  clear hO hOp hb1 hoy HB HM HS
  generalize hbx : bodyOf x = b at *
  have HBX := Lib.hid hbx
  clear hbx
  go_wp2_with fail
  refine (read_any y b w1 HOY.out).mono ?_
  rintro e w2 ⟨rfl, hR2, hb2⟩
  have HR2 : Hid (WR w2 w1.heap.size y b 0 false) := Lib.hid hR2
  have HM2 := Lib.hid (HM1.out.below hb2 HM1.out.lt)
  have HB2 := Lib.hid (HB1.out.trans (hb2.mono HB1.out.size))
  have HG2 : Hid (w1.heap.size < w2.heap.size) := Lib.hid hR2.blk.lt
  have HE : Hid (w.heap.size ≤ w1.heap.size) := Lib.hid HB1.out.size
  clear hR2 hb2 HM1 HB1 HOY
  have hC := word_yes _ y b 0 false 8 _ HR2.out (by simp [wordOk, isW]; have := H31.out; omega)
  rw [show Int.toNat 8 = 8 from rfl, show 0 + 8 = 8 from rfl] at hC
  obtain ⟨n0, hn⟩ : ∃ n : Nat, n = num ((b.drop 0).take 8) := ⟨_, rfl⟩
  rw [← hn] at hC
  have HN0 := Lib.hid hn
  clear hn
  go_wp2_with fail
  refine hC.mono ?_
  rintro e w3 ⟨rfl, hR, hg⟩
  have HR3 : Hid (WR w3 w1.heap.size y b 8 false) := Lib.hid hR
  have HM3 := Lib.hid (HM2.out.grown hg (fun h => by injection h with h; have := HG.out; omega))
  have HB3 := Lib.hid (HB2.out.grown hg HB2.out.size (by intro z hz; injection hz with hz; have := HE.out; omega))
  clear hR hg hC HM2 HB2 HR2
  have hC := word_yes _ y b 8 false 8 _ HR3.out (by simp [wordOk, isW]; have := H31.out; omega)
  rw [show Int.toNat 8 = 8 from rfl, show 8 + 8 = 16 from rfl] at hC
  obtain ⟨n1, hn⟩ : ∃ n : Nat, n = num ((b.drop 8).take 8) := ⟨_, rfl⟩
  rw [← hn] at hC
  have HN1 := Lib.hid hn
  clear hn
  go_wp2_with fail
  refine hC.mono ?_
  rintro e w4 ⟨rfl, hR, hg⟩
  have HR4 : Hid (WR w4 w1.heap.size y b 16 false) := Lib.hid hR
  have HM4 := Lib.hid (HM3.out.grown hg (fun h => by injection h with h; have := HG.out; omega))
  have HB4 := Lib.hid (HB3.out.grown hg HB3.out.size (by intro z hz; injection hz with hz; have := HE.out; omega))
  clear hR hg hC HM3 HB3 HR3
  have hC := word_yes _ y b 16 false 8 _ HR4.out (by simp [wordOk, isW]; have := H31.out; omega)
  rw [show Int.toNat 8 = 8 from rfl, show 16 + 8 = 24 from rfl] at hC
  obtain ⟨n2, hn⟩ : ∃ n : Nat, n = num ((b.drop 16).take 8) := ⟨_, rfl⟩
  rw [← hn] at hC
  have HN2 := Lib.hid hn
  clear hn
  go_wp2_with fail
  refine hC.mono ?_
  rintro e w5 ⟨rfl, hR, hg⟩
  have HR5 : Hid (WR w5 w1.heap.size y b 24 false) := Lib.hid hR
  have HM5 := Lib.hid (HM4.out.grown hg (fun h => by injection h with h; have := HG.out; omega))
  have HB5 := Lib.hid (HB4.out.grown hg HB4.out.size (by intro z hz; injection hz with hz; have := HE.out; omega))
  clear hR hg hC HM4 HB4 HR4
  go_wp2_with fail
  refine (whole_any _ y b 24 false _ (HR5.out.alloc _)).mono ?_
  rintro e w6 ⟨rfl, hb9⟩
  have HB6' := HB5.out.alloc HB5.out.size (.cells #[.int .u64 (n0 : Int), .int .i64 (wrap64 (n1 : Int)), .int .u64 (n2 : Int)] 89)
  have HM6 := Lib.hid ((HM5.out.alloc (.cells #[.int .u64 (n0 : Int), .int .i64 (wrap64 (n1 : Int)), .int .u64 (n2 : Int)] 89)).below hb9 (HM5.out.alloc _).lt)
  have HK6 := Lib.hid ((Blk.new w5 89 #[.int .u64 (n0 : Int), .int .i64 (wrap64 (n1 : Int)), .int .u64 (n2 : Int)]).below hb9 (by simp))
  have HB6 := Lib.hid (HB6'.trans (hb9.mono HB6'.size))
  clear hb9 HB6' HM5 HB5 HR5
  rw [show wholeB b 24 false = true by rw [wholeB, H31.out]; rfl]
  have HME : Hid (mkAt b = ⟨(n0 : Int), wrap64 (n1 : Int), (n2 : Int)⟩) := Lib.hid (by
    simp only [mkAt]
    rw [HN0.out, HN1.out, HN2.out])
  have hMay := fun u => mfair_any ⟨(n0 : Int), wrap64 (n1 : Int), (n2 : Int)⟩ (okMk n0 n1 n2 (by rw [HN0.out]; exact num_lt8 _ (by simp; omega)) (by rw [HN2.out]; exact num_lt8 _ (by simp; omega))) u
  have HV : Hid (mkB ⟨(n0 : Int), wrap64 (n1 : Int), (n2 : Int)⟩ = false) := Lib.hid (by rw [← HME.out]; exact HMAY.out)
  rw [HV.out] at hMay
  simp only [mkV] at hMay
  have j0 := HK6.out.cell 0
  have j1 := HK6.out.cell 1
  have j2 := HK6.out.cell 2
  go_wp2_with fail
  refine (hMay _).mono ?_
  rintro e w7 ⟨rfl, hb10⟩
  have HM7 := Lib.hid (HM6.out.below hb10 HM6.out.lt)
  have HK7 := Lib.hid (HK6.out.below hb10 HK6.out.lt)
  have HB7 := Lib.hid (HB6.out.trans (hb10.mono HB6.out.size))
  clear hb10 hMay j0 j1 j2
  clear HM6 HK6 HB6
  have hfz := fun j => HM7.out.frozen j
  have k0 := HM7.out.cell 0
  have k1 := HM7.out.cell 1
  have k2 := HM7.out.cell 2
  go_wp2_with fail
  have hm2 := setall3 w.heap.size HM7.out (.int .u64 0) (.int .i64 0) (.int .u64 0)
  have hg2 : w7.grownBy (((w7.setCell ⟨w.heap.size, 0, none⟩ (.int .u64 0)).setCell ⟨w.heap.size, 1, none⟩ (.int .i64 0)).setCell ⟨w.heap.size, 2, none⟩ (.int .u64 0)) (some w.heap.size) := gset3 _ _ _ _ _
  refine bodyPost_ret (v := .tuple #[.agg #[.int .u64 0, .int .i64 0, .int .u64 0], code 2]) (by have c := hm2.cell; simp [results, go_sem, c]; try rfl) rfl ?_
  exact ⟨rfl, HB7.out.grown hg2 HB7.out.size (by intro z hz; injection hz with hz; omega)⟩

theorem mget_any {x : List UInt8} {v : Value} (w : World) (hv : Bs w v x) (hl : x.length ≤ 140737488355320) :
    Calls Tryz.prog 58 #[v] w fun e w' => e = .returned (.tuple #[meV (meX x).2, errV (meX x).1]) ∧ Below w.heap.size w w' := by
  by_cases h4 : x.length < 4
  · rw [meX, if_pos h4]
    exact mget_short w hv h4
  · by_cases hs : tailOf x = crcOf (bodyOf x)
    · rw [meX, if_neg h4, if_pos hs, meOf]
      by_cases h31 : (bodyOf x).length = 31
      · cases hm : meB (meAt (bodyOf x)) with
        | true => rw [if_pos ⟨h31, rfl⟩]; exact mget_may w hv (by omega) hl hs h31 hm
        | false => rw [if_neg (fun h => Bool.false_ne_true h.2)]; exact mget_not w hv (by omega) hl hs h31 hm
      · rw [if_neg (fun h => h31 h.1)]
        exact mget_len w hv (by omega) hl hs h31
    · rw [meX, if_neg h4, if_neg hs]
      exact mget_sum w hv (by omega) hl hs

theorem mmarked_any {x : List UInt8} {v : Value} (w : World) (hv : Bs w v x) (hl : x.length ≤ 140737488355320) :
    Calls Tryz.prog 60 #[v] w fun e w' => e = .returned (.tuple #[mkV (mkX x).2, errV (mkX x).1]) ∧ Below w.heap.size w w' := by
  by_cases h4 : x.length < 4
  · rw [mkX, if_pos h4]
    exact mmarked_short w hv h4
  · by_cases hs : tailOf x = crcOf (bodyOf x)
    · rw [mkX, if_neg h4, if_pos hs, mkOf]
      by_cases h31 : (bodyOf x).length = 24
      · cases hm : mkB (mkAt (bodyOf x)) with
        | true => rw [if_pos ⟨h31, rfl⟩]; exact mmarked_may w hv (by omega) hl hs h31 hm
        | false => rw [if_neg (fun h => Bool.false_ne_true h.2)]; exact mmarked_not w hv (by omega) hl hs h31 hm
      · rw [if_neg (fun h => h31 h.1)]
        exact mmarked_len w hv (by omega) hl hs h31
    · rw [mkX, if_neg h4, if_neg hs]
      exact mmarked_sum w hv (by omega) hl hs

set_option maxHeartbeats 800000 in
theorem Told_no {b : List UInt8} {v : Value} (w : World) (hv : Bs w v b) (h31 : b.length ≠ 31) :
    Calls Tryz.prog 69 #[v] w fun e w' => e = .returned (.tuple #[meV Me.zero, .bool false]) ∧ Below w.heap.size w w' := by
  have hne : ((b.length : Int) != 31) = true := by
    have : ¬ (b.length : Int) = 31 := by omega
    simp [this]
  obtain ⟨A, c, rfl, hc1, hc2, _⟩ := hv
  have hb0 : Below w.heap.size w (w.alloc (.cells #[.int .u64 0, .int .i64 0, .int .i64 0, .int .i64 0, .int .i64 0, .int .i64 0] 85)) := (Below.refl _ _).alloc (Nat.le_refl _) _
  have hm0 := Blk.new w 85 #[.int .u64 0, .int .i64 0, .int .i64 0, .int .i64 0, .int .i64 0, .int .i64 0]
  clear h31
  go_enter Tryz.func69, Tryz.ntmps69
  go_wp2_with fail
  refine bodyPost_ret (v := .tuple #[.agg #[.int .u64 0, .int .i64 0, .int .i64 0, .int .i64 0, .int .i64 0, .int .i64 0], .bool false]) (by have c := hm0.cell; simp [results, go_sem, c]; try rfl) rfl ?_
  exact ⟨rfl, hb0⟩

set_option maxHeartbeats 3200000 in
theorem Told_yes {b : List UInt8} {v : Value} (w : World) (hv : Bs w v b) (h31 : b.length = 31) :
    Calls Tryz.prog 69 #[v] w fun e w' => e = .returned (.tuple #[meV (meAt b), .bool (meB (meAt b))]) ∧ Below w.heap.size w w' := by
  have hne : ((b.length : Int) != 31) = false := by
    have : (b.length : Int) = 31 := by omega
    simp [this]
  have H31 := Lib.hid h31
  obtain ⟨A, c, rfl, hc1, hc2, hr⟩ := hv
  have HVB : Hid (Bs w (.slice A b.length c) b) := Lib.hid ⟨A, c, rfl, hc1, hc2, hr⟩
  have hb0 : Below w.heap.size w (w.alloc (.cells #[.int .u64 0, .int .i64 0, .int .i64 0, .int .i64 0, .int .i64 0, .int .i64 0] 85)) := (Below.refl _ _).alloc (Nat.le_refl _) _
  have hm0 := Blk.new w 85 #[.int .u64 0, .int .i64 0, .int .i64 0, .int .i64 0, .int .i64 0, .int .i64 0]
  have HR2 : Hid (RR ((w.alloc (.cells #[.int .u64 0, .int .i64 0, .int .i64 0, .int .i64 0, .int .i64 0, .int .i64 0] 85)).alloc (.cells #[.slice A b.length c, .int .i64 0, .int .i64 (-1)] 159)) (w.heap.size + 1) (.slice A b.length c) b 0 false) := Lib.hid (by
    have := RR.new (HVB.out.alloc (.cells #[.int .u64 0, .int .i64 0, .int .i64 0, .int .i64 0, .int .i64 0, .int .i64 0] 85)) (by omega)
    simpa using this)
  have HM2 := Lib.hid (hm0.alloc (.cells #[.slice A b.length c, .int .i64 0, .int .i64 (-1)] 159))
  have HB2 := Lib.hid (hb0.alloc hb0.size (.cells #[.slice A b.length c, .int .i64 0, .int .i64 (-1)] 159))
  clear hb0 hm0 hr h31 HVB
  go_enter Tryz.func69, Tryz.ntmps69
  go_wp2_with fail
  revert HR2 HM2 HB2
  generalize (w.alloc (.cells #[.int .u64 0, .int .i64 0, .int .i64 0, .int .i64 0, .int .i64 0, .int .i64 0] 85)).alloc (.cells #[.slice A b.length c, .int .i64 0, .int .i64 (-1)] 159) = w2
  intro HR2 HM2 HB2
  have hC := Word_yes _ _ b 0 8 _ HR2.out (by simp [wordOk, isW]; have := H31.out; omega)
  rw [show Int.toNat 8 = 8 from rfl, show 0 + 8 = 8 from rfl] at hC
  obtain ⟨n0, hn⟩ : ∃ n : Nat, n = num ((b.drop 0).take 8) := ⟨_, rfl⟩
  rw [← hn] at hC
  have HN0 := Lib.hid hn
  clear hn
  go_wp2_with fail
  refine hC.mono ?_
  rintro e w3 ⟨rfl, hR, hg⟩
  have HR3 : Hid (RR w3 (w.heap.size + 1) (.slice A b.length c) b 8 false) := Lib.hid hR
  have HM3 := Lib.hid (HM2.out.grown hg (fun h => by injection h with h; omega))
  have HB3 := Lib.hid (HB2.out.grown hg HB2.out.size (by intro z hz; injection hz with hz; omega))
  clear hR hg hC HM2 HB2 HR2
  have hC := Word_yes _ _ b 8 8 _ HR3.out (by simp [wordOk, isW]; have := H31.out; omega)
  rw [show Int.toNat 8 = 8 from rfl, show 8 + 8 = 16 from rfl] at hC
  obtain ⟨n1, hn⟩ : ∃ n : Nat, n = num ((b.drop 8).take 8) := ⟨_, rfl⟩
  rw [← hn] at hC
  have HN1 := Lib.hid hn
  clear hn
  go_wp2_with fail
  refine hC.mono ?_
  rintro e w4 ⟨rfl, hR, hg⟩
  have HR4 : Hid (RR w4 (w.heap.size + 1) (.slice A b.length c) b 16 false) := Lib.hid hR
  have HM4 := Lib.hid (HM3.out.grown hg (fun h => by injection h with h; omega))
  have HB4 := Lib.hid (HB3.out.grown hg HB3.out.size (by intro z hz; injection hz with hz; omega))
  clear hR hg hC HM3 HB3 HR3
  have hC := Word_yes _ _ b 16 8 _ HR4.out (by simp [wordOk, isW]; have := H31.out; omega)
  rw [show Int.toNat 8 = 8 from rfl, show 16 + 8 = 24 from rfl] at hC
  obtain ⟨n2, hn⟩ : ∃ n : Nat, n = num ((b.drop 16).take 8) := ⟨_, rfl⟩
  rw [← hn] at hC
  have HN2 := Lib.hid hn
  clear hn
  go_wp2_with fail
  refine hC.mono ?_
  rintro e w5 ⟨rfl, hR, hg⟩
  have HR5 : Hid (RR w5 (w.heap.size + 1) (.slice A b.length c) b 24 false) := Lib.hid hR
  have HM5 := Lib.hid (HM4.out.grown hg (fun h => by injection h with h; omega))
  have HB5 := Lib.hid (HB4.out.grown hg HB4.out.size (by intro z hz; injection hz with hz; omega))
  clear hR hg hC HM4 HB4 HR4
  have hC := Word_yes _ _ b 24 1 _ HR5.out (by simp [wordOk, isW]; have := H31.out; omega)
  rw [show Int.toNat 1 = 1 from rfl, show 24 + 1 = 25 from rfl] at hC
  have hn3 : num ((b.drop 24).take 1) < 256 := Nat.lt_of_lt_of_le (num_lt _) (by rw [List.length_take]; exact Nat.pow_le_pow_right (by omega) (Nat.min_le_left _ _))
  obtain ⟨n3, hn⟩ : ∃ n : Nat, n = num ((b.drop 24).take 1) := ⟨_, rfl⟩
  rw [← hn] at hC hn3
  have HN3 := Lib.hid hn
  clear hn
  go_wp2_with fail
  refine hC.mono ?_
  rintro e w6 ⟨rfl, hR, hg⟩
  have HR6 : Hid (RR w6 (w.heap.size + 1) (.slice A b.length c) b 25 false) := Lib.hid hR
  have HM6 := Lib.hid (HM5.out.grown hg (fun h => by injection h with h; omega))
  have HB6 := Lib.hid (HB5.out.grown hg HB5.out.size (by intro z hz; injection hz with hz; omega))
  clear hR hg hC HM5 HB5 HR5
  have hC := Word_yes _ _ b 25 2 _ HR6.out (by simp [wordOk, isW]; have := H31.out; omega)
  rw [show Int.toNat 2 = 2 from rfl, show 25 + 2 = 27 from rfl] at hC
  have hn4 : num ((b.drop 25).take 2) < 65536 := Nat.lt_of_lt_of_le (num_lt _) (by rw [List.length_take]; exact Nat.pow_le_pow_right (by omega) (Nat.min_le_left _ _))
  obtain ⟨n4, hn⟩ : ∃ n : Nat, n = num ((b.drop 25).take 2) := ⟨_, rfl⟩
  rw [← hn] at hC hn4
  have HN4 := Lib.hid hn
  clear hn
  go_wp2_with fail
  refine hC.mono ?_
  rintro e w7 ⟨rfl, hR, hg⟩
  have HR7 : Hid (RR w7 (w.heap.size + 1) (.slice A b.length c) b 27 false) := Lib.hid hR
  have HM7 := Lib.hid (HM6.out.grown hg (fun h => by injection h with h; omega))
  have HB7 := Lib.hid (HB6.out.grown hg HB6.out.size (by intro z hz; injection hz with hz; omega))
  clear hR hg hC HM6 HB6 HR6
  have hC := Word_yes _ _ b 27 4 _ HR7.out (by simp [wordOk, isW]; have := H31.out; omega)
  rw [show Int.toNat 4 = 4 from rfl, show 27 + 4 = 31 from rfl] at hC
  have hn5 : num ((b.drop 27).take 4) < 4294967296 := Nat.lt_of_lt_of_le (num_lt _) (by rw [List.length_take]; exact Nat.pow_le_pow_right (by omega) (Nat.min_le_left _ _))
  obtain ⟨n5, hn⟩ : ∃ n : Nat, n = num ((b.drop 27).take 4) := ⟨_, rfl⟩
  rw [← hn] at hC hn5
  have HN5 := Lib.hid hn
  clear hn
  go_wp2_with fail
  refine hC.mono ?_
  rintro e w8 ⟨rfl, hR, hg⟩
  have HR8 : Hid (RR w8 (w.heap.size + 1) (.slice A b.length c) b 31 false) := Lib.hid hR
  have HM8 := Lib.hid (HM7.out.grown hg (fun h => by injection h with h; omega))
  have HB8 := Lib.hid (HB7.out.grown hg HB7.out.size (by intro z hz; injection hz with hz; omega))
  clear hR hg hC HM7 HB7 HR7
  have hw3 : wrap64 (n3 : Int) = (n3 : Int) := IntWalk.wrap64_in _ ⟨by omega, by omega⟩
  have hw4 : wrap64 (n4 : Int) = (n4 : Int) := IntWalk.wrap64_in _ ⟨by omega, by omega⟩
  have hw5 : wrap64 (n5 : Int) = (n5 : Int) := IntWalk.wrap64_in _ ⟨by omega, by omega⟩
  have HME : Hid (meAt b = ⟨(n0 : Int), (n3 : Int), wrap64 (n1 : Int), wrap64 (n2 : Int), (n4 : Int), (n5 : Int)⟩) := Lib.hid (by
    simp only [meAt]
    rw [HN0.out, HN1.out, HN2.out, HN3.out, HN4.out, HN5.out])
  have hMay := fun u => MMay_any ⟨(n0 : Int), (n3 : Int), wrap64 (n1 : Int), wrap64 (n2 : Int), (n4 : Int), (n5 : Int)⟩ (okMe n0 n1 n2 n3 n4 n5 (by rw [HN0.out]; exact num_lt8 _ (by simp; omega)) hn3 hn4 hn5) u
  simp only [meV] at hMay
  have HMB : Hid (meB (meAt b) = meB ⟨(n0 : Int), (n3 : Int), wrap64 (n1 : Int), wrap64 (n2 : Int), (n4 : Int), (n5 : Int)⟩) := Lib.hid (by rw [HME.out])
  generalize meB ⟨(n0 : Int), (n3 : Int), wrap64 (n1 : Int), wrap64 (n2 : Int), (n4 : Int), (n5 : Int)⟩ = mb at *
  have HM9 := Lib.hid (HM8.out.alloc (.cells #[.int .u64 (n0 : Int), .int .i64 (n3 : Int), .int .i64 (wrap64 (n1 : Int)), .int .i64 (wrap64 (n2 : Int)), .int .i64 (n4 : Int), .int .i64 (n5 : Int)] 85))
  have HK9 := Lib.hid (Blk.new w8 85 #[.int .u64 (n0 : Int), .int .i64 (n3 : Int), .int .i64 (wrap64 (n1 : Int)), .int .i64 (wrap64 (n2 : Int)), .int .i64 (n4 : Int), .int .i64 (n5 : Int)])
  have HB9 := Lib.hid (HB8.out.alloc HB8.out.size (.cells #[.int .u64 (n0 : Int), .int .i64 (n3 : Int), .int .i64 (wrap64 (n1 : Int)), .int .i64 (wrap64 (n2 : Int)), .int .i64 (n4 : Int), .int .i64 (n5 : Int)] 85))
  clear HM8 HB8
  have j0 := HK9.out.cell 0
  have j1 := HK9.out.cell 1
  have j2 := HK9.out.cell 2
  have j3 := HK9.out.cell 3
  have j4 := HK9.out.cell 4
  have j5 := HK9.out.cell 5
  go_wp2_with fail
  refine (hMay _).mono ?_
  rintro e w10 ⟨rfl, hb10⟩
  have HM10 := Lib.hid (HM9.out.below hb10 HM9.out.lt)
  have HK10 := Lib.hid (HK9.out.below hb10 HK9.out.lt)
  have HB10 := Lib.hid (HB9.out.trans (hb10.mono HB9.out.size))
  clear hb10 hMay j0 j1 j2 j3 j4 j5
  clear HM9 HK9 HB9
  have j0 := HK10.out.cell 0
  have j1 := HK10.out.cell 1
  have j2 := HK10.out.cell 2
  have j3 := HK10.out.cell 3
  have j4 := HK10.out.cell 4
  have j5 := HK10.out.cell 5
  have hfz := fun j => HM10.out.frozen j
  have k0 := HM10.out.cell 0
  have k1 := HM10.out.cell 1
  have k2 := HM10.out.cell 2
  have k3 := HM10.out.cell 3
  have k4 := HM10.out.cell 4
  have k5 := HM10.out.cell 5
  go_wp2_with fail
  have hm2 := setall6 w.heap.size HM10.out (.int .u64 (n0 : Int)) (.int .i64 (n3 : Int)) (.int .i64 (wrap64 (n1 : Int))) (.int .i64 (wrap64 (n2 : Int))) (.int .i64 (n4 : Int)) (.int .i64 (n5 : Int))
  have hg2 : w10.grownBy ((((((w10.setCell ⟨w.heap.size, 0, none⟩ (.int .u64 (n0 : Int))).setCell ⟨w.heap.size, 1, none⟩ (.int .i64 (n3 : Int))).setCell ⟨w.heap.size, 2, none⟩ (.int .i64 (wrap64 (n1 : Int)))).setCell ⟨w.heap.size, 3, none⟩ (.int .i64 (wrap64 (n2 : Int)))).setCell ⟨w.heap.size, 4, none⟩ (.int .i64 (n4 : Int))).setCell ⟨w.heap.size, 5, none⟩ (.int .i64 (n5 : Int))) (some w.heap.size) := gset6 _ _ _ _ _ _ _ _
  rw [HMB.out, HME.out]
  refine bodyPost_ret (v := .tuple #[.agg #[.int .u64 (n0 : Int), .int .i64 (n3 : Int), .int .i64 (wrap64 (n1 : Int)), .int .i64 (wrap64 (n2 : Int)), .int .i64 (n4 : Int), .int .i64 (n5 : Int)], .bool mb]) (by have c := hm2.cell; simp [results, go_sem, c]; try rfl) rfl ?_
  exact ⟨rfl, HB10.out.grown hg2 HB10.out.size (by intro z hz; injection hz with hz; omega)⟩

theorem Told_any {b : List UInt8} {v : Value} (w : World) (hv : Bs w v b) (_ : b.length ≤ 140737488355328) :
    Calls Tryz.prog 69 #[v] w fun e w' => ∃ m ok, e = .returned (.tuple #[meV m, .bool ok]) ∧ meOf b = (if ok then (0, m) else (2, Me.zero)) ∧ Below w.heap.size w w' := by
  by_cases h31 : b.length = 31
  · refine (Told_yes w hv h31).mono fun e w' ⟨he, hb⟩ => ⟨_, _, he, ?_, hb⟩
    cases hm : meB (meAt b) with
    | true => rw [meOf, if_pos ⟨h31, hm⟩]; rfl
    | false => rw [meOf, if_neg (fun h => by rw [hm] at h; exact Bool.false_ne_true h.2)]; rfl
  · refine (Told_no w hv h31).mono fun e w' ⟨he, hb⟩ => ⟨_, _, he, ?_, hb⟩
    rw [meOf, if_neg (fun h => h31 h.1)]
    rfl

theorem Meta_short {x : List UInt8} {v : Value} (w : World) (hv : Bs w v x) (hl : x.length < 4) :
    Calls Tryz.prog 50 #[v] w fun e w' => e = .returned (.tuple #[meV Me.zero, .int .i64 2]) ∧ Below w.heap.size w w' := by
  have hb0 : Below w.heap.size w (w.alloc (.cells #[.int .u64 0, .int .i64 0, .int .i64 0, .int .i64 0, .int .i64 0, .int .i64 0] 85)) := (Below.refl _ _).alloc (Nat.le_refl _) _
  have hm0 := Blk.new w 85 #[.int .u64 0, .int .i64 0, .int .i64 0, .int .i64 0, .int .i64 0, .int .i64 0]
  go_enter Tryz.func50, Tryz.ntmps50
  go_wp2_with fail
  refine (Open_short x v _ hl (hv.alloc _)).mono ?_
  rintro e w1 ⟨rfl, rfl⟩
  go_wp2_with fail
  refine bodyPost_ret (v := .tuple #[.agg #[.int .u64 0, .int .i64 0, .int .i64 0, .int .i64 0, .int .i64 0, .int .i64 0], .int .i64 2]) (by have c := hm0.cell; simp [results, go_sem, c]; try rfl) rfl ?_
  exact ⟨rfl, hb0⟩

set_option maxHeartbeats 1600000 in
theorem Meta_sum {x : List UInt8} {v : Value} (w : World) (hv : Bs w v x) (h4 : 4 ≤ x.length) (hl : x.length ≤ 140737488355320) (hs : tailOf x ≠ crcOf (bodyOf x)) :
    Calls Tryz.prog 50 #[v] w fun e w' => e = .returned (.tuple #[meV Me.zero, .int .i64 7]) ∧ Below w.heap.size w w' := by
  have hb0 : Below w.heap.size w (w.alloc (.cells #[.int .u64 0, .int .i64 0, .int .i64 0, .int .i64 0, .int .i64 0, .int .i64 0] 85)) := (Below.refl _ _).alloc (Nat.le_refl _) _
  have hm0 := Blk.new w 85 #[.int .u64 0, .int .i64 0, .int .i64 0, .int .i64 0, .int .i64 0, .int .i64 0]
  have HS := Lib.hid hs
  have hO := Open_long x v (w.alloc (.cells #[.int .u64 0, .int .i64 0, .int .i64 0, .int .i64 0, .int .i64 0, .int .i64 0] 85)) h4 (by omega) (hv.alloc _)
  have HM := Lib.hid hm0
  have HB := Lib.hid hb0
  clear hs hl h4 hm0 hb0
  go_enter Tryz.func50, Tryz.ntmps50
  go_wp2_with fail
  refine hO.mono ?_
  rintro e w1 ⟨y, f, rfl, hOp, hb1⟩
  obtain ⟨rfl, rfl⟩ := hOp.no HS.out
  have HM1 := Lib.hid (HM.out.below hb1 (by simp))
  have HB1 := Lib.hid (HB.out.trans (hb1.mono (by simp)))
  clear hO hOp hb1 HB HM
  have hfz := fun j => HM1.out.frozen j
  have k0 := HM1.out.cell 0
  have k1 := HM1.out.cell 1
  have k2 := HM1.out.cell 2
  have k3 := HM1.out.cell 3
  have k4 := HM1.out.cell 4
  have k5 := HM1.out.cell 5
  go_wp2_with fail
  have hm2 := setall6 w.heap.size HM1.out (.int .u64 0) (.int .i64 0) (.int .i64 0) (.int .i64 0) (.int .i64 0) (.int .i64 0)
  have hg2 : World.grownBy w1 ((((((w1.setCell ⟨w.heap.size, 0, none⟩ (.int .u64 0)).setCell ⟨w.heap.size, 1, none⟩ (.int .i64 0)).setCell ⟨w.heap.size, 2, none⟩ (.int .i64 0)).setCell ⟨w.heap.size, 3, none⟩ (.int .i64 0)).setCell ⟨w.heap.size, 4, none⟩ (.int .i64 0)).setCell ⟨w.heap.size, 5, none⟩ (.int .i64 0)) (some w.heap.size) := gset6 _ _ _ _ _ _ _ _
  refine bodyPost_ret (v := .tuple #[.agg #[.int .u64 0, .int .i64 0, .int .i64 0, .int .i64 0, .int .i64 0, .int .i64 0], .int .i64 7]) (by have c := hm2.cell; simp [results, go_sem, c]; try rfl) rfl ?_
  exact ⟨rfl, HB1.out.grown hg2 HB1.out.size (by intro z hz; injection hz with hz; omega)⟩

set_option maxHeartbeats 1600000 in
theorem Meta_body {x : List UInt8} {v : Value} (w : World) (hv : Bs w v x) (h4 : 4 ≤ x.length) (hl : x.length ≤ 140737488355320) (hs : tailOf x = crcOf (bodyOf x)) :
    Calls Tryz.prog 50 #[v] w fun e w' => e = .returned (.tuple #[meV (meOf (bodyOf x)).2, .int .i64 (meOf (bodyOf x)).1]) ∧ Below w.heap.size w w' := by
  have hb0 : Below w.heap.size w (w.alloc (.cells #[.int .u64 0, .int .i64 0, .int .i64 0, .int .i64 0, .int .i64 0, .int .i64 0] 85)) := (Below.refl _ _).alloc (Nat.le_refl _) _
  have hm0 := Blk.new w 85 #[.int .u64 0, .int .i64 0, .int .i64 0, .int .i64 0, .int .i64 0, .int .i64 0]
  have HS := Lib.hid hs
  have hO := Open_long x v (w.alloc (.cells #[.int .u64 0, .int .i64 0, .int .i64 0, .int .i64 0, .int .i64 0, .int .i64 0] 85)) h4 (by omega) (hv.alloc _)
  have HM := Lib.hid hm0
  have HB := Lib.hid hb0
  have HLen : Hid ((bodyOf x).length ≤ 140737488355328) := Lib.hid (by rw [bodyOf_length]; omega)
  clear hs hl h4 hm0 hb0
  go_enter Tryz.func50, Tryz.ntmps50
  go_wp2_with fail
  refine hO.mono ?_
  rintro e w1 ⟨y, f, rfl, hOp, hb1⟩
  obtain ⟨rfl, hoy⟩ := hOp.yes HS.out
  have HM1 := Lib.hid (HM.out.below hb1 (by simp))
  have HB1 := Lib.hid (HB.out.trans (hb1.mono (by simp)))
  clear hO hOp hb1 HB HM
  go_wp2_with fail
  refine (Told_any w1 hoy HLen.out).mono ?_
  rintro e w2 ⟨m, ok, rfl, hof, hb2⟩
  have HOF := Lib.hid hof
  have HM2 := Lib.hid (HM1.out.below hb2 HM1.out.lt)
  have HB2 := Lib.hid (HB1.out.trans (hb2.mono HB1.out.size))
  clear hof hb2 HM1 HB1 hoy
  obtain ⟨m0, m1, m2, m3, m4, m5⟩ := m
  simp only [meV]
  have HM3 := Lib.hid (HM2.out.alloc (.cells #[.int .u64 m0, .int .i64 m1, .int .i64 m2, .int .i64 m3, .int .i64 m4, .int .i64 m5] 85))
  have HK3 := Lib.hid (Blk.new w2 85 #[.int .u64 m0, .int .i64 m1, .int .i64 m2, .int .i64 m3, .int .i64 m4, .int .i64 m5])
  have HB3 := Lib.hid (HB2.out.alloc HB2.out.size (.cells #[.int .u64 m0, .int .i64 m1, .int .i64 m2, .int .i64 m3, .int .i64 m4, .int .i64 m5] 85))
  clear HM2 HB2
  have hfz := fun j => HM3.out.frozen j
  have k0 := HM3.out.cell 0
  have k1 := HM3.out.cell 1
  have k2 := HM3.out.cell 2
  have k3 := HM3.out.cell 3
  have k4 := HM3.out.cell 4
  have k5 := HM3.out.cell 5
  have j0 := HK3.out.cell 0
  have j1 := HK3.out.cell 1
  have j2 := HK3.out.cell 2
  have j3 := HK3.out.cell 3
  have j4 := HK3.out.cell 4
  have j5 := HK3.out.cell 5
  cases ok with
  | true =>
    have HE : Hid (meOf (bodyOf x) = (0, ⟨m0, m1, m2, m3, m4, m5⟩)) := Lib.hid HOF.out
    go_wp2_with fail
    rw [HE.out]
    have hm2 := setall6 w.heap.size HM3.out (.int .u64 m0) (.int .i64 m1) (.int .i64 m2) (.int .i64 m3) (.int .i64 m4) (.int .i64 m5)
    have hg2 : World.grownBy (w2.alloc (.cells #[.int .u64 m0, .int .i64 m1, .int .i64 m2, .int .i64 m3, .int .i64 m4, .int .i64 m5] 85)) (((((((w2.alloc (.cells #[.int .u64 m0, .int .i64 m1, .int .i64 m2, .int .i64 m3, .int .i64 m4, .int .i64 m5] 85)).setCell ⟨w.heap.size, 0, none⟩ (.int .u64 m0)).setCell ⟨w.heap.size, 1, none⟩ (.int .i64 m1)).setCell ⟨w.heap.size, 2, none⟩ (.int .i64 m2)).setCell ⟨w.heap.size, 3, none⟩ (.int .i64 m3)).setCell ⟨w.heap.size, 4, none⟩ (.int .i64 m4)).setCell ⟨w.heap.size, 5, none⟩ (.int .i64 m5)) (some w.heap.size) := gset6 _ _ _ _ _ _ _ _
    refine bodyPost_ret (v := .tuple #[.agg #[.int .u64 m0, .int .i64 m1, .int .i64 m2, .int .i64 m3, .int .i64 m4, .int .i64 m5], .int .i64 0]) (by have c := hm2.cell; simp [results, go_sem, c]; try rfl) rfl ?_
    exact ⟨rfl, HB3.out.grown hg2 HB3.out.size (by intro z hz; injection hz with hz; omega)⟩
  | false =>
    have HE : Hid (meOf (bodyOf x) = (2, Me.zero)) := Lib.hid HOF.out
    go_wp2_with fail
    rw [HE.out]
    have hm2 := setall6 w.heap.size HM3.out (.int .u64 0) (.int .i64 0) (.int .i64 0) (.int .i64 0) (.int .i64 0) (.int .i64 0)
    have hg2 : World.grownBy (w2.alloc (.cells #[.int .u64 m0, .int .i64 m1, .int .i64 m2, .int .i64 m3, .int .i64 m4, .int .i64 m5] 85)) (((((((w2.alloc (.cells #[.int .u64 m0, .int .i64 m1, .int .i64 m2, .int .i64 m3, .int .i64 m4, .int .i64 m5] 85)).setCell ⟨w.heap.size, 0, none⟩ (.int .u64 0)).setCell ⟨w.heap.size, 1, none⟩ (.int .i64 0)).setCell ⟨w.heap.size, 2, none⟩ (.int .i64 0)).setCell ⟨w.heap.size, 3, none⟩ (.int .i64 0)).setCell ⟨w.heap.size, 4, none⟩ (.int .i64 0)).setCell ⟨w.heap.size, 5, none⟩ (.int .i64 0)) (some w.heap.size) := gset6 _ _ _ _ _ _ _ _
    refine bodyPost_ret (v := .tuple #[.agg #[.int .u64 0, .int .i64 0, .int .i64 0, .int .i64 0, .int .i64 0, .int .i64 0], .int .i64 2]) (by have c := hm2.cell; simp [results, go_sem, c]; try rfl) rfl ?_
    exact ⟨rfl, HB3.out.grown hg2 HB3.out.size (by intro z hz; injection hz with hz; omega)⟩

theorem Meta_any {x : List UInt8} {v : Value} (w : World) (hv : Bs w v x) (hl : x.length ≤ 140737488355320) :
    Calls Tryz.prog 50 #[v] w fun e w' => e = .returned (.tuple #[meV (meX x).2, .int .i64 (meX x).1]) ∧ Below w.heap.size w w' := by
  by_cases h4 : x.length < 4
  · rw [meX, if_pos h4]
    exact Meta_short w hv h4
  · by_cases hs : tailOf x = crcOf (bodyOf x)
    · rw [meX, if_neg h4, if_pos hs]
      exact Meta_body w hv (by omega) hl hs
    · rw [meX, if_neg h4, if_neg hs]
      exact Meta_sum w hv (by omega) hl hs

set_option maxHeartbeats 800000 in
theorem Stood_no {b : List UInt8} {v : Value} (w : World) (hv : Bs w v b) (h31 : b.length ≠ 24) :
    Calls Tryz.prog 70 #[v] w fun e w' => e = .returned (.tuple #[mkV Mk.zero, .bool false]) ∧ Below w.heap.size w w' := by
  have hne : ((b.length : Int) != 24) = true := by
    have : ¬ (b.length : Int) = 24 := by omega
    simp [this]
  obtain ⟨A, c, rfl, hc1, hc2, _⟩ := hv
  have hb0 : Below w.heap.size w (w.alloc (.cells #[.int .u64 0, .int .i64 0, .int .u64 0] 89)) := (Below.refl _ _).alloc (Nat.le_refl _) _
  have hm0 := Blk.new w 89 #[.int .u64 0, .int .i64 0, .int .u64 0]
  clear h31
  go_enter Tryz.func70, Tryz.ntmps70
  go_wp2_with fail
  refine bodyPost_ret (v := .tuple #[.agg #[.int .u64 0, .int .i64 0, .int .u64 0], .bool false]) (by have c := hm0.cell; simp [results, go_sem, c]; try rfl) rfl ?_
  exact ⟨rfl, hb0⟩

set_option maxHeartbeats 3200000 in
theorem Stood_yes {b : List UInt8} {v : Value} (w : World) (hv : Bs w v b) (h31 : b.length = 24) :
    Calls Tryz.prog 70 #[v] w fun e w' => e = .returned (.tuple #[mkV (mkAt b), .bool (mkB (mkAt b))]) ∧ Below w.heap.size w w' := by
  have hne : ((b.length : Int) != 24) = false := by
    have : (b.length : Int) = 24 := by omega
    simp [this]
  have H31 := Lib.hid h31
  obtain ⟨A, c, rfl, hc1, hc2, hr⟩ := hv
  have HVB : Hid (Bs w (.slice A b.length c) b) := Lib.hid ⟨A, c, rfl, hc1, hc2, hr⟩
  have hb0 : Below w.heap.size w (w.alloc (.cells #[.int .u64 0, .int .i64 0, .int .u64 0] 89)) := (Below.refl _ _).alloc (Nat.le_refl _) _
  have hm0 := Blk.new w 89 #[.int .u64 0, .int .i64 0, .int .u64 0]
  have HR2 : Hid (RR ((w.alloc (.cells #[.int .u64 0, .int .i64 0, .int .u64 0] 89)).alloc (.cells #[.slice A b.length c, .int .i64 0, .int .i64 (-1)] 159)) (w.heap.size + 1) (.slice A b.length c) b 0 false) := Lib.hid (by
    have := RR.new (HVB.out.alloc (.cells #[.int .u64 0, .int .i64 0, .int .u64 0] 89)) (by omega)
    simpa using this)
  have HM2 := Lib.hid (hm0.alloc (.cells #[.slice A b.length c, .int .i64 0, .int .i64 (-1)] 159))
  have HB2 := Lib.hid (hb0.alloc hb0.size (.cells #[.slice A b.length c, .int .i64 0, .int .i64 (-1)] 159))
  clear hb0 hm0 hr h31 HVB
  go_enter Tryz.func70, Tryz.ntmps70
  go_wp2_with fail
  revert HR2 HM2 HB2
  generalize (w.alloc (.cells #[.int .u64 0, .int .i64 0, .int .u64 0] 89)).alloc (.cells #[.slice A b.length c, .int .i64 0, .int .i64 (-1)] 159) = w2
  intro HR2 HM2 HB2
  have hC := Word_yes _ _ b 0 8 _ HR2.out (by simp [wordOk, isW]; have := H31.out; omega)
  rw [show Int.toNat 8 = 8 from rfl, show 0 + 8 = 8 from rfl] at hC
  obtain ⟨n0, hn⟩ : ∃ n : Nat, n = num ((b.drop 0).take 8) := ⟨_, rfl⟩
  rw [← hn] at hC
  have HN0 := Lib.hid hn
  clear hn
  go_wp2_with fail
  refine hC.mono ?_
  rintro e w3 ⟨rfl, hR, hg⟩
  have HR3 : Hid (RR w3 (w.heap.size + 1) (.slice A b.length c) b 8 false) := Lib.hid hR
  have HM3 := Lib.hid (HM2.out.grown hg (fun h => by injection h with h; omega))
  have HB3 := Lib.hid (HB2.out.grown hg HB2.out.size (by intro z hz; injection hz with hz; omega))
  clear hR hg hC HM2 HB2 HR2
  have hC := Word_yes _ _ b 8 8 _ HR3.out (by simp [wordOk, isW]; have := H31.out; omega)
  rw [show Int.toNat 8 = 8 from rfl, show 8 + 8 = 16 from rfl] at hC
  obtain ⟨n1, hn⟩ : ∃ n : Nat, n = num ((b.drop 8).take 8) := ⟨_, rfl⟩
  rw [← hn] at hC
  have HN1 := Lib.hid hn
  clear hn
  go_wp2_with fail
  refine hC.mono ?_
  rintro e w4 ⟨rfl, hR, hg⟩
  have HR4 : Hid (RR w4 (w.heap.size + 1) (.slice A b.length c) b 16 false) := Lib.hid hR
  have HM4 := Lib.hid (HM3.out.grown hg (fun h => by injection h with h; omega))
  have HB4 := Lib.hid (HB3.out.grown hg HB3.out.size (by intro z hz; injection hz with hz; omega))
  clear hR hg hC HM3 HB3 HR3
  have hC := Word_yes _ _ b 16 8 _ HR4.out (by simp [wordOk, isW]; have := H31.out; omega)
  rw [show Int.toNat 8 = 8 from rfl, show 16 + 8 = 24 from rfl] at hC
  obtain ⟨n2, hn⟩ : ∃ n : Nat, n = num ((b.drop 16).take 8) := ⟨_, rfl⟩
  rw [← hn] at hC
  have HN2 := Lib.hid hn
  clear hn
  go_wp2_with fail
  refine hC.mono ?_
  rintro e w5 ⟨rfl, hR, hg⟩
  have HR5 : Hid (RR w5 (w.heap.size + 1) (.slice A b.length c) b 24 false) := Lib.hid hR
  have HM5 := Lib.hid (HM4.out.grown hg (fun h => by injection h with h; omega))
  have HB5 := Lib.hid (HB4.out.grown hg HB4.out.size (by intro z hz; injection hz with hz; omega))
  clear hR hg hC HM4 HB4 HR4
  have HME : Hid (mkAt b = ⟨(n0 : Int), wrap64 (n1 : Int), (n2 : Int)⟩) := Lib.hid (by
    simp only [mkAt]
    rw [HN0.out, HN1.out, HN2.out])
  have hMay := fun u => MFair_any ⟨(n0 : Int), wrap64 (n1 : Int), (n2 : Int)⟩ (okMk n0 n1 n2 (by rw [HN0.out]; exact num_lt8 _ (by simp; omega)) (by rw [HN2.out]; exact num_lt8 _ (by simp; omega))) u
  simp only [mkV] at hMay
  have HMB : Hid (mkB (mkAt b) = mkB ⟨(n0 : Int), wrap64 (n1 : Int), (n2 : Int)⟩) := Lib.hid (by rw [HME.out])
  generalize mkB ⟨(n0 : Int), wrap64 (n1 : Int), (n2 : Int)⟩ = mb at *
  have HM6 := Lib.hid (HM5.out.alloc (.cells #[.int .u64 (n0 : Int), .int .i64 (wrap64 (n1 : Int)), .int .u64 (n2 : Int)] 89))
  have HK6 := Lib.hid (Blk.new w5 89 #[.int .u64 (n0 : Int), .int .i64 (wrap64 (n1 : Int)), .int .u64 (n2 : Int)])
  have HB6 := Lib.hid (HB5.out.alloc HB5.out.size (.cells #[.int .u64 (n0 : Int), .int .i64 (wrap64 (n1 : Int)), .int .u64 (n2 : Int)] 89))
  clear HM5 HB5
  have j0 := HK6.out.cell 0
  have j1 := HK6.out.cell 1
  have j2 := HK6.out.cell 2
  go_wp2_with fail
  refine (hMay _).mono ?_
  rintro e w7 ⟨rfl, hb10⟩
  have HM7 := Lib.hid (HM6.out.below hb10 HM6.out.lt)
  have HK7 := Lib.hid (HK6.out.below hb10 HK6.out.lt)
  have HB7 := Lib.hid (HB6.out.trans (hb10.mono HB6.out.size))
  clear hb10 hMay j0 j1 j2
  clear HM6 HK6 HB6
  have j0 := HK7.out.cell 0
  have j1 := HK7.out.cell 1
  have j2 := HK7.out.cell 2
  have hfz := fun j => HM7.out.frozen j
  have k0 := HM7.out.cell 0
  have k1 := HM7.out.cell 1
  have k2 := HM7.out.cell 2
  go_wp2_with fail
  have hm2 := setall3 w.heap.size HM7.out (.int .u64 (n0 : Int)) (.int .i64 (wrap64 (n1 : Int))) (.int .u64 (n2 : Int))
  have hg2 : w7.grownBy (((w7.setCell ⟨w.heap.size, 0, none⟩ (.int .u64 (n0 : Int))).setCell ⟨w.heap.size, 1, none⟩ (.int .i64 (wrap64 (n1 : Int)))).setCell ⟨w.heap.size, 2, none⟩ (.int .u64 (n2 : Int))) (some w.heap.size) := gset3 _ _ _ _ _
  rw [HMB.out, HME.out]
  refine bodyPost_ret (v := .tuple #[.agg #[.int .u64 (n0 : Int), .int .i64 (wrap64 (n1 : Int)), .int .u64 (n2 : Int)], .bool mb]) (by have c := hm2.cell; simp [results, go_sem, c]; try rfl) rfl ?_
  exact ⟨rfl, HB7.out.grown hg2 HB7.out.size (by intro z hz; injection hz with hz; omega)⟩

theorem Stood_any {b : List UInt8} {v : Value} (w : World) (hv : Bs w v b) (_ : b.length ≤ 140737488355328) :
    Calls Tryz.prog 70 #[v] w fun e w' => ∃ m ok, e = .returned (.tuple #[mkV m, .bool ok]) ∧ mkOf b = (if ok then (0, m) else (2, Mk.zero)) ∧ Below w.heap.size w w' := by
  by_cases h31 : b.length = 24
  · refine (Stood_yes w hv h31).mono fun e w' ⟨he, hb⟩ => ⟨_, _, he, ?_, hb⟩
    cases hm : mkB (mkAt b) with
    | true => rw [mkOf, if_pos ⟨h31, hm⟩]; rfl
    | false => rw [mkOf, if_neg (fun h => by rw [hm] at h; exact Bool.false_ne_true h.2)]; rfl
  · refine (Stood_no w hv h31).mono fun e w' ⟨he, hb⟩ => ⟨_, _, he, ?_, hb⟩
    rw [mkOf, if_neg (fun h => h31 h.1)]
    rfl

theorem Marker_short {x : List UInt8} {v : Value} (w : World) (hv : Bs w v x) (hl : x.length < 4) :
    Calls Tryz.prog 51 #[v] w fun e w' => e = .returned (.tuple #[mkV Mk.zero, .int .i64 2]) ∧ Below w.heap.size w w' := by
  have hb0 : Below w.heap.size w (w.alloc (.cells #[.int .u64 0, .int .i64 0, .int .u64 0] 89)) := (Below.refl _ _).alloc (Nat.le_refl _) _
  have hm0 := Blk.new w 89 #[.int .u64 0, .int .i64 0, .int .u64 0]
  go_enter Tryz.func51, Tryz.ntmps51
  go_wp2_with fail
  refine (Open_short x v _ hl (hv.alloc _)).mono ?_
  rintro e w1 ⟨rfl, rfl⟩
  go_wp2_with fail
  refine bodyPost_ret (v := .tuple #[.agg #[.int .u64 0, .int .i64 0, .int .u64 0], .int .i64 2]) (by have c := hm0.cell; simp [results, go_sem, c]; try rfl) rfl ?_
  exact ⟨rfl, hb0⟩

set_option maxHeartbeats 1600000 in
theorem Marker_sum {x : List UInt8} {v : Value} (w : World) (hv : Bs w v x) (h4 : 4 ≤ x.length) (hl : x.length ≤ 140737488355320) (hs : tailOf x ≠ crcOf (bodyOf x)) :
    Calls Tryz.prog 51 #[v] w fun e w' => e = .returned (.tuple #[mkV Mk.zero, .int .i64 7]) ∧ Below w.heap.size w w' := by
  have hb0 : Below w.heap.size w (w.alloc (.cells #[.int .u64 0, .int .i64 0, .int .u64 0] 89)) := (Below.refl _ _).alloc (Nat.le_refl _) _
  have hm0 := Blk.new w 89 #[.int .u64 0, .int .i64 0, .int .u64 0]
  have HS := Lib.hid hs
  have hO := Open_long x v (w.alloc (.cells #[.int .u64 0, .int .i64 0, .int .u64 0] 89)) h4 (by omega) (hv.alloc _)
  have HM := Lib.hid hm0
  have HB := Lib.hid hb0
  clear hs hl h4 hm0 hb0
  go_enter Tryz.func51, Tryz.ntmps51
  go_wp2_with fail
  refine hO.mono ?_
  rintro e w1 ⟨y, f, rfl, hOp, hb1⟩
  obtain ⟨rfl, rfl⟩ := hOp.no HS.out
  have HM1 := Lib.hid (HM.out.below hb1 (by simp))
  have HB1 := Lib.hid (HB.out.trans (hb1.mono (by simp)))
  clear hO hOp hb1 HB HM
  have hfz := fun j => HM1.out.frozen j
  have k0 := HM1.out.cell 0
  have k1 := HM1.out.cell 1
  have k2 := HM1.out.cell 2
  go_wp2_with fail
  have hm2 := setall3 w.heap.size HM1.out (.int .u64 0) (.int .i64 0) (.int .u64 0)
  have hg2 : World.grownBy w1 (((w1.setCell ⟨w.heap.size, 0, none⟩ (.int .u64 0)).setCell ⟨w.heap.size, 1, none⟩ (.int .i64 0)).setCell ⟨w.heap.size, 2, none⟩ (.int .u64 0)) (some w.heap.size) := gset3 _ _ _ _ _
  refine bodyPost_ret (v := .tuple #[.agg #[.int .u64 0, .int .i64 0, .int .u64 0], .int .i64 7]) (by have c := hm2.cell; simp [results, go_sem, c]; try rfl) rfl ?_
  exact ⟨rfl, HB1.out.grown hg2 HB1.out.size (by intro z hz; injection hz with hz; omega)⟩

set_option maxHeartbeats 1600000 in
theorem Marker_body {x : List UInt8} {v : Value} (w : World) (hv : Bs w v x) (h4 : 4 ≤ x.length) (hl : x.length ≤ 140737488355320) (hs : tailOf x = crcOf (bodyOf x)) :
    Calls Tryz.prog 51 #[v] w fun e w' => e = .returned (.tuple #[mkV (mkOf (bodyOf x)).2, .int .i64 (mkOf (bodyOf x)).1]) ∧ Below w.heap.size w w' := by
  have hb0 : Below w.heap.size w (w.alloc (.cells #[.int .u64 0, .int .i64 0, .int .u64 0] 89)) := (Below.refl _ _).alloc (Nat.le_refl _) _
  have hm0 := Blk.new w 89 #[.int .u64 0, .int .i64 0, .int .u64 0]
  have HS := Lib.hid hs
  have hO := Open_long x v (w.alloc (.cells #[.int .u64 0, .int .i64 0, .int .u64 0] 89)) h4 (by omega) (hv.alloc _)
  have HM := Lib.hid hm0
  have HB := Lib.hid hb0
  have HLen : Hid ((bodyOf x).length ≤ 140737488355328) := Lib.hid (by rw [bodyOf_length]; omega)
  clear hs hl h4 hm0 hb0
  go_enter Tryz.func51, Tryz.ntmps51
  go_wp2_with fail
  refine hO.mono ?_
  rintro e w1 ⟨y, f, rfl, hOp, hb1⟩
  obtain ⟨rfl, hoy⟩ := hOp.yes HS.out
  have HM1 := Lib.hid (HM.out.below hb1 (by simp))
  have HB1 := Lib.hid (HB.out.trans (hb1.mono (by simp)))
  clear hO hOp hb1 HB HM
  go_wp2_with fail
  refine (Stood_any w1 hoy HLen.out).mono ?_
  rintro e w2 ⟨m, ok, rfl, hof, hb2⟩
  have HOF := Lib.hid hof
  have HM2 := Lib.hid (HM1.out.below hb2 HM1.out.lt)
  have HB2 := Lib.hid (HB1.out.trans (hb2.mono HB1.out.size))
  clear hof hb2 HM1 HB1 hoy
  obtain ⟨m0, m1, m2⟩ := m
  simp only [mkV]
  have HM3 := Lib.hid (HM2.out.alloc (.cells #[.int .u64 m0, .int .i64 m1, .int .u64 m2] 89))
  have HK3 := Lib.hid (Blk.new w2 89 #[.int .u64 m0, .int .i64 m1, .int .u64 m2])
  have HB3 := Lib.hid (HB2.out.alloc HB2.out.size (.cells #[.int .u64 m0, .int .i64 m1, .int .u64 m2] 89))
  clear HM2 HB2
  have hfz := fun j => HM3.out.frozen j
  have k0 := HM3.out.cell 0
  have k1 := HM3.out.cell 1
  have k2 := HM3.out.cell 2
  have j0 := HK3.out.cell 0
  have j1 := HK3.out.cell 1
  have j2 := HK3.out.cell 2
  cases ok with
  | true =>
    have HE : Hid (mkOf (bodyOf x) = (0, ⟨m0, m1, m2⟩)) := Lib.hid HOF.out
    go_wp2_with fail
    rw [HE.out]
    have hm2 := setall3 w.heap.size HM3.out (.int .u64 m0) (.int .i64 m1) (.int .u64 m2)
    have hg2 : World.grownBy (w2.alloc (.cells #[.int .u64 m0, .int .i64 m1, .int .u64 m2] 89)) ((((w2.alloc (.cells #[.int .u64 m0, .int .i64 m1, .int .u64 m2] 89)).setCell ⟨w.heap.size, 0, none⟩ (.int .u64 m0)).setCell ⟨w.heap.size, 1, none⟩ (.int .i64 m1)).setCell ⟨w.heap.size, 2, none⟩ (.int .u64 m2)) (some w.heap.size) := gset3 _ _ _ _ _
    refine bodyPost_ret (v := .tuple #[.agg #[.int .u64 m0, .int .i64 m1, .int .u64 m2], .int .i64 0]) (by have c := hm2.cell; simp [results, go_sem, c]; try rfl) rfl ?_
    exact ⟨rfl, HB3.out.grown hg2 HB3.out.size (by intro z hz; injection hz with hz; omega)⟩
  | false =>
    have HE : Hid (mkOf (bodyOf x) = (2, Mk.zero)) := Lib.hid HOF.out
    go_wp2_with fail
    rw [HE.out]
    have hm2 := setall3 w.heap.size HM3.out (.int .u64 0) (.int .i64 0) (.int .u64 0)
    have hg2 : World.grownBy (w2.alloc (.cells #[.int .u64 m0, .int .i64 m1, .int .u64 m2] 89)) ((((w2.alloc (.cells #[.int .u64 m0, .int .i64 m1, .int .u64 m2] 89)).setCell ⟨w.heap.size, 0, none⟩ (.int .u64 0)).setCell ⟨w.heap.size, 1, none⟩ (.int .i64 0)).setCell ⟨w.heap.size, 2, none⟩ (.int .u64 0)) (some w.heap.size) := gset3 _ _ _ _ _
    refine bodyPost_ret (v := .tuple #[.agg #[.int .u64 0, .int .i64 0, .int .u64 0], .int .i64 2]) (by have c := hm2.cell; simp [results, go_sem, c]; try rfl) rfl ?_
    exact ⟨rfl, HB3.out.grown hg2 HB3.out.size (by intro z hz; injection hz with hz; omega)⟩

theorem Marker_any {x : List UInt8} {v : Value} (w : World) (hv : Bs w v x) (hl : x.length ≤ 140737488355320) :
    Calls Tryz.prog 51 #[v] w fun e w' => e = .returned (.tuple #[mkV (mkX x).2, .int .i64 (mkX x).1]) ∧ Below w.heap.size w w' := by
  by_cases h4 : x.length < 4
  · rw [mkX, if_pos h4]
    exact Marker_short w hv h4
  · by_cases hs : tailOf x = crcOf (bodyOf x)
    · rw [mkX, if_neg h4, if_pos hs]
      exact Marker_body w hv (by omega) hl hs
    · rw [mkX, if_neg h4, if_neg hs]
      exact Marker_sum w hv (by omega) hl hs

end Go.Proofs.YtgafidnbmoomiaaGreatDoor
