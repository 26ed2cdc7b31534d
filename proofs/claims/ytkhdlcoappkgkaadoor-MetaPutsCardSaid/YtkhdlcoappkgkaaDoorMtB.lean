/-
  CONTRACTS of the program's May, Fair, and of the document's May, Fair (written by tools/genmay.py). Conditions: what each says.
-/
import Derived.Test.YtkhdlcoappkgkaaDoorMtA
namespace Go.Proofs.YtkhdlcoappkgkaaDoor
open Go.RowKit
set_option maxRecDepth 100000

theorem among_yes (n a b : Int) (w : World) (h : a ≤ n ∧ n ≤ b) : Calls Tryd.prog 28 #[.int .i64 n, .int .i64 a, .int .i64 b] w fun e w' => e = .returned (.bool true) ∧ w' = w := by
  obtain ⟨h1, h2⟩ := h
  go_enter Tryd.func28, Tryd.ntmps28
  go_wp2
  go_ret
  exact ⟨by first | rfl | exact ret_bool (by simp; omega), rfl⟩
theorem among_no (n a b : Int) (w : World) (h : ¬ (a ≤ n ∧ n ≤ b)) : Calls Tryd.prog 28 #[.int .i64 n, .int .i64 a, .int .i64 b] w fun e w' => e = .returned (.bool false) ∧ w' = w := by
  by_cases h1 : a ≤ n
  · have h2 : ¬ n ≤ b := fun h2 => h ⟨h1, h2⟩
    clear h
    go_enter Tryd.func28, Tryd.ntmps28
    go_wp2
    go_ret
    exact ⟨by first | rfl | exact ret_bool (by simp; omega), rfl⟩
  · clear h
    go_enter Tryd.func28, Tryd.ntmps28
    go_wp2
    go_ret
    exact ⟨by first | rfl | exact ret_bool (by simp; omega), rfl⟩

set_option maxHeartbeats 3200000 in
theorem mmay_any (m : Me) (ho : m.ok) (w : World) : Calls Tryd.prog 12 #[meV m] w fun e w' => e = .returned (.bool (meB m)) ∧ Below w.heap.size w w' := by
  obtain ⟨i, l, s, e, p, t⟩ := m
  show Calls Tryd.prog 12 #[.agg #[.int .u64 i, .int .i64 l, .int .i64 s, .int .i64 e, .int .i64 p, .int .i64 t]] w _
  by_cases c1 : 1 ≤ i
  rotate_left
  · have E : meB ⟨i, l, s, e, p, t⟩ = false := decide_eq_false fun h => c1 (by obtain ⟨q0, q1, q2, q3, q4, q5, q6, q7, q8, q9⟩ := h; exact q0)
    rw [E]
    clear E
    go_enter Tryd.func12, Tryd.ntmps12
    go_wp2_with fail
    go_ret
    exact ⟨by first | rfl | exact ret_bool (decide_eq_true (by omega)) | exact ret_bool (decide_eq_false (by omega)) | (exact ret_bool (by simp; omega)), (Below.refl _ _).alloc (Nat.le_refl _) _⟩
  by_cases cL : 0 ≤ l ∧ l ≤ 10
  rotate_left
  · have E : meB ⟨i, l, s, e, p, t⟩ = false := decide_eq_false fun h => cL (by obtain ⟨q0, q1, q2, q3, q4, q5, q6, q7, q8, q9⟩ := h; exact ⟨q1, q2⟩)
    rw [E]
    clear E
    go_enter Tryd.func12, Tryd.ntmps12
    go_wp2_with fail
    refine (among_no _ _ _ _ cL).mono ?_
    rintro e w1 ⟨rfl, rfl⟩
    go_wp2_with fail
    go_ret
    exact ⟨by first | rfl | exact ret_bool (decide_eq_true (by omega)) | exact ret_bool (decide_eq_false (by omega)) | (exact ret_bool (by simp; omega)), (Below.refl _ _).alloc (Nat.le_refl _) _⟩
  by_cases c3 : 0 ≤ s
  rotate_left
  · have E : meB ⟨i, l, s, e, p, t⟩ = false := decide_eq_false fun h => c3 (by obtain ⟨q0, q1, q2, q3, q4, q5, q6, q7, q8, q9⟩ := h; exact q3)
    rw [E]
    clear E
    go_enter Tryd.func12, Tryd.ntmps12
    go_wp2_with fail
    refine (among_yes _ _ _ _ cL).mono ?_
    rintro e w1 ⟨rfl, rfl⟩
    go_wp2_with fail
    go_ret
    exact ⟨by first | rfl | exact ret_bool (decide_eq_true (by omega)) | exact ret_bool (decide_eq_false (by omega)) | (exact ret_bool (by simp; omega)), (Below.refl _ _).alloc (Nat.le_refl _) _⟩
  by_cases c4 : s ≤ e
  rotate_left
  · have E : meB ⟨i, l, s, e, p, t⟩ = false := decide_eq_false fun h => c4 (by obtain ⟨q0, q1, q2, q3, q4, q5, q6, q7, q8, q9⟩ := h; exact q4)
    rw [E]
    clear E
    go_enter Tryd.func12, Tryd.ntmps12
    go_wp2_with fail
    refine (among_yes _ _ _ _ cL).mono ?_
    rintro e w1 ⟨rfl, rfl⟩
    go_wp2_with fail
    go_ret
    exact ⟨by first | rfl | exact ret_bool (decide_eq_true (by omega)) | exact ret_bool (decide_eq_false (by omega)) | (exact ret_bool (by simp; omega)), (Below.refl _ _).alloc (Nat.le_refl _) _⟩
  by_cases c5 : e ≤ 1099511627776
  rotate_left
  · have E : meB ⟨i, l, s, e, p, t⟩ = false := decide_eq_false fun h => c5 (by obtain ⟨q0, q1, q2, q3, q4, q5, q6, q7, q8, q9⟩ := h; exact q5)
    rw [E]
    clear E
    go_enter Tryd.func12, Tryd.ntmps12
    go_wp2_with fail
    refine (among_yes _ _ _ _ cL).mono ?_
    rintro e w1 ⟨rfl, rfl⟩
    go_wp2_with fail
    go_ret
    exact ⟨by first | rfl | exact ret_bool (decide_eq_true (by omega)) | exact ret_bool (decide_eq_false (by omega)) | (exact ret_bool (by simp; omega)), (Below.refl _ _).alloc (Nat.le_refl _) _⟩
  by_cases cP : 1 ≤ p ∧ p ≤ 200
  rotate_left
  · have E : meB ⟨i, l, s, e, p, t⟩ = false := decide_eq_false fun h => cP (by obtain ⟨q0, q1, q2, q3, q4, q5, q6, q7, q8, q9⟩ := h; exact ⟨q6, q7⟩)
    rw [E]
    clear E
    go_enter Tryd.func12, Tryd.ntmps12
    go_wp2_with fail
    refine (among_yes _ _ _ _ cL).mono ?_
    rintro e w1 ⟨rfl, rfl⟩
    go_wp2_with fail
    refine (among_no _ _ _ _ cP).mono ?_
    rintro e w1 ⟨rfl, rfl⟩
    go_wp2_with fail
    go_ret
    exact ⟨by first | rfl | exact ret_bool (decide_eq_true (by omega)) | exact ret_bool (decide_eq_false (by omega)) | (exact ret_bool (by simp; omega)), (Below.refl _ _).alloc (Nat.le_refl _) _⟩
  by_cases cT : p ≤ t ∧ t ≤ p * 64
  rotate_left
  · have E : meB ⟨i, l, s, e, p, t⟩ = false := decide_eq_false fun h => cT (by obtain ⟨q0, q1, q2, q3, q4, q5, q6, q7, q8, q9⟩ := h; exact ⟨q8, by simp only at q9; omega⟩)
    rw [E]
    clear E
    go_enter Tryd.func12, Tryd.ntmps12
    go_wp2_with fail
    refine (among_yes _ _ _ _ cL).mono ?_
    rintro e w1 ⟨rfl, rfl⟩
    go_wp2_with fail
    refine (among_yes _ _ _ _ cP).mono ?_
    rintro e w1 ⟨rfl, rfl⟩
    go_wp2_with fail
    refine (among_no _ _ _ _ cT).mono ?_
    rintro e w1 ⟨rfl, rfl⟩
    go_wp2_with fail
    go_ret
    exact ⟨by first | rfl | exact ret_bool (decide_eq_true (by omega)) | exact ret_bool (decide_eq_false (by omega)) | (exact ret_bool (by simp; omega)), (Below.refl _ _).alloc (Nat.le_refl _) _⟩
  have E : meB ⟨i, l, s, e, p, t⟩ = true := decide_eq_true ⟨c1, cL.1, cL.2, c3, c4, c5, cP.1, cP.2, cT.1, by simp only; omega⟩
  rw [E]
  clear E
  go_enter Tryd.func12, Tryd.ntmps12
  go_wp2_with fail
  refine (among_yes _ _ _ _ cL).mono ?_
  rintro e w1 ⟨rfl, rfl⟩
  go_wp2_with fail
  refine (among_yes _ _ _ _ cP).mono ?_
  rintro e w1 ⟨rfl, rfl⟩
  go_wp2_with fail
  refine (among_yes _ _ _ _ cT).mono ?_
  rintro e w1 ⟨rfl, rfl⟩
  go_wp2_with fail
  go_ret
  exact ⟨by first | rfl | exact ret_bool (decide_eq_true (by omega)) | exact ret_bool (decide_eq_false (by omega)) | (exact ret_bool (by simp; omega)), (Below.refl _ _).alloc (Nat.le_refl _) _⟩

set_option maxHeartbeats 3200000 in
theorem MMay_any (m : Me) (ho : m.ok) (w : World) : Calls Tryd.prog 10 #[meV m] w fun e w' => e = .returned (.bool (meB m)) ∧ Below w.heap.size w w' := by
  obtain ⟨i, l, s, e, p, t⟩ := m
  show Calls Tryd.prog 10 #[.agg #[.int .u64 i, .int .i64 l, .int .i64 s, .int .i64 e, .int .i64 p, .int .i64 t]] w _
  by_cases c1 : 0 < i
  rotate_left
  · have E : meB ⟨i, l, s, e, p, t⟩ = false := decide_eq_false fun h => c1 (by obtain ⟨q0, q1, q2, q3, q4, q5, q6, q7, q8, q9⟩ := h; exact q0)
    rw [E]
    clear E
    go_enter Tryd.func10, Tryd.ntmps10
    go_wp2_with fail
    go_ret
    exact ⟨by first | rfl | exact ret_bool (decide_eq_true (by omega)) | exact ret_bool (decide_eq_false (by omega)) | (exact ret_bool (by simp; omega)), (Below.refl _ _).alloc (Nat.le_refl _) _⟩
  by_cases c2 : 0 ≤ l
  rotate_left
  · have E : meB ⟨i, l, s, e, p, t⟩ = false := decide_eq_false fun h => c2 (by obtain ⟨q0, q1, q2, q3, q4, q5, q6, q7, q8, q9⟩ := h; exact q1)
    rw [E]
    clear E
    go_enter Tryd.func10, Tryd.ntmps10
    go_wp2_with fail
    go_ret
    exact ⟨by first | rfl | exact ret_bool (decide_eq_true (by omega)) | exact ret_bool (decide_eq_false (by omega)) | (exact ret_bool (by simp; omega)), (Below.refl _ _).alloc (Nat.le_refl _) _⟩
  by_cases c2b : l ≤ 10
  rotate_left
  · have E : meB ⟨i, l, s, e, p, t⟩ = false := decide_eq_false fun h => c2b (by obtain ⟨q0, q1, q2, q3, q4, q5, q6, q7, q8, q9⟩ := h; exact q2)
    rw [E]
    clear E
    go_enter Tryd.func10, Tryd.ntmps10
    go_wp2_with fail
    go_ret
    exact ⟨by first | rfl | exact ret_bool (decide_eq_true (by omega)) | exact ret_bool (decide_eq_false (by omega)) | (exact ret_bool (by simp; omega)), (Below.refl _ _).alloc (Nat.le_refl _) _⟩
  by_cases c3 : 0 ≤ s
  rotate_left
  · have E : meB ⟨i, l, s, e, p, t⟩ = false := decide_eq_false fun h => c3 (by obtain ⟨q0, q1, q2, q3, q4, q5, q6, q7, q8, q9⟩ := h; exact q3)
    rw [E]
    clear E
    go_enter Tryd.func10, Tryd.ntmps10
    go_wp2_with fail
    go_ret
    exact ⟨by first | rfl | exact ret_bool (decide_eq_true (by omega)) | exact ret_bool (decide_eq_false (by omega)) | (exact ret_bool (by simp; omega)), (Below.refl _ _).alloc (Nat.le_refl _) _⟩
  by_cases c4 : s ≤ e
  rotate_left
  · have E : meB ⟨i, l, s, e, p, t⟩ = false := decide_eq_false fun h => c4 (by obtain ⟨q0, q1, q2, q3, q4, q5, q6, q7, q8, q9⟩ := h; exact q4)
    rw [E]
    clear E
    go_enter Tryd.func10, Tryd.ntmps10
    go_wp2_with fail
    go_ret
    exact ⟨by first | rfl | exact ret_bool (decide_eq_true (by omega)) | exact ret_bool (decide_eq_false (by omega)) | (exact ret_bool (by simp; omega)), (Below.refl _ _).alloc (Nat.le_refl _) _⟩
  by_cases c5 : e ≤ 1099511627776
  rotate_left
  · have E : meB ⟨i, l, s, e, p, t⟩ = false := decide_eq_false fun h => c5 (by obtain ⟨q0, q1, q2, q3, q4, q5, q6, q7, q8, q9⟩ := h; exact q5)
    rw [E]
    clear E
    go_enter Tryd.func10, Tryd.ntmps10
    go_wp2_with fail
    go_ret
    exact ⟨by first | rfl | exact ret_bool (decide_eq_true (by omega)) | exact ret_bool (decide_eq_false (by omega)) | (exact ret_bool (by simp; omega)), (Below.refl _ _).alloc (Nat.le_refl _) _⟩
  by_cases c6 : 1 ≤ p
  rotate_left
  · have E : meB ⟨i, l, s, e, p, t⟩ = false := decide_eq_false fun h => c6 (by obtain ⟨q0, q1, q2, q3, q4, q5, q6, q7, q8, q9⟩ := h; exact q6)
    rw [E]
    clear E
    go_enter Tryd.func10, Tryd.ntmps10
    go_wp2_with fail
    go_ret
    exact ⟨by first | rfl | exact ret_bool (decide_eq_true (by omega)) | exact ret_bool (decide_eq_false (by omega)) | (exact ret_bool (by simp; omega)), (Below.refl _ _).alloc (Nat.le_refl _) _⟩
  by_cases c7 : p ≤ 200
  rotate_left
  · have E : meB ⟨i, l, s, e, p, t⟩ = false := decide_eq_false fun h => c7 (by obtain ⟨q0, q1, q2, q3, q4, q5, q6, q7, q8, q9⟩ := h; exact q7)
    rw [E]
    clear E
    go_enter Tryd.func10, Tryd.ntmps10
    go_wp2_with fail
    go_ret
    exact ⟨by first | rfl | exact ret_bool (decide_eq_true (by omega)) | exact ret_bool (decide_eq_false (by omega)) | (exact ret_bool (by simp; omega)), (Below.refl _ _).alloc (Nat.le_refl _) _⟩
  by_cases c8 : p ≤ t
  rotate_left
  · have E : meB ⟨i, l, s, e, p, t⟩ = false := decide_eq_false fun h => c8 (by obtain ⟨q0, q1, q2, q3, q4, q5, q6, q7, q8, q9⟩ := h; exact q8)
    rw [E]
    clear E
    go_enter Tryd.func10, Tryd.ntmps10
    go_wp2_with fail
    go_ret
    exact ⟨by first | rfl | exact ret_bool (decide_eq_true (by omega)) | exact ret_bool (decide_eq_false (by omega)) | (exact ret_bool (by simp; omega)), (Below.refl _ _).alloc (Nat.le_refl _) _⟩
  by_cases c9 : t ≤ 64 * p
  rotate_left
  · have E : meB ⟨i, l, s, e, p, t⟩ = false := decide_eq_false fun h => c9 (by obtain ⟨q0, q1, q2, q3, q4, q5, q6, q7, q8, q9⟩ := h; exact q9)
    rw [E]
    clear E
    go_enter Tryd.func10, Tryd.ntmps10
    go_wp2_with fail
    go_ret
    exact ⟨by first | rfl | exact ret_bool (decide_eq_true (by omega)) | exact ret_bool (decide_eq_false (by omega)) | (exact ret_bool (by simp; omega)), (Below.refl _ _).alloc (Nat.le_refl _) _⟩
  have E : meB ⟨i, l, s, e, p, t⟩ = true := decide_eq_true ⟨c1, c2, c2b, c3, c4, c5, c6, c7, c8, c9⟩
  rw [E]
  clear E
  go_enter Tryd.func10, Tryd.ntmps10
  go_wp2_with fail
  go_ret
  exact ⟨by first | rfl | exact ret_bool (decide_eq_true (by omega)) | exact ret_bool (decide_eq_false (by omega)) | (exact ret_bool (by simp; omega)), (Below.refl _ _).alloc (Nat.le_refl _) _⟩

set_option maxHeartbeats 3200000 in
theorem mfair_any (m : Mk) (ho : m.ok) (w : World) : Calls Tryd.prog 13 #[mkV m] w fun e w' => e = .returned (.bool (mkB m)) ∧ Below w.heap.size w w' := by
  obtain ⟨i, a, b⟩ := m
  show Calls Tryd.prog 13 #[.agg #[.int .u64 i, .int .i64 a, .int .u64 b]] w _
  by_cases c1 : 1 ≤ i
  rotate_left
  · have E : mkB ⟨i, a, b⟩ = false := decide_eq_false fun h => c1 (by obtain ⟨q0, q1, q2, q3⟩ := h; exact q0)
    rw [E]
    clear E
    go_enter Tryd.func13, Tryd.ntmps13
    go_wp2_with fail
    go_ret
    exact ⟨by first | rfl | exact ret_bool (decide_eq_true (by omega)) | exact ret_bool (decide_eq_false (by omega)) | (exact ret_bool (by simp; omega)), (Below.refl _ _).alloc (Nat.le_refl _) _⟩
  by_cases c2 : 0 ≤ a
  rotate_left
  · have E : mkB ⟨i, a, b⟩ = false := decide_eq_false fun h => c2 (by obtain ⟨q0, q1, q2, q3⟩ := h; exact q1)
    rw [E]
    clear E
    go_enter Tryd.func13, Tryd.ntmps13
    go_wp2_with fail
    go_ret
    exact ⟨by first | rfl | exact ret_bool (decide_eq_true (by omega)) | exact ret_bool (decide_eq_false (by omega)) | (exact ret_bool (by simp; omega)), (Below.refl _ _).alloc (Nat.le_refl _) _⟩
  by_cases c3 : a ≤ 1099511627776
  rotate_left
  · have E : mkB ⟨i, a, b⟩ = false := decide_eq_false fun h => c3 (by obtain ⟨q0, q1, q2, q3⟩ := h; exact q2)
    rw [E]
    clear E
    go_enter Tryd.func13, Tryd.ntmps13
    go_wp2_with fail
    go_ret
    exact ⟨by first | rfl | exact ret_bool (decide_eq_true (by omega)) | exact ret_bool (decide_eq_false (by omega)) | (exact ret_bool (by simp; omega)), (Below.refl _ _).alloc (Nat.le_refl _) _⟩
  by_cases c4 : b ≠ i
  rotate_left
  · have E : mkB ⟨i, a, b⟩ = false := decide_eq_false fun h => c4 (by obtain ⟨q0, q1, q2, q3⟩ := h; exact q3)
    rw [E]
    clear E
    obtain rfl : b = i := by omega
    go_enter Tryd.func13, Tryd.ntmps13
    go_wp2_with fail
    go_ret
    exact ⟨by first | rfl | exact ret_bool (decide_eq_true (by omega)) | exact ret_bool (decide_eq_false (by omega)) | (exact ret_bool (by simp; omega)), (Below.refl _ _).alloc (Nat.le_refl _) _⟩
  have E : mkB ⟨i, a, b⟩ = true := decide_eq_true ⟨c1, c2, c3, c4⟩
  rw [E]
  clear E
  have hbi : (b == i) = false := by simpa using c4
  go_enter Tryd.func13, Tryd.ntmps13
  go_wp2_with fail
  go_ret
  exact ⟨by first | rfl | exact ret_bool (decide_eq_true (by omega)) | exact ret_bool (decide_eq_false (by omega)) | (exact ret_bool (by simp; omega)), (Below.refl _ _).alloc (Nat.le_refl _) _⟩

set_option maxHeartbeats 3200000 in
theorem MFair_any (m : Mk) (ho : m.ok) (w : World) : Calls Tryd.prog 11 #[mkV m] w fun e w' => e = .returned (.bool (mkB m)) ∧ Below w.heap.size w w' := by
  obtain ⟨i, a, b⟩ := m
  show Calls Tryd.prog 11 #[.agg #[.int .u64 i, .int .i64 a, .int .u64 b]] w _
  by_cases c1 : 0 < i
  rotate_left
  · have E : mkB ⟨i, a, b⟩ = false := decide_eq_false fun h => c1 (by obtain ⟨q0, q1, q2, q3⟩ := h; exact q0)
    rw [E]
    clear E
    go_enter Tryd.func11, Tryd.ntmps11
    go_wp2_with fail
    go_ret
    exact ⟨by first | rfl | exact ret_bool (decide_eq_true (by omega)) | exact ret_bool (decide_eq_false (by omega)) | (exact ret_bool (by simp; omega)), (Below.refl _ _).alloc (Nat.le_refl _) _⟩
  by_cases c2 : 0 ≤ a
  rotate_left
  · have E : mkB ⟨i, a, b⟩ = false := decide_eq_false fun h => c2 (by obtain ⟨q0, q1, q2, q3⟩ := h; exact q1)
    rw [E]
    clear E
    go_enter Tryd.func11, Tryd.ntmps11
    go_wp2_with fail
    go_ret
    exact ⟨by first | rfl | exact ret_bool (decide_eq_true (by omega)) | exact ret_bool (decide_eq_false (by omega)) | (exact ret_bool (by simp; omega)), (Below.refl _ _).alloc (Nat.le_refl _) _⟩
  by_cases c3 : a ≤ 1099511627776
  rotate_left
  · have E : mkB ⟨i, a, b⟩ = false := decide_eq_false fun h => c3 (by obtain ⟨q0, q1, q2, q3⟩ := h; exact q2)
    rw [E]
    clear E
    go_enter Tryd.func11, Tryd.ntmps11
    go_wp2_with fail
    go_ret
    exact ⟨by first | rfl | exact ret_bool (decide_eq_true (by omega)) | exact ret_bool (decide_eq_false (by omega)) | (exact ret_bool (by simp; omega)), (Below.refl _ _).alloc (Nat.le_refl _) _⟩
  by_cases c4 : b ≠ i
  rotate_left
  · have E : mkB ⟨i, a, b⟩ = false := decide_eq_false fun h => c4 (by obtain ⟨q0, q1, q2, q3⟩ := h; exact q3)
    rw [E]
    clear E
    obtain rfl : b = i := by omega
    go_enter Tryd.func11, Tryd.ntmps11
    go_wp2_with fail
    go_ret
    exact ⟨by first | rfl | exact ret_bool (decide_eq_true (by omega)) | exact ret_bool (decide_eq_false (by omega)) | (exact ret_bool (by simp; omega)), (Below.refl _ _).alloc (Nat.le_refl _) _⟩
  have E : mkB ⟨i, a, b⟩ = true := decide_eq_true ⟨c1, c2, c3, c4⟩
  rw [E]
  clear E
  have hbi : (b == i) = false := by simpa using c4
  go_enter Tryd.func11, Tryd.ntmps11
  go_wp2_with fail
  go_ret
  exact ⟨by first | rfl | exact ret_bool (decide_eq_true (by omega)) | exact ret_bool (decide_eq_false (by omega)) | (exact ret_bool (by simp; omega)), (Below.refl _ _).alloc (Nat.le_refl _) _⟩


end Go.Proofs.YtkhdlcoappkgkaaDoor
