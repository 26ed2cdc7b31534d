/-
  AN INDEX, as a plain list: what it is ('ixB'), its bytes ('ixBytes'), what bytes are read as ('ixGet'), which page is found ('IsAt'). No condition but what each theorem says.
-/
import Derived.Test.YtnlflgannghfpaaCrcE
import Derived.Test.YtnlflgannghfpaaWordH
namespace Go.Proofs.Ytnlflgannghfpaa
open Go.RowKit

/-- do these rise? -/
def risB : List Nat → Bool
  | [] => true
  | [_] => true
  | a :: b :: l => decide (a < b) && risB (b :: l)
theorem risB_snoc : ∀ (l : List Nat) (a b : Nat), risB (l ++ [a, b]) = (risB (l ++ [a]) && decide (a < b))
  | [], a, b => by simp [risB]
  | [x], a, b => by simp [risB]
  | x :: y :: l, a, b => by
    have := risB_snoc (y :: l) a b
    simp only [List.cons_append, risB] at this ⊢
    rw [this, Bool.and_assoc]
theorem risB_iff : ∀ (l : List Nat), risB l = true ↔ ∀ (i a b : Nat), l[i]? = some a → l[i + 1]? = some b → a < b
  | [] => by simp [risB]
  | [x] => by
    simp only [risB, true_iff]
    intro i a b h1 h2
    simp at h2
  | x :: y :: l => by
    rw [risB, Bool.and_eq_true, decide_eq_true_eq, risB_iff (y :: l)]
    constructor
    · rintro ⟨h1, h2⟩ i a b ha hb
      cases i with
      | zero =>
        simp at ha hb
        omega
      | succ i => exact h2 i a b (by simpa using ha) (by simpa using hb)
    · intro h
      exact ⟨h 0 x y rfl rfl, fun i a b ha hb => h (i + 1) a b (by simpa using ha) (by simpa using hb)⟩
/-- is it an index? -/
def ixB (l : List Nat) : Bool := risB l && decide (l.length ≤ 200)
/-- its bytes, without a sum -/
def ixBytes (l : List Nat) : List UInt8 := bet l.length 2 ++ l.flatMap fun x => bet x 8
theorem ix_flat (l : List Nat) : (l.flatMap fun x => bet x 8).length = 8 * l.length := by
  induction l with
  | nil => rfl
  | cons x l ih =>
    rw [List.flatMap_cons, List.length_append, ih, bet_length, List.length_cons]
    omega
theorem ixBytes_length (l : List Nat) : (ixBytes l).length = 2 + 8 * l.length := by rw [ixBytes, List.length_append, bet_length, ix_flat]
/-- the numbers behind the first two bytes -/
def ixNums (b : List UInt8) (n : Nat) : List Nat := (List.range n).map fun i => num ((b.drop (2 + 8 * i)).take 8)
theorem ixNums_length (b : List UInt8) (n : Nat) : (ixNums b n).length = n := by simp [ixNums]
theorem ixNums_succ (b : List UInt8) (n : Nat) : ixNums b (n + 1) = ixNums b n ++ [num ((b.drop (2 + 8 * n)).take 8)] := by simp [ixNums, List.range_succ]
theorem ixNums_lt (b : List UInt8) (n : Nat) : ∀ x ∈ ixNums b n, x < 18446744073709551616 := by
  intro x hx
  obtain ⟨i, _, rfl⟩ := List.mem_map.1 hx
  exact num_lt8 _ (by simp; omega)
/-- the index that bytes without a sum are, if they are one's -/
noncomputable def ixGet (b : List UInt8) : Option (List Nat) := if b.length = 2 + 8 * num (b.take 2) ∧ ixB (ixNums b (num (b.take 2))) = true then some (ixNums b (num (b.take 2))) else none
theorem ixNums_put (l : List Nat) (h : ∀ x ∈ l, x < 18446744073709551616) : ∀ n, n ≤ l.length → ixNums (ixBytes l) n = l.take n := by
  have key : ∀ (m : List Nat) (i x : Nat), m[i]? = some x → ((m.flatMap fun x => bet x 8).drop (8 * i)).take 8 = bet x 8 := by
    intro m
    induction m with
    | nil => intro i x h; simp at h
    | cons y m ih =>
      intro i x h
      rw [List.flatMap_cons]
      cases i with
      | zero =>
        simp at h
        subst h
        rw [Nat.mul_zero, List.drop_zero, List.take_left' (bet_length _ _)]
      | succ i =>
        rw [show 8 * (i + 1) = (bet y 8).length + 8 * i by rw [bet_length]; omega, List.drop_length_add_append]
        exact ih i x (by simpa using h)
  intro n
  induction n with
  | zero => intro _; rfl
  | succ n ih =>
    intro hn
    have hl : l[n]? = some l[n] := List.getElem?_eq_getElem (by omega)
    have hln0 : n < l.length := hn
    rw [ixNums_succ, ih (Nat.le_of_lt hn), List.take_succ_eq_append_getElem hln0]
    congr 2
    rw [ixBytes, show 2 + 8 * n = (bet l.length 2).length + 8 * n by rw [bet_length], List.drop_length_add_append, key l n _ hl]
    have hln : l[n] < 18446744073709551616 := h _ (List.getElem_mem (by omega))
    exact num_bet 8 _ (by simpa using hln)
theorem ixGet_put (l : List Nat) (h : ∀ x ∈ l, x < 18446744073709551616) (hi : ixB l = true) : ixGet (ixBytes l) = some l := by
  have h2 : l.length ≤ 200 := by
    rw [ixB, Bool.and_eq_true, decide_eq_true_eq] at hi
    exact hi.2
  have hn : num ((ixBytes l).take 2) = l.length := by
    rw [ixBytes, List.take_left' (bet_length _ _)]
    exact num_bet 2 _ (by omega)
  have he : ixNums (ixBytes l) l.length = l := by rw [ixNums_put l h _ (Nat.le_refl _), List.take_length]
  rw [ixGet, hn, he, if_pos ⟨ixBytes_length l, hi⟩]

/-- an index that was read, or none, as an error's number and numbers -/
def ixRes : Option (List Nat) → Int × List Nat
  | none => (2, [])
  | some l => (0, l)
/-- what bytes are read as: an error's number, and the index -/
noncomputable def ixX (x : List UInt8) : Int × List Nat :=
  if x.length < 4 then (2, []) else if tailOf x = crcOf (bodyOf x) then ixRes (ixGet (bodyOf x)) else (7, [])
theorem ixX_code (x : List UInt8) : 0 ≤ (ixX x).1 ∧ (ixX x).1 ≤ 10 := by
  unfold ixX
  split
  · simp
  · split
    · cases ixGet (bodyOf x) <;> simp [ixRes]
    · simp
theorem ixX_put (l : List Nat) (h : ∀ x ∈ l, x < 18446744073709551616) (hi : ixB l = true) : ixX (sealedOf (ixBytes l)) = (0, l) := by
  have h4 : ¬ (sealedOf (ixBytes l)).length < 4 := by rw [sealedOf_length]; omega
  rw [ixX, if_neg h4, if_pos (tail_sealed _), body_sealed, ixGet_put l h hi, ixRes]

/-- the last one that is no greater than id is at 'at' (-1: there is none) -/
def IsAt (l : List Nat) (id : Nat) (k : Int) : Prop := -1 ≤ k ∧ k < (l.length : Int) ∧ (∀ (i x : Nat), l[i]? = some x → (i : Int) = k → x ≤ id) ∧ ∀ (i x : Nat), l[i]? = some x → k < (i : Int) → id < x
theorem IsAt.one {l : List Nat} {id : Nat} {k k' : Int} (h : IsAt l id k) (h' : IsAt l id k') : k = k' := by
  have key : ∀ {k k' : Int}, IsAt l id k → IsAt l id k' → k ≤ k' := by
    intro k k' h h'
    rcases Int.lt_or_le k' k with hlt | hle
    · have h0 : 0 ≤ k := by have := h'.1; omega
      obtain ⟨n, rfl⟩ := Int.eq_ofNat_of_zero_le h0
      have hn : n < l.length := by have := h.2.1; omega
      have e : l[n]? = some l[n] := List.getElem?_eq_getElem hn
      have h1 := h.2.2.1 n _ e rfl
      have h2 := h'.2.2.2 n _ e hlt
      omega
    · exact hle
  have h1 := key h h'
  have h2 := key h' h
  omega
end Go.Proofs.Ytnlflgannghfpaa
