/-
  WHAT IS LEAST FIRST, as plain lists: an order (WeakO), the first one that is least (IsFirst): there is one, and no other; popped until empty (SInv). No condition but what each theorem says.
-/
import Derived.Test.YtpanpebllapbcaaKee
namespace Go.Proofs.Ytpanpebllapbcaa
open Go.RowKit

/-- an order on what meets D -/
structure WeakO {α : Type} (R : α → α → Bool) (D : α → Prop) : Prop where
  irr : ∀ a, D a → R a a = false
  trans : ∀ a b c, D a → D b → D c → R a b = true → R b c = true → R a c = true
  split : ∀ a b c, D a → D b → D c → R a c = true → R a b = true ∨ R b c = true
/-- x, at place i, is the first one of those that are least -/
structure IsFirst {α : Type} (R : α → α → Bool) (l : List α) (i : Nat) (x : α) : Prop where
  at_ : l[i]? = some x
  ahead : ∀ (j : Nat) (y : α), l[j]? = some y → j < i → R x y = true
  least : ∀ (j : Nat) (y : α), l[j]? = some y → R y x = false
theorem IsFirst.one {α : Type} {R : α → α → Bool} {l : List α} {i i' : Nat} {x x' : α} (h : IsFirst R l i x) (h' : IsFirst R l i' x') : i = i' ∧ x = x' := by
  have hi : i = i' := by
    rcases Nat.lt_trichotomy i i' with hlt | heq | hlt
    · have h1 := h'.ahead i x h.at_ hlt
      rw [h.least i' x' h'.at_] at h1
      cases h1
    · exact heq
    · have h1 := h.ahead i' x' h'.at_ hlt
      rw [h'.least i x h.at_] at h1
      cases h1
  subst hi
  have := h.at_.symm.trans h'.at_
  injection this with this
  exact ⟨rfl, this⟩
theorem isFirst_ex {α : Type} {R : α → α → Bool} {D : α → Prop} (hR : WeakO R D) : ∀ (l : List α), l ≠ [] → (∀ y ∈ l, D y) → ∃ i x, IsFirst R l i x
  | [], h, _ => absurd rfl h
  | [a], _, hD => ⟨0, a, rfl, fun j y _ hj => absurd hj (by omega), fun j y hj => by
      match j, hj with
      | 0, hj => simp at hj; subst hj; exact hR.irr a (hD a (List.mem_cons_self ..))
      | j + 1, hj => simp at hj⟩
  | a :: b :: l, _, hD => by
    obtain ⟨i, x, h⟩ := isFirst_ex hR (b :: l) (by simp) fun y hy => hD y (List.mem_cons_of_mem _ hy)
    have hxm : x ∈ b :: l := List.mem_of_getElem? h.at_
    have hDx := hD x (List.mem_cons_of_mem _ hxm)
    have hDa := hD a (List.mem_cons_self ..)
    cases hxa : R x a with
    | true =>
      refine ⟨i + 1, x, by simpa using h.at_, fun j y hj hlt => ?_, fun j y hj => ?_⟩
      · match j, hj with
        | 0, hj => simp at hj; subst hj; exact hxa
        | j + 1, hj => exact h.ahead j y (by simpa using hj) (by omega)
      · match j, hj with
        | 0, hj =>
          simp at hj
          subst hj
          cases hax : R a x with
          | false => rfl
          | true =>
            have h1 := hR.trans a x a hDa hDx hDa hax hxa
            rw [hR.irr a hDa] at h1
            cases h1
        | j + 1, hj => exact h.least j y (by simpa using hj)
    | false =>
      refine ⟨0, a, rfl, fun j y _ hj => absurd hj (by omega), fun j y hj => ?_⟩
      match j, hj with
      | 0, hj => simp at hj; subst hj; exact hR.irr a hDa
      | j + 1, hj =>
        have hj' : (b :: l)[j]? = some y := by simpa using hj
        have hDy := hD y (List.mem_cons_of_mem _ (List.mem_of_getElem? hj'))
        have hyx := h.least j y hj'
        cases hya : R y a with
        | false => rfl
        | true =>
          rcases hR.split y x a hDy hDx hDa hya with h1 | h1
          · rw [hyx] at h1; cases h1
          · rw [hxa] at h1; cases h1

/-- indexes popped by what they stand for: what is left, and the last one that was popped -/
structure SInv (L : Int → Int) (n : Nat) (h : List Int) (last : Int) : Prop where
  rise : h.Pairwise (· < ·)
  rng : ∀ y ∈ h, 0 ≤ y ∧ y < n
  low : -1 ≤ last ∧ last < n
  lst : 0 ≤ last → ∀ y ∈ h, L last < L y ∨ (L last = L y ∧ last < y)
theorem weakL (L : Int → Int) (D : Int → Prop) : WeakO (fun a b => decide (L a < L b)) D where
  irr a _ := by simp
  trans a b c _ _ _ h1 h2 := by simp only [decide_eq_true_eq] at *; omega
  split a b c _ _ _ h1 := by simp only [decide_eq_true_eq] at *; omega
theorem SInv.pop {L : Int → Int} {n : Nat} {h : List Int} {last x : Int} {i : Nat} (hI : SInv L n h last) (hF : IsFirst (fun a b => decide (L a < L b)) h i x) :
    (0 ≤ x ∧ x < n) ∧ (0 ≤ last → ¬ L x < L last ∧ ¬ (L x = L last ∧ x ≤ last)) ∧ SInv L n (h.eraseIdx i) x := by
  have hxm : x ∈ h := List.mem_of_getElem? hF.at_
  have hx := hI.rng x hxm
  refine ⟨hx, fun h0 => ?_, List.Pairwise.sublist (List.eraseIdx_sublist h i) hI.rise, fun y hy => hI.rng y ((List.eraseIdx_sublist h i).subset hy), ⟨by omega, hx.2⟩, fun _ y hy => ?_⟩
  · have := hI.lst h0 x hxm
    omega
  · obtain ⟨j, hji, hj⟩ := List.mem_eraseIdx_iff_getElem?.1 hy
    have h1 := hF.least j y hj
    simp only [decide_eq_false_iff_not] at h1
    rcases Nat.lt_or_gt_of_ne hji with hlt | hgt
    · have h2 := hF.ahead j y hj hlt
      simp only [decide_eq_true_eq] at h2
      exact .inl h2
    · obtain ⟨hi1, hi2⟩ := List.getElem?_eq_some_iff.1 hF.at_
      obtain ⟨hj1, hj2⟩ := List.getElem?_eq_some_iff.1 hj
      have h3 := (List.pairwise_iff_getElem.1 hI.rise) i j hi1 hj1 hgt
      rw [hi2, hj2] at h3
      omega
end Go.Proofs.Ytpanpebllapbcaa
