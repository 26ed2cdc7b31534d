/-
  Why a trace that is in a page is in the one that is found, of plain lists; tankardlaw12.IndexFinds, walked. Conditions: what each says.
-/
import Derived.Test.YtnghpcfdgjkokaaGreatDoorIxF
import Derived.Test.YtnghpcfdgjkokaaGreatDoorIxA
namespace Go.Proofs.YtnghpcfdgjkokaaGreatDoor
open Go.RowKit
set_option maxRecDepth 100000

theorem ids_pairwise : ∀ {l : List Tn}, (∀ (k : Nat) (t u : Tn), l[k]? = some t → l[k + 1]? = some u → t.id < u.id) → l.Pairwise fun a b => a.id < b.id
  | [], _ => List.Pairwise.nil
  | [t], _ => List.pairwise_singleton ..
  | t :: u :: l, h => by
    have ih := ids_pairwise (l := u :: l) fun k a b h1 h2 => h (k + 1) a b (by simpa using h1) (by simpa using h2)
    have h0 := h 0 t u rfl rfl
    refine List.Pairwise.cons (fun x hx => ?_) ih
    rcases List.mem_cons.1 hx with rfl | hx
    · exact h0
    · exact Int.lt_trans h0 ((List.pairwise_cons.1 ih).1 x hx)
/-- what pages that have an index are -/
structure Pgs (rows : List (List Tn)) : Prop where
  few : rows.length ≤ 200
  one : ∀ r ∈ rows, r.Pairwise fun a b => a.id < b.id
  two : rows.Pairwise fun p q => ∀ x ∈ p, ∀ y ∈ q, x.id < y.id
  some_ : ∀ r ∈ rows, 0 < r.length
theorem pagesB_pgs {rows : List (List Tn)} (h : pagesB rows = true) : Pgs rows := by
  rw [pagesB, Bool.and_eq_true, Bool.and_eq_true, decide_eq_true_eq, List.all_eq_true] at h
  obtain ⟨h1, h2, h3⟩ := h
  have hI : IsT rows.flatten := by
    rcases Classical.em (IsT rows.flatten) with h | h
    · exact h
    · rw [isB_false h] at h2
      cases h2
  have hp := ids_pairwise hI.up
  rw [List.pairwise_flatten] at hp
  exact ⟨h1, hp.1, hp.2, fun r hr => by simpa using h3 r hr⟩
theorem Pgs.first {rows : List (List Tn)} (h : Pgs rows) {i : Nat} {x : Nat} (hx : (rows.map firstId)[i]? = some x) : ∃ t r, rows[i]? = some (t :: r) ∧ x = t.id.toNat := by
  rw [List.getElem?_map] at hx
  cases hr : rows[i]? with
  | none =>
    rw [hr] at hx
    cases hx
  | some p =>
    rw [hr] at hx
    cases p with
    | nil =>
      have := h.some_ [] (List.mem_of_getElem? hr)
      simp at this
    | cons t r =>
      injection hx with hx
      exact ⟨t, r, rfl, hx.symm⟩
theorem Pgs.lt {rows : List (List Tn)} (h : Pgs rows) {i j : Nat} {p q : List Tn} (hi : rows[i]? = some p) (hj : rows[j]? = some q) (hij : i < j) {x y : Tn} (hx : x ∈ p) (hy : y ∈ q) : x.id < y.id := by
  obtain ⟨h1, rfl⟩ := List.getElem?_eq_some_iff.1 hi
  obtain ⟨h2, rfl⟩ := List.getElem?_eq_some_iff.1 hj
  exact (List.pairwise_iff_getElem.1 h.two) i j h1 h2 hij x hx y hy
theorem Pgs.ix {rows : List (List Tn)} (h : Pgs rows) (h0 : ∀ r ∈ rows, ∀ t ∈ r, 0 ≤ t.id) : ixB (rows.map firstId) = true := by
  rw [ixB, Bool.and_eq_true, decide_eq_true_eq, List.length_map]
  refine ⟨(risB_iff _).2 fun i a b ha hb => ?_, h.few⟩
  obtain ⟨t, r, ht, rfl⟩ := h.first ha
  obtain ⟨u, s, hu, rfl⟩ := h.first hb
  have h1 := h.lt ht hu (by omega) (List.mem_cons_self ..) (List.mem_cons_self ..)
  have h2 := h0 _ (List.mem_of_getElem? ht) t (List.mem_cons_self ..)
  omega
theorem Pgs.at_ {rows : List (List Tn)} (h : Pgs rows) (h0 : ∀ r ∈ rows, ∀ t ∈ r, 0 ≤ t.id) {i : Nat} {p : List Tn} {t : Tn} (hi : rows[i]? = some p) (ht : t ∈ p) : IsAt (rows.map firstId) t.id.toNat (i : Int) := by
  have hil := (List.getElem?_eq_some_iff.1 hi).1
  refine ⟨by omega, by rw [List.length_map]; omega, fun j x hj e => ?_, fun j x hj e => ?_⟩
  · have : j = i := by omega
    subst this
    obtain ⟨u, r, hu, rfl⟩ := h.first hj
    rw [hi] at hu
    injection hu with hu
    subst hu
    rcases List.mem_cons.1 ht with rfl | ht
    · exact Nat.le_refl _
    · have := (List.pairwise_cons.1 (h.one _ (List.mem_of_getElem? hi))).1 t ht
      omega
  · obtain ⟨u, r, hu, rfl⟩ := h.first hj
    have h1 := h.lt hi hu (by omega) ht (List.mem_cons_self ..)
    have h2 := h0 _ (List.mem_of_getElem? hi) t ht
    omega
theorem Pgs.bound {rows : List (List Tn)} (h1 : ∀ r ∈ rows, ∀ t ∈ r, t.id ≤ 18446744073709551615) : ∀ x ∈ rows.map firstId, x < 18446744073709551616 := by
  intro x hx
  obtain ⟨r, hr, rfl⟩ := List.mem_map.1 hx
  cases r with
  | nil => simp [firstId]
  | cons t r =>
    have := h1 _ hr t (List.mem_cons_self ..)
    rw [firstId]
    omega
/-- Ids that are read are numbers of a width of 8 -/
theorem sls_ids {w : World} {v : Value} {rows : List (List Tn)} (h : Sls TsV w v rows) : ∀ r ∈ rows, ∀ t ∈ r, 0 ≤ t.id ∧ t.id ≤ 18446744073709551615 := by
  intro r hr t ht
  obtain ⟨A, c, rfl, _⟩ := h.form
  obtain ⟨i, hi⟩ := List.getElem?_of_mem hr
  obtain ⟨q, o, d, _, _, _, hd⟩ := h.cell hi
  obtain ⟨B, c', rfl, _⟩ := Ts.form hd
  obtain ⟨k, hk⟩ := List.getElem?_of_mem ht
  obtain ⟨_, _, _, _, _, _, _, _, h0, h1⟩ := Ts.cells hd hk
  exact ⟨h0, h1⟩

end Go.Proofs.YtnghpcfdgjkokaaGreatDoor
