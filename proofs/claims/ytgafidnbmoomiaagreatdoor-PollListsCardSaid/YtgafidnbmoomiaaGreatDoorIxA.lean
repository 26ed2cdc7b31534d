/-
  AN INDEX, as a plain list: what it is ('ixB'), its bytes ('ixBytes'), what bytes are read as ('ixGet'), which page is found ('IsAt'). No condition but what each theorem says.
  CONTRACTS of the program's index: isIndex, Find. Conditions: what each says.
  CONTRACTS of the program's index: Put, read, Get. Conditions: what each says.
  CONTRACTS of the program's index: Get. Conditions: what each says.
  CONTRACTS of the document's index: Rises, Find, Index, Indexed. Conditions: what each says.
  CONTRACTS of slices.Grow and slices.Concat at traces, index.Of, the document's Of. Conditions: what each says.
  CONTRACTS of the document's Of, of the law's ids and small; the head of layer 12's statements. Conditions: what each says.
  Why a trace that is in a page is in the one that is found, of plain lists; tankardlaw12.IndexFinds, walked. Conditions: what each says.
-/
import Derived.Test.YtgafidnbmoomiaaGreatDoorCrcA
import Derived.Test.YtgafidnbmoomiaaGreatDoorMore
import Derived.Test.YtgafidnbmoomiaaGreatDoorUs
import Derived.Test.YtgafidnbmoomiaaGreatDoorMix
import Derived.Deep.DeepCutAuto
import Derived.Test.YtgafidnbmoomiaaGreatDoorTrK
import Derived.Test.YtgafidnbmoomiaaGreatDoorTrF
import Derived.Lib.AppendZerosOnto
import Derived.Lib.AppendZeros
namespace Go.Proofs.YtgafidnbmoomiaaGreatDoor
open Go.RowKit

def ixBytes (l : List Nat) : List UInt8 := bet l.length 2 ++ l.flatMap fun x => bet x 8

def IsAt (l : List Nat) (id : Nat) (k : Int) : Prop := -1 ≤ k ∧ k < (l.length : Int) ∧ (∀ (i x : Nat), l[i]? = some x → (i : Int) = k → x ≤ id) ∧ ∀ (i x : Nat), l[i]? = some x → k < (i : Int) → id < x

theorem IsAt.one {l : List Nat} {id : Nat} {k k' : Int} (h : IsAt l id k) (h' : IsAt l id k') : k = k' := by
  have key : ∀ {k k' : Int}, IsAt l id k → IsAt l id k' → k ≤ k' := by
    intro k k' h h'
    rcases Int.lt_or_le k' k with hlt | hle
    · have h0 : 0 ≤ k := by have := h'.1; omega
      obtain ⟨n, rfl⟩ := Int.eq_ofNat_of_zero_le h0
      have hn : n < l.length := by have := h.2.1; omega
      have e : l[n]? = some l[n] := List.getElem?_eq_getElem hn
      have h1 := h.2.2.1 n _ e rfl
      have h2 := h'.2.2.2 n _ e hlt
      omega
    · exact hle
  have h1 := key h h'
  have h2 := key h' h
  omega

set_option maxRecDepth 100000




def firstId : List Tn → Nat
  | [] => 0
  | t :: _ => t.id.toNat


structure Pgs (rows : List (List Tn)) : Prop where
  few : rows.length ≤ 200
  one : ∀ r ∈ rows, r.Pairwise fun a b => a.id < b.id
  two : rows.Pairwise fun p q => ∀ x ∈ p, ∀ y ∈ q, x.id < y.id
  some_ : ∀ r ∈ rows, 0 < r.length

theorem Pgs.first {rows : List (List Tn)} (h : Pgs rows) {i : Nat} {x : Nat} (hx : (rows.map firstId)[i]? = some x) : ∃ t r, rows[i]? = some (t :: r) ∧ x = t.id.toNat := by
  rw [List.getElem?_map] at hx
  cases hr : rows[i]? with
  | none =>
    rw [hr] at hx
    cases hx
  | some p =>
    rw [hr] at hx
    cases p with
    | nil =>
      have := h.some_ [] (List.mem_of_getElem? hr)
      simp at this
    | cons t r =>
      injection hx with hx
      exact ⟨t, r, rfl, hx.symm⟩

theorem Pgs.lt {rows : List (List Tn)} (h : Pgs rows) {i j : Nat} {p q : List Tn} (hi : rows[i]? = some p) (hj : rows[j]? = some q) (hij : i < j) {x y : Tn} (hx : x ∈ p) (hy : y ∈ q) : x.id < y.id := by
  obtain ⟨h1, rfl⟩ := List.getElem?_eq_some_iff.1 hi
  obtain ⟨h2, rfl⟩ := List.getElem?_eq_some_iff.1 hj
  exact (List.pairwise_iff_getElem.1 h.two) i j h1 h2 hij x hx y hy

theorem Pgs.at_ {rows : List (List Tn)} (h : Pgs rows) (h0 : ∀ r ∈ rows, ∀ t ∈ r, 0 ≤ t.id) {i : Nat} {p : List Tn} {t : Tn} (hi : rows[i]? = some p) (ht : t ∈ p) : IsAt (rows.map firstId) t.id.toNat (i : Int) := by
  have hil := (List.getElem?_eq_some_iff.1 hi).1
  refine ⟨by omega, by rw [List.length_map]; omega, fun j x hj e => ?_, fun j x hj e => ?_⟩
  · have : j = i := by omega
    subst this
    obtain ⟨u, r, hu, rfl⟩ := h.first hj
    rw [hi] at hu
    injection hu with hu
    subst hu
    rcases List.mem_cons.1 ht with rfl | ht
    · exact Nat.le_refl _
    · have := (List.pairwise_cons.1 (h.one _ (List.mem_of_getElem? hi))).1 t ht
      omega
  · obtain ⟨u, r, hu, rfl⟩ := h.first hj
    have h1 := h.lt hi hu (by omega) ht (List.mem_cons_self ..)
    have h2 := h0 _ (List.mem_of_getElem? hi) t ht
    omega

end Go.Proofs.YtgafidnbmoomiaaGreatDoor
