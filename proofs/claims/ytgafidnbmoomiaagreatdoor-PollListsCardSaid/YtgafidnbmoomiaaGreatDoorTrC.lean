/-
  CONTRACTS of slices.Clone at spans, trace.apart. Conditions: at most 140737488355 spans.
  CONTRACTS of slices.CompactFunc at spans under trace.isOfOne, trace.leastOnes, trace.Gather.
  CONTRACTS of trace.leastOnes, trace.Gather, slices.Grow and slices.Concat at spans, trace.Merge, trace.Of. Conditions: at most 100000000 spans, Data of at most 1000000 bytes.
-/
import Derived.Test.YtgafidnbmoomiaaGreatDoorTrA
import Derived.Test.YtgafidnbmoomiaaGreatDoorCln
import Derived.Test.YtgafidnbmoomiaaGreatDoorKee
import Derived.Lib.AppendZerosOnto
import Derived.Lib.AppendZeros
namespace Go.Proofs.YtgafidnbmoomiaaGreatDoor
open Go.RowKit
set_option maxRecDepth 100000


section
variable {w w' w0 : World} {base : Nat} {v v' : Value} {l m : List Sn} {s : Sn} {x : List Value} {row row' : Option Nat}
theorem SpF.one (h : SpF w row s x) : ∀ u ∈ x, u.oneCell' = true := by
  obtain ⟨ho, d, rfl, ⟨A, c, rfl, _⟩, _⟩ := h
  intro u hu
  simp only [spCells, List.mem_cons, List.not_mem_nil, or_false] at hu
  rcases hu with rfl | rfl | rfl | rfl | rfl <;> rfl

variable (w)
end


def Lst (l r : List Sn) : Prop := ∃ d : List Sn, d.Perm l ∧ (d.Pairwise fun a b => cmpW a b ≤ 0) ∧ r = dedL d

theorem Lst.len {l r : List Sn} (h : Lst l r) : r.length ≤ l.length := by
  obtain ⟨d, h1, _, rfl⟩ := h
  have := (dedL_sub d).length_le
  have := h1.length_eq
  omega

theorem Lst.sub {l r : List Sn} (h : Lst l r) : ∀ s ∈ r, s ∈ l := by
  obtain ⟨d, h1, _, rfl⟩ := h
  exact fun s hs => h1.mem_iff.1 ((dedL_sub d).subset hs)

theorem Gat.sub {l r : List Sn} (h : Gat l r) : ∀ s ∈ r, s ∈ l := fun s hs => ((h.mem s).1 hs).1

theorem Gat.nodup {l r : List Sn} (h : Gat l r) : r.Nodup := h.up.imp fun {a b} hab e => by
  subst e
  have := three_cmpS.rf a
  omega

theorem nodup_le : ∀ {r l : List Sn}, r.Nodup → (∀ s ∈ r, s ∈ l) → r.length ≤ l.length
  | [], l, _, _ => by simp
  | a :: r, l, hn, hs => by
    rw [List.nodup_cons] at hn
    have ha := hs a (List.mem_cons_self ..)
    obtain ⟨p, q, rfl⟩ := List.append_of_mem ha
    have ih := nodup_le (r := r) (l := p ++ q) hn.2 fun s h => by
      have := hs s (List.mem_cons_of_mem _ h)
      rcases List.mem_append.1 this with h1 | h1
      · exact List.mem_append_left _ h1
      · rcases List.mem_cons.1 h1 with h2 | h2
        · subst h2; exact absurd h hn.1
        · exact List.mem_append_right _ h2
    simp only [List.length_append, List.length_cons] at ih ⊢
    omega

theorem Gat.len {l r : List Sn} (h : Gat l r) : r.length ≤ l.length := nodup_le h.nodup h.sub

end Go.Proofs.YtgafidnbmoomiaaGreatDoor
