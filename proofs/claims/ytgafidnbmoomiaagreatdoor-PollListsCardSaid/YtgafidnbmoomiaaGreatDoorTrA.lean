/-
  A SLICE OF SPANS OF THE CALL's OWN ('Own5'), and slices.SortFunc over it: what it makes of it. Conditions: the comparison answers by a plain comparison of three answers, and lays blocks alone.
  CONTRACTS of the comparisons: span.Compare once more (it lays blocks alone), trace's compareWhole, compareInTraces, isOfOne, bytes.Compare, and the document's Less.
-/
import Derived.Test.YtgafidnbmoomiaaGreatDoorGat
import Derived.Test.YtgafidnbmoomiaaGreatDoorSpanB
import Derived.Shelf.GgSortFunc.InsertionK
import Derived.Test.YtgafidnbmoomiaaGreatDoorMix
namespace Go.Proofs.YtgafidnbmoomiaaGreatDoor
open Go.RowKit
set_option maxRecDepth 100000


section
variable {α β γ : Type} {R : α → β → Prop}
theorem Two.tail {a : α} {b : β} {l : List α} {m : List β} (h : Two R (a :: l) (b :: m)) : R a b ∧ Two R l m :=
  ⟨h.at_ 0 a b rfl rfl, by have := h.len; simpa using this, fun i x y h1 h2 => h.at_ (i + 1) x y (by simpa using h1) (by simpa using h2)⟩

end

def SpF (w : World) (row : Option Nat) (s : Sn) (x : List Value) : Prop := s.ok ∧ ∃ d, x = spCells s d ∧ Bs w d s.data ∧ (s.data ≠ [] → d.ownBlock ≠ row)

section
variable {w w' : World} {base : Nat} {v : Value} {l : List Sn} {s : Sn} {x : List Value} {row r : Option Nat}
theorem SpF.grown (h : SpF w row s x) (hg : w.grownBy w' row) : SpF w' row s x := by
  obtain ⟨ho, d, hx, hd, hn⟩ := h
  exact ⟨ho, d, hx, hd.grown hg hn, hn⟩

theorem SpF.below (h : SpF w row s x) (hb : Below w.heap.size w w') : SpF w' row s x := by
  obtain ⟨ho, d, hx, hd, hn⟩ := h
  exact ⟨ho, d, hx, hd.below hb, hn⟩

end

def El (w : World) (g : Nat) : Type := { p : Sn × Value // p.1.ok ∧ Bs w p.2 p.1.data ∧ (p.1.data ≠ [] → p.2.ownBlock ≠ some g) }

instance El.inh (w : World) (g : Nat) : Inhabited (El w g) :=
  ⟨⟨(⟨0, 0, 0, 0, []⟩, .slice none 0 0), ⟨by decide, by decide, by decide, by decide, by decide, by decide, by decide, by decide⟩, Bs.nil w, fun h => absurd rfl h⟩⟩

section
open Go.Sort
end

section
open Go.Sort
end

def Only (w w' : World) : Prop := ∃ q os, w' = Sort.grow (w.drewN q) os

section
variable {w w' w'' : World}
theorem Only.refl (w : World) : Only w w := ⟨0, #[], by simp [Sort.grow, World.drewN]⟩

theorem Only.alloc (h : Only w w') (o : Obj) : Only w (w'.alloc o) := by
  obtain ⟨q, os, rfl⟩ := h
  exact ⟨q, os ++ #[o], by rw [Sort.alloc_eq_grow, Sort.grow_grow]⟩

theorem Only.drew (h : Only w w') : Only w w'.drew := by
  obtain ⟨q, os, rfl⟩ := h
  exact ⟨q + 1, os, rfl⟩

theorem Only.trans (h : Only w w') (h' : Only w' w'') : Only w w'' := by
  obtain ⟨q, os, rfl⟩ := h
  obtain ⟨q', os', rfl⟩ := h'
  exact ⟨q + q', os ++ os', by rw [← Sort.grow_grow]; simp [Sort.grow, World.drewN, Nat.add_assoc]⟩

theorem Only.below (h : Only w w') : Below w.heap.size w w' := by
  obtain ⟨q, os, rfl⟩ := h
  exact ⟨rfl, rfl, rfl, by simp [World.drewN], fun k hk => by rw [Sort.heap_grow_old _ _ (by simpa [World.drewN] using hk)]; rfl⟩

end

section
variable {P : Program} (w : World)
end

def cmpT (a b : Sn) : Int := lexC (fun a b => cmpI a.tr b.tr) cmpS a b

end Go.Proofs.YtgafidnbmoomiaaGreatDoor
