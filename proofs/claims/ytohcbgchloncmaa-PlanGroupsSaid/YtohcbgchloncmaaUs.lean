/-
  SLICES OF NUMBERS of a width of 8 ('Lv 1' of 'uC'), and such of the call's own. No condition but what each theorem says.
  SLICES OF SLICES ('Sls'). No condition but what each theorem says.
-/
import Derived.Test.YtohcbgchloncmaaWordA
import Derived.Test.YtohcbgchloncmaaLs
import Derived.Test.YtohcbgchloncmaaKee
namespace Go.Proofs.Ytohcbgchloncmaa
open Go.RowKit
set_option maxRecDepth 100000

/-- a number, as cells -/
def uC (n : Nat) : List Value := [.int .u64 (n : Int)]

/-- the value v is a slice of these numbers -/
def Us (w : World) (v : Value) (l : List Nat) : Prop := Lv 1 w v (l.map uC)

theorem uC_one {y : List Value} {l : List Nat} (hy : y ∈ l.map uC) : ∀ u ∈ y, u.oneCell' = true := by
  obtain ⟨z, _, rfl⟩ := List.mem_map.1 hy
  simp [uC, Value.oneCell']

section
variable {w w' : World} {v : Value} {l m : List Nat}
theorem Us.form (h : Us w v l) : ∃ A c, v = .slice A l.length c ∧ l.length ≤ c ∧ c ≤ 9223372036854775807 := by
  obtain ⟨A, c, hv, h1, h2⟩ := Lv.form h
  rw [List.length_map] at hv h1
  exact ⟨A, c, hv, h1, h2⟩

theorem Us.cell {A : Option Addr} {n c : Nat} (h : Us w (.slice A n c) l) {k x : Nat} (hx : l[k]? = some x) : ∃ q o, A = some ⟨q, o, none⟩ ∧ q < w.heap.size ∧ w.cell? ⟨q, o + k, none⟩ = some (.int .u64 (x : Int)) := by
  obtain ⟨q, o, e, hq, hc⟩ := Lv.cells h (by omega) (i := k) (x := uC x) (by rw [List.getElem?_map, hx]; rfl)
  exact ⟨q, o, e, hq, by simpa using hc 0 _ rfl⟩

theorem Us.below (h : Us w v l) (hb : Below w.heap.size w w') : Us w' v l := Lv.below h hb

theorem Us.nil (w : World) : Us w (.slice none 0 0) [] := Lv.nil 1 w

end

/-- a slice of numbers of the call's own -/
def OwnU (w : World) (base : Nat) (v : Value) (l : List Nat) : Prop := OwnL 1 w base 33 v (l.map uC)

section
variable {w w' : World} {base : Nat} {v : Value} {l : List Nat}
theorem OwnU.nil (w : World) (base : Nat) : OwnU w base (.slice none 0 0) [] := OwnL.nil _ _ _ _

theorem OwnU.us (h : OwnU w base v l) : Us w v l := OwnL.lv h

theorem OwnU.below (h : OwnU w base v l) (hb : Below w.heap.size w w') : OwnU w' base v l := OwnL.below h hb

theorem OwnU.lt (h : OwnU w base v l) : ∀ g, v.ownBlock = some g → base ≤ g ∧ g < w.heap.size := fun g hg => ⟨OwnL.ge h g hg, OwnL.lt h g hg⟩

theorem OwnU.lower {base' : Nat} (h : OwnU w base v l) (hb : base' ≤ base) : OwnU w base' v l := OwnL.lower h hb

theorem Us.lit (w : World) (x : Nat) (e : TypeId) : Us (w.alloc (.cells #[.int .u64 (x : Int)] e)) (.slice (some ⟨w.heap.size, 0, none⟩) 1 1) [x] := Lv.lit1 (w := w) (uC x) e

end

end Go.Proofs.Ytohcbgchloncmaa

namespace Go.Proofs.Ytohcbgchloncmaa
open Go.RowKit
set_option maxRecDepth 100000

/-- the value v is a slice of values, each of which is P -/
def Sls {β : Type} (P : World → β → Value → Prop) (w : World) (v : Value) (l : List β) : Prop := ∃ xs, Lv 1 w v xs ∧ Two (fun r x => ∃ d, x = [d] ∧ P w r d) l xs

section
variable {β : Type} {P : World → β → Value → Prop} {w w' : World} {v : Value} {l : List β}
theorem Sls.form (h : Sls P w v l) : ∃ A c, v = .slice A l.length c ∧ l.length ≤ c ∧ c ≤ 9223372036854775807 := by
  obtain ⟨xs, h1, h2⟩ := h
  obtain ⟨A, c, hv, h3, h4⟩ := h1.form
  rw [← h2.len] at hv h3
  exact ⟨A, c, hv, h3, h4⟩

theorem Sls.cell {A : Option Addr} {n c : Nat} (h : Sls P w (.slice A n c) l) {i : Nat} {r : β} (hi : l[i]? = some r) : ∃ g o d, A = some ⟨g, o, none⟩ ∧ g < w.heap.size ∧ w.cell? ⟨g, o + i, none⟩ = some d ∧ P w r d := by
  obtain ⟨xs, h1, h2⟩ := h
  obtain ⟨x, hx, d, rfl, hd⟩ := h2.right hi
  obtain ⟨g, o, hA, hg, hc⟩ := h1.cells (by omega) hx
  exact ⟨g, o, d, hA, hg, by simpa using hc 0 _ rfl, hd⟩

theorem Sls.below (hP : ∀ {r d}, P w r d → P w' r d) (h : Sls P w v l) (hb : Below w.heap.size w w') : Sls P w' v l := by
  obtain ⟨xs, h1, h2⟩ := h
  exact ⟨xs, h1.below hb, h2.mono fun _ _ ⟨d, e, hd⟩ => ⟨d, e, hP hd⟩⟩

end

end Go.Proofs.Ytohcbgchloncmaa
