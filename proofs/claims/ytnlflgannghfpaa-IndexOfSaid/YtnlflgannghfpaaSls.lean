/-
  SLICES OF SLICES ('Sls'). No condition but what each theorem says.
-/
import Derived.Test.YtnlflgannghfpaaLs
namespace Go.Proofs.Ytnlflgannghfpaa
open Go.RowKit
set_option maxRecDepth 100000

/-- the value v is a slice of values, each of which is P -/
def Sls {β : Type} (P : World → β → Value → Prop) (w : World) (v : Value) (l : List β) : Prop := ∃ xs, Lv 1 w v xs ∧ Two (fun r x => ∃ d, x = [d] ∧ P w r d) l xs
section
variable {β : Type} {P : World → β → Value → Prop} {w w' : World} {v : Value} {l : List β}
theorem Sls.form (h : Sls P w v l) : ∃ A c, v = .slice A l.length c ∧ l.length ≤ c ∧ c ≤ 9223372036854775807 := by
  obtain ⟨xs, h1, h2⟩ := h
  obtain ⟨A, c, hv, h3, h4⟩ := h1.form
  rw [← h2.len] at hv h3
  exact ⟨A, c, hv, h3, h4⟩
theorem Sls.cell {A : Option Addr} {n c : Nat} (h : Sls P w (.slice A n c) l) {i : Nat} {r : β} (hi : l[i]? = some r) : ∃ g o d, A = some ⟨g, o, none⟩ ∧ g < w.heap.size ∧ w.cell? ⟨g, o + i, none⟩ = some d ∧ P w r d := by
  obtain ⟨xs, h1, h2⟩ := h
  obtain ⟨x, hx, d, rfl, hd⟩ := h2.right hi
  obtain ⟨g, o, hA, hg, hc⟩ := h1.cells (by omega) hx
  exact ⟨g, o, d, hA, hg, by simpa using hc 0 _ rfl, hd⟩
theorem Sls.below (hP : ∀ {r d}, P w r d → P w' r d) (h : Sls P w v l) (hb : Below w.heap.size w w') : Sls P w' v l := by
  obtain ⟨xs, h1, h2⟩ := h
  exact ⟨xs, h1.below hb, h2.mono fun _ _ ⟨d, e, hd⟩ => ⟨d, e, hP hd⟩⟩
end
end Go.Proofs.Ytnlflgannghfpaa
