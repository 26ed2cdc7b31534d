/-
  What an argument that is a slice gives to a walk: the cells of each element, and what they read as; an argument of type []int. No condition but what each theorem says.
-/
import Derived.Test.YtnlflgannghfpaaRow
import Derived.Test.YtnlflgannghfpaaLvKey
namespace Go.Proofs.Ytnlflgannghfpaa
open Go.ChangeShapes Go.WideShapes Go.ChangeAt Go.RowKit
set_option maxRecDepth 100000

section
variable {H : Type} {enc : TypeId × Value → H}
/-- a cell that is a slice: the cells of each element -/
theorem open_elems_cell {P : Program} {t e : TypeId} (ht : P.underlying t = some (.slice e)) (hpos : 0 < P.cellsOf e) {W : World} {v : Value} {fuel : Nat} {x : DataW H × List MemPlace} (hf : DataW.trod enc P W 0 (fun _ => true) true fuel t [v] = some x) :
    ∃ (A : Option Addr) (len cap : Nat), v = .slice A len cap ∧ len ≤ cap ∧ cap ≤ 9223372036854775807 ∧ (len = 0 ∨ ∃ es sp, x.1 = .slice es sp ∧ es.length = len) ∧
      ∀ i, i < len → ∃ (g o : Nat) (cs : List Value) (n : Nat) (y : DataW H × List MemPlace), A = some ⟨g, o, none⟩ ∧ cs.length = P.cellsOf e ∧ (∀ j u, cs[j]? = some u → W.cell? ⟨g, o + i * P.cellsOf e + j, none⟩ = some u) ∧ DataW.trod enc P W 0 (fun _ => true) true n e cs = some y := by
  rcases Deep.open_slice ht hf with ⟨hcs, hx⟩ | ⟨a, len, cap, m, n, D, Pl, hcs, _, hl, hm, hmm, hx, hi⟩
  · simp at hcs
    exact ⟨none, 0, 0, hcs, Nat.le_refl _, by omega, .inl rfl, fun i hi => by omega⟩
  · simp at hcs
    simp only [maxLen] at hm
    simp only [if_true] at hmm
    refine ⟨some a, len, cap, hcs, hl, by omega, .inr ⟨_, _, congrArg Prod.fst hx, by simp⟩, fun i hil => ?_⟩
    have hz : a.spot = none := by
      obtain ⟨cs', hc, _⟩ := hi 0 (by omega)
      obtain ⟨_, hcl, hat⟩ := World.cells?_some hc
      have h0 := hat 0 hpos
      rw [List.getElem?_eq_getElem (by omega)] at h0
      have := World.cell?_spot h0
      simpa [Addr.add] using this
    obtain ⟨g, o, sp⟩ := a
    have hsp : sp = none := hz
    subst hsp
    obtain ⟨cs', hc, ht'⟩ := hi i (by omega)
    obtain ⟨_, hcl, hat⟩ := World.cells?_some hc
    refine ⟨g, o, cs', _, _, rfl, hcl, fun j u hu => ?_, ht'⟩
    have hj := (List.getElem?_eq_some_iff.1 hu).1
    have hcell := hat j (by omega)
    rw [hu] at hcell
    rw [← hcell, add_add, Addr.add_lit, Nat.add_assoc]
/-- an argument that is a slice -/
theorem open_elems {P : Program} {t e : TypeId} (ht : P.underlying t = some (.slice e)) (hpos : 0 < P.cellsOf e) {W : World} {base : Nat} {v : Value} {d : DataW H} {p : List MemPlace} (hval : Value.okWide P W .any base t v) (h : DataW.Trod enc P W 0 (fun _ => true) true t v d p) :
    ∃ (A : Option Addr) (len cap : Nat), v = .slice A len cap ∧ len ≤ cap ∧ cap ≤ 9223372036854775807 ∧ (len = 0 ∨ ∃ es sp, d = .slice es sp ∧ es.length = len) ∧
      ∀ i, i < len → ∃ (g o : Nat) (cs : List Value) (n : Nat) (y : DataW H × List MemPlace), A = some ⟨g, o, none⟩ ∧ cs.length = P.cellsOf e ∧ (∀ j u, cs[j]? = some u → W.cell? ⟨g, o + i * P.cellsOf e + j, none⟩ = some u) ∧ DataW.trod enc P W 0 (fun _ => true) true n e cs = some y := by
  obtain ⟨a1, len, cap, rfl⟩ := okWide_slice ht hval
  obtain ⟨fuel, hf⟩ := h
  have hf1 : DataW.trod enc P W 0 (fun _ => true) true fuel t [.slice a1 len cap] = some (d, p) := by simpa [Value.cells] using hf
  exact open_elems_cell ht hpos hf1
end
end Go.Proofs.Ytnlflgannghfpaa
