/-
  What an argument of type []tankardlaw17.Put, or roster.Roster, gives to a walk. No condition but what each theorem says.
-/
import Derived.Test.YtgafidnbmoomiaaGreatDoorRoI
import Derived.Test.YtgafidnbmoomiaaGreatDoorRow
import Derived.Test.YtgafidnbmoomiaaGreatDoorLvKey
import Derived.Deep.Fields
namespace Go.Proofs.YtgafidnbmoomiaaGreatDoor
open Go.ChangeShapes Go.WideShapes Go.ChangeAt Go.RowKit
set_option maxRecDepth 100000

section
variable {H : Type} {enc : TypeId × Value → H}
theorem ptC_of_cells {W : World} {u0 u1 : Value} {n0 n1 : Nat} {y0 y1 : DataW H × List MemPlace}
    (h0 : DataW.trod enc Tryz.prog W 0 (fun _ => true) true n0 9 [u0] = some y0) (h1 : DataW.trod enc Tryz.prog W 0 (fun _ => true) true n1 42 [u1] = some y1) : ∃ p : Ob, PtC W p [u0, u1] := by
  obtain ⟨s, e0, _, w0⟩ := DataW.trod_string strT h0
  obtain ⟨l, hl⟩ := bs_of_cell byteT cellsB h1
  simp only [List.cons.injEq, and_true] at e0
  subst e0
  exact ⟨⟨s.data.toList, l⟩, by simpa [maxLen] using w0, _, by rw [Bstr_of], hl⟩

theorem pts_of_trod {W : World} {base : Nat} {v : Value} {d : DataW H} {p : List MemPlace} (hval : Value.okWide Tryz.prog W .any base 22 v)
    (h : DataW.Trod enc Tryz.prog W 0 (fun _ => true) true 22 v d p) : ∃ l : List Ob, Pts W v l := by
  obtain ⟨A, n, c, rfl, hnc, hcm, hf⟩ := open_fields Tryz.underlying22 Tryz.underlying44 (by kernel_rfl) (by kernel_rfl) (by decide) hval h
  have key : ∀ i, i < n → ∃ (x : List Value) (s : Ob) (g o : Nat), A = some ⟨g, o, none⟩ ∧ PtC W s x ∧ x.length = 2 ∧ ∀ j u, x[j]? = some u → W.cell? ⟨g, o + i * 2 + j, none⟩ = some u := by
    intro i hi
    obtain ⟨g, o, hA, hj⟩ := hf i hi
    obtain ⟨u0, n0, y0, c0, t0⟩ := hj 0 _ rfl
    obtain ⟨u1, n1, y1, c1, t1⟩ := hj 1 _ rfl
    obtain ⟨s, hs⟩ := ptC_of_cells t0 t1
    refine ⟨_, s, g, o, hA, hs, rfl, fun j u hu => ?_⟩
    match j, hu with
    | 0, hu => simp at hu; subst hu; exact c0
    | 1, hu => simp at hu; subst hu; exact c1
    | j + 2, hu => simp at hu
  exact lv_of_key (R := PtC) (by omega) hnc hcm key

end

end Go.Proofs.YtgafidnbmoomiaaGreatDoor
