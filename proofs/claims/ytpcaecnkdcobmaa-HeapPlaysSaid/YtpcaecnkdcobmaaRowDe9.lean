/-
  What an argument of deeds (tankardlaw09.Deed), and one of type []int, gives to a walk. No condition.
-/
import Derived.Test.YtpcaecnkdcobmaaRowEl
import Derived.Test.YtpcaecnkdcobmaaHpC
import Derived.Test.YtpcaecnkdcobmaaHpE
namespace Go.Proofs.Ytpcaecnkdcobmaa
open Go.ChangeShapes Go.WideShapes Go.ChangeAt Go.RowKit
set_option maxRecDepth 100000

section
variable {H : Type} {enc : TypeId × Value → H}
/-- an argument of type []int -/
theorem is_of_trod {W : World} {base : Nat} {v : Value} {d : DataW H} {p : List MemPlace} (hval : Value.okWide Try.prog W .any base 39 v)
    (h : DataW.Trod enc Try.prog W 0 (fun _ => true) true 39 v d p) : ∃ l : List Int, Lv 1 W v (l.map iC) := by
  have hC : Try.prog.cellsOf 3 = 1 := by kernel_rfl
  obtain ⟨A, n, c, rfl, hnc, hcm, _, hf⟩ := open_elems Try.underlying39 (by rw [hC]; omega) hval h
  rw [hC] at hf
  have key : ∀ i, i < n → ∃ (x : List Value) (s : Int) (g o : Nat), A = some ⟨g, o, none⟩ ∧ x = iC s ∧ x.length = 1 ∧ ∀ j u, x[j]? = some u → W.cell? ⟨g, o + i * 1 + j, none⟩ = some u := by
    intro i hi
    obtain ⟨g, o, cs, m, y, hA, hl, hc, ht⟩ := hf i hi
    obtain ⟨a, e0, _, _⟩ := DataW.trod_int Try.underlying3 ht
    exact ⟨cs, a, g, o, hA, e0, hl, hc⟩
  obtain ⟨l, xs, h1, h2⟩ := lv_of_key (R := fun _ (s : Int) x => x = iC s) (by omega) hnc hcm key
  have : xs = l.map iC := by
    refine List.ext_getElem? fun i => ?_
    rw [List.getElem?_map]
    cases hl : l[i]? with
    | none =>
      have := List.getElem?_eq_none_iff.1 hl
      rw [List.getElem?_eq_none (by have := h2.len; omega)]
      rfl
    | some s =>
      obtain ⟨b, hb, rfl⟩ := h2.right hl
      exact hb
  exact ⟨l, this ▸ h1⟩

/-- an argument of type []tankardlaw09.Deed -/
theorem ds9_of_trod {W : World} {base : Nat} {v : Value} {d : DataW H} {p : List MemPlace} (hval : Value.okWide Try.prog W .any base 22 v)
    (h : DataW.Trod enc Try.prog W 0 (fun _ => true) true 22 v d p) : ∃ l : List De9, Ds9 W v l := by
  have hC : Try.prog.cellsOf 33 = 3 := by kernel_rfl
  have hC1 : Try.prog.cellsOf 3 = 1 := by kernel_rfl
  have hC2 : Try.prog.cellsOf 27 = 2 := by kernel_rfl
  have hC3 : Try.prog.cellsOf 9 = 1 := by kernel_rfl
  obtain ⟨A, n, c, rfl, hnc, hcm, _, hf⟩ := open_elems Try.underlying22 (by rw [hC]; omega) hval h
  rw [hC] at hf
  have key : ∀ i, i < n → ∃ (x : List Value) (s : De9) (g o : Nat), A = some ⟨g, o, none⟩ ∧ De9C W s x ∧ x.length = 3 ∧ ∀ j u, x[j]? = some u → W.cell? ⟨g, o + i * 3 + j, none⟩ = some u := by
    intro i hi
    obtain ⟨g, o, cs, m, y, hA, hl, hc, ht⟩ := hf i hi
    obtain ⟨u0, u1, u2, rfl⟩ : ∃ u0 u1 u2, cs = [u0, u1, u2] := by
      match cs, hl with
      | [u0, u1, u2], _ => exact ⟨u0, u1, u2, rfl⟩
    obtain ⟨ys, n', _, hy, hlen, hyl, hfld⟩ := DataW.trod_struct Try.underlying33 ht
    have f0 := hfld 0 _ rfl
    have f1 := hfld 1 _ rfl
    replace f0 : DataW.trod enc Try.prog W 0 (fun _ => true) true n' 3 (List.take (Try.prog.cellsOf 3) [u0, u1, u2]) = ys[0]? := f0
    replace f1 : DataW.trod enc Try.prog W 0 (fun _ => true) true n' 27 (List.take (Try.prog.cellsOf 27) [u1, u2]) = ys[1]? := f1
    rw [hC1] at f0
    rw [hC2] at f1
    have hys0 : ys[0]? = some (ys[0]'(by rw [hyl]; decide)) := List.getElem?_eq_getElem _
    have hys1 : ys[1]? = some (ys[1]'(by rw [hyl]; decide)) := List.getElem?_eq_getElem _
    rw [hys0] at f0
    rw [hys1] at f1
    replace f0 : DataW.trod enc Try.prog W 0 (fun _ => true) true n' 3 [u0] = some _ := f0
    replace f1 : DataW.trod enc Try.prog W 0 (fun _ => true) true n' 27 [u1, u2] = some _ := f1
    obtain ⟨zs, n'', _, hz, hzl, hzyl, hzf⟩ := DataW.trod_struct Try.underlying27 f1
    have g0 := hzf 0 _ rfl
    have g1 := hzf 1 _ rfl
    replace g0 : DataW.trod enc Try.prog W 0 (fun _ => true) true n'' 3 (List.take (Try.prog.cellsOf 3) [u1, u2]) = zs[0]? := g0
    replace g1 : DataW.trod enc Try.prog W 0 (fun _ => true) true n'' 9 (List.take (Try.prog.cellsOf 9) [u2]) = zs[1]? := g1
    rw [hC1] at g0
    rw [hC3] at g1
    have hzs0 : zs[0]? = some (zs[0]'(by rw [hzyl]; decide)) := List.getElem?_eq_getElem _
    have hzs1 : zs[1]? = some (zs[1]'(by rw [hzyl]; decide)) := List.getElem?_eq_getElem _
    rw [hzs0] at g0
    rw [hzs1] at g1
    replace g0 : DataW.trod enc Try.prog W 0 (fun _ => true) true n'' 3 [u1] = some _ := g0
    replace g1 : DataW.trod enc Try.prog W 0 (fun _ => true) true n'' 9 [u2] = some _ := g1
    obtain ⟨a, e0, _, w0⟩ := DataW.trod_int Try.underlying3 f0
    obtain ⟨b, e1, _, _⟩ := DataW.trod_int Try.underlying3 g0
    obtain ⟨s, e2, _, _⟩ := DataW.trod_string strT g1
    simp only [List.cons.injEq, and_true] at e0 e1 e2
    subst e0 e1 e2
    have b0 : -9223372036854775808 ≤ a ∧ a ≤ 9223372036854775807 := by simpa [Lit.wf, IntKind.min, IntKind.max, IntKind.signed, IntKind.bits] using w0
    exact ⟨_, ⟨a, ⟨b, s.data.toList⟩⟩, g, o, hA, ⟨b0, by rw [Bstr_of]⟩, rfl, hc⟩
  exact lv_of_key (R := De9C) (by omega) hnc hcm key
end
end Go.Proofs.Ytpcaecnkdcobmaa
