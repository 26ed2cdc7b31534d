/-
  What an argument of type []api.Meta gives to a walk. No condition but what each theorem says.
-/
import Derived.Test.YtohcbgchloncmaaMes
import Derived.Test.YtohcbgchloncmaaRow
import Derived.Test.YtohcbgchloncmaaLvKey
import Derived.Deep.Fields
namespace Go.Proofs.Ytohcbgchloncmaa
open Go.ChangeShapes Go.WideShapes Go.ChangeAt Go.RowKit
set_option maxRecDepth 100000

section
variable {H : Type} {enc : TypeId × Value → H}
/-- 6 cells that read as one -/
theorem meC_of_cells {W : World} {u0 u1 u2 u3 u4 u5 : Value} {n0 n1 n2 n3 n4 n5 : Nat} {y0 y1 y2 y3 y4 y5 : DataW H × List MemPlace}
    (h0 : DataW.trod enc Try.prog W 0 (fun _ => true) true n0 33 [u0] = some y0) (h1 : DataW.trod enc Try.prog W 0 (fun _ => true) true n1 3 [u1] = some y1) (h2 : DataW.trod enc Try.prog W 0 (fun _ => true) true n2 2 [u2] = some y2) (h3 : DataW.trod enc Try.prog W 0 (fun _ => true) true n3 2 [u3] = some y3) (h4 : DataW.trod enc Try.prog W 0 (fun _ => true) true n4 3 [u4] = some y4) (h5 : DataW.trod enc Try.prog W 0 (fun _ => true) true n5 3 [u5] = some y5) : ∃ m : Me, MeC W m [u0, u1, u2, u3, u4, u5] := by
  obtain ⟨a0, e0, _, w0⟩ := DataW.trod_int Try.underlying33 h0
  obtain ⟨a1, e1, _, w1⟩ := DataW.trod_int Try.underlying3 h1
  obtain ⟨a2, e2, _, w2⟩ := DataW.trod_int Try.underlying2 h2
  obtain ⟨a3, e3, _, w3⟩ := DataW.trod_int Try.underlying2 h3
  obtain ⟨a4, e4, _, w4⟩ := DataW.trod_int Try.underlying3 h4
  obtain ⟨a5, e5, _, w5⟩ := DataW.trod_int Try.underlying3 h5
  simp only [List.cons.injEq, and_true] at e0 e1 e2 e3 e4 e5
  subst e0 e1 e2 e3 e4 e5
  have b0 : 0 ≤ a0 ∧ a0 ≤ 18446744073709551615 := by simpa [Lit.wf, IntKind.min, IntKind.max, IntKind.signed, IntKind.bits] using w0
  have b1 : -9223372036854775808 ≤ a1 ∧ a1 ≤ 9223372036854775807 := by simpa [Lit.wf, IntKind.min, IntKind.max, IntKind.signed, IntKind.bits] using w1
  have b2 : -9223372036854775808 ≤ a2 ∧ a2 ≤ 9223372036854775807 := by simpa [Lit.wf, IntKind.min, IntKind.max, IntKind.signed, IntKind.bits] using w2
  have b3 : -9223372036854775808 ≤ a3 ∧ a3 ≤ 9223372036854775807 := by simpa [Lit.wf, IntKind.min, IntKind.max, IntKind.signed, IntKind.bits] using w3
  have b4 : -9223372036854775808 ≤ a4 ∧ a4 ≤ 9223372036854775807 := by simpa [Lit.wf, IntKind.min, IntKind.max, IntKind.signed, IntKind.bits] using w4
  have b5 : -9223372036854775808 ≤ a5 ∧ a5 ≤ 9223372036854775807 := by simpa [Lit.wf, IntKind.min, IntKind.max, IntKind.signed, IntKind.bits] using w5
  exact ⟨⟨a0, a1, a2, a3, a4, a5⟩, ⟨b0.1, b0.2, b1.1, b1.2, b2.1, b2.2, b3.1, b3.2, b4.1, b4.2, b5.1, b5.2⟩, rfl⟩

/-- an argument of type []api.Meta -/
theorem mes_of_trod {W : World} {base : Nat} {v : Value} {d : DataW H} {p : List MemPlace} (hval : Value.okWide Try.prog W .any base 22 v)
    (h : DataW.Trod enc Try.prog W 0 (fun _ => true) true 22 v d p) : ∃ l : List Me, Mes W v l := by
  obtain ⟨A, n, c, rfl, hnc, hcm, hf⟩ := open_fields Try.underlying22 Try.underlying35 (by kernel_rfl) (by kernel_rfl) (by decide) hval h
  have key : ∀ i, i < n → ∃ (x : List Value) (s : Me) (g o : Nat), A = some ⟨g, o, none⟩ ∧ MeC W s x ∧ x.length = 6 ∧ ∀ j u, x[j]? = some u → W.cell? ⟨g, o + i * 6 + j, none⟩ = some u := by
    intro i hi
    obtain ⟨g, o, hA, hj⟩ := hf i hi
    obtain ⟨u0, n0, y0, c0, t0⟩ := hj 0 _ rfl
    obtain ⟨u1, n1, y1, c1, t1⟩ := hj 1 _ rfl
    obtain ⟨u2, n2, y2, c2, t2⟩ := hj 2 _ rfl
    obtain ⟨u3, n3, y3, c3, t3⟩ := hj 3 _ rfl
    obtain ⟨u4, n4, y4, c4, t4⟩ := hj 4 _ rfl
    obtain ⟨u5, n5, y5, c5, t5⟩ := hj 5 _ rfl
    obtain ⟨s, hs⟩ := meC_of_cells t0 t1 t2 t3 t4 t5
    refine ⟨_, s, g, o, hA, hs, rfl, fun j u hu => ?_⟩
    match j, hu with
    | 0, hu => simp at hu; subst hu; exact c0
    | 1, hu => simp at hu; subst hu; exact c1
    | 2, hu => simp at hu; subst hu; exact c2
    | 3, hu => simp at hu; subst hu; exact c3
    | 4, hu => simp at hu; subst hu; exact c4
    | 5, hu => simp at hu; subst hu; exact c5
    | j + 6, hu => simp at hu
  exact lv_of_key (R := MeC) (by omega) hnc hcm key

end

end Go.Proofs.Ytohcbgchloncmaa
