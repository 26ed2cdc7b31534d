/-
  What an argument of type []uint64 reads as; five parameters' arguments. No condition but what each theorem says.
-/
import Derived.Test.YtnlflgannghfpaaRowEl
import Derived.Test.YtnlflgannghfpaaUs
namespace Go.Proofs.Ytnlflgannghfpaa
open Go.ChangeShapes Go.WideShapes Go.ChangeAt Go.RowKit
set_option maxRecDepth 100000

section
variable {H : Type} {enc : TypeId × Value → H}
theorem us_of_trod {W : World} {base : Nat} {v : Value} {d : DataW H} {p : List MemPlace} (hval : Value.okWide Try.prog W .any base 26 v)
    (h : DataW.Trod enc Try.prog W 0 (fun _ => true) true 26 v d p) : ∃ l : List Nat, Lv 1 W v (l.map uC) ∧ ∀ x ∈ l, x < 18446744073709551616 := by
  have hC : Try.prog.cellsOf 23 = 1 := by kernel_rfl
  obtain ⟨A, n, c, rfl, hnc, hcm, _, hf⟩ := open_elems Try.underlying26 (by rw [hC]; omega) hval h
  rw [hC] at hf
  have key : ∀ i, i < n → ∃ (x : List Value) (s : Nat) (g o : Nat), A = some ⟨g, o, none⟩ ∧ (x = uC s ∧ s < 18446744073709551616) ∧ x.length = 1 ∧ ∀ j u, x[j]? = some u → W.cell? ⟨g, o + i * 1 + j, none⟩ = some u := by
    intro i hi
    obtain ⟨g, o, cs, m, y, hA, hl, hc, ht⟩ := hf i hi
    obtain ⟨a, e0, _, hw⟩ := DataW.trod_int Try.underlying23 ht
    have hb : 0 ≤ a ∧ a ≤ 18446744073709551615 := by simpa [Lit.wf, IntKind.min, IntKind.max, IntKind.signed, IntKind.bits] using hw
    obtain ⟨s, rfl⟩ := Int.eq_ofNat_of_zero_le hb.1
    exact ⟨cs, s, g, o, hA, ⟨e0, by omega⟩, hl, hc⟩
  obtain ⟨l, xs, h1, h2⟩ := lv_of_key (R := fun _ (s : Nat) x => x = uC s ∧ s < 18446744073709551616) (by omega) hnc hcm key
  have : xs = l.map uC := by
    refine List.ext_getElem? fun i => ?_
    rw [List.getElem?_map]
    cases hl : l[i]? with
    | none =>
      have := List.getElem?_eq_none_iff.1 hl
      rw [List.getElem?_eq_none (by have := h2.len; omega)]
      rfl
    | some s =>
      obtain ⟨b, hb, rfl, _⟩ := h2.right hl
      exact hb
  refine ⟨l, this ▸ h1, fun x hx => ?_⟩
  obtain ⟨i, hi⟩ := List.getElem?_of_mem hx
  obtain ⟨b, _, _, h⟩ := h2.right hi
  exact h
theorem trodAll_five {P : Program} {w : World} {base : Nat} {spare : Nat → Bool} {held : Bool} {t t' t'' t3 t4 : TypeId} {args : Array Value} {ds : List (DataW H)} {ps : List MemPlace} (h : DataW.TrodAll enc P w base spare held [t, t', t'', t3, t4] args.toList ds ps) :
    ∃ v v' v'' v3 v4 d d' d'' d3 d4 p p' p'' p3 p4, args = #[v, v', v'', v3, v4] ∧ ds = [d, d', d'', d3, d4] ∧ ps = p ++ p' ++ p'' ++ p3 ++ p4 ∧ DataW.Trod enc P w base spare held t v d p ∧ DataW.Trod enc P w base spare held t' v' d' p' ∧ DataW.Trod enc P w base spare held t'' v'' d'' p'' ∧ DataW.Trod enc P w base spare held t3 v3 d3 p3 ∧ DataW.Trod enc P w base spare held t4 v4 d4 p4 := by
  obtain ⟨v, vs, d, ds', p, q, hargs, rfl, rfl, hd, hrest⟩ := trodAll_cons h
  obtain ⟨v', vs', d', ds'', p', q', rfl, rfl, rfl, hd', hrest'⟩ := trodAll_cons hrest
  obtain ⟨v'', vs'', d'', ds''', p'', q'', rfl, rfl, rfl, hd'', hrest''⟩ := trodAll_cons hrest'
  obtain ⟨v3, vs3, d3, ds3, p3, q3, rfl, rfl, rfl, hd3, hrest3⟩ := trodAll_cons hrest''
  obtain ⟨v4, vs4, d4, ds4, p4, q4, rfl, rfl, rfl, hd4, hrest4⟩ := trodAll_cons hrest3
  obtain ⟨rfl, rfl, rfl⟩ := trodAll_nil hrest4
  exact ⟨v, v', v'', v3, v4, d, d', d'', d3, d4, p, p', p'', p3, p4, by cases args; simp_all, rfl, by simp, hd, hd', hd'', hd3, hd4⟩
end
end Go.Proofs.Ytnlflgannghfpaa
