/-
  What an argument of type api.Span, or of spans, gives to a walk. No condition.
-/
import Derived.Test.YtnghpcfdgjkokaaGreatDoorSpanB
import Derived.Test.YtnghpcfdgjkokaaGreatDoorRow
import Derived.Deep.Fields
namespace Go.Proofs.YtnghpcfdgjkokaaGreatDoor
open Go.ChangeShapes Go.WideShapes Go.ChangeAt Go.RowKit

theorem cellsB1 : Tryz.prog.cellsOf 5 = 1 := by kernel_rfl

section
variable {H : Type} {enc : TypeId × Value → H}

/-- five cells that read as a span -/
theorem span_of_cells {W : World} {u0 u1 u2 u3 u4 : Value} {n0 n1 n2 n3 n4 : Nat} {y0 y1 y2 y3 y4 : DataW H × List MemPlace}
    (h0 : DataW.trod enc Tryz.prog W 0 (fun _ => true) true n0 22 [u0] = some y0) (h1 : DataW.trod enc Tryz.prog W 0 (fun _ => true) true n1 22 [u1] = some y1)
    (h2 : DataW.trod enc Tryz.prog W 0 (fun _ => true) true n2 2 [u2] = some y2) (h3 : DataW.trod enc Tryz.prog W 0 (fun _ => true) true n3 2 [u3] = some y3)
    (h4 : DataW.trod enc Tryz.prog W 0 (fun _ => true) true n4 40 [u4] = some y4) : ∃ s : Sn, SpC W s [u0, u1, u2, u3, u4] := by
  obtain ⟨t, e0, _, w0⟩ := DataW.trod_int Tryz.underlying22 h0
  obtain ⟨i, e1, _, w1⟩ := DataW.trod_int Tryz.underlying22 h1
  obtain ⟨s, e2, _, w2⟩ := DataW.trod_int Tryz.underlying2 h2
  obtain ⟨f, e3, _, w3⟩ := DataW.trod_int Tryz.underlying2 h3
  obtain ⟨l, hl⟩ := bs_of_cell byteT cellsB1 h4
  simp only [List.cons.injEq, and_true] at e0 e1 e2 e3
  subst e0 e1 e2 e3
  have b0 : 0 ≤ t ∧ t ≤ 18446744073709551615 := by simpa [Lit.wf, IntKind.min, IntKind.max, IntKind.signed, IntKind.bits] using w0
  have b1 : 0 ≤ i ∧ i ≤ 18446744073709551615 := by simpa [Lit.wf, IntKind.min, IntKind.max, IntKind.signed, IntKind.bits] using w1
  have b2 : -9223372036854775808 ≤ s ∧ s ≤ 9223372036854775807 := by simpa [Lit.wf, IntKind.min, IntKind.max, IntKind.signed, IntKind.bits] using w2
  have b3 : -9223372036854775808 ≤ f ∧ f ≤ 9223372036854775807 := by simpa [Lit.wf, IntKind.min, IntKind.max, IntKind.signed, IntKind.bits] using w3
  exact ⟨⟨t, i, s, f, l⟩, ⟨b0.1, b0.2, b1.1, b1.2, b2.1, b2.2, b3.1, b3.2⟩, _, rfl, hl⟩

theorem ss_of_key {W : World} {A : Option Addr} {n c : Nat} (hnc : n ≤ c) (hcm : c ≤ 9223372036854775807)
    (key : ∀ i, i < n → ∃ (x : List Value) (s : Sn) (g o : Nat), A = some ⟨g, o, none⟩ ∧ SpC W s x ∧ x.length = 5 ∧ ∀ j u, x[j]? = some u → W.cell? ⟨g, o + i * 5 + j, none⟩ = some u) : ∃ l : List Sn, Ss W (.slice A n c) l := by
  obtain ⟨ps, hpl, hps⟩ := all_of_each (Q := fun i (p : List Value × Sn) => ∃ (g o : Nat), A = some ⟨g, o, none⟩ ∧ SpC W p.2 p.1 ∧ p.1.length = 5 ∧ ∀ j u, p.1[j]? = some u → W.cell? ⟨g, o + i * 5 + j, none⟩ = some u)
    (fun i hi => by obtain ⟨x, s, h⟩ := key i hi; exact ⟨(x, s), h⟩)
  have hk5 : ∀ x ∈ ps.map (·.1), x.length = 5 := by
    intro x hx
    obtain ⟨p, hp, rfl⟩ := List.mem_map.1 hx
    obtain ⟨i, hi⟩ := List.mem_iff_getElem?.1 hp
    obtain ⟨g, o, _, _, h5, _⟩ := hps i p hi
    exact h5
  refine ⟨ps.map (·.2), ps.map (·.1), ⟨A, c, by simp [hpl], by simp [hpl, hnc], hcm, hk5, ?_⟩, ⟨by simp, fun i s x h1 h2 => ?_⟩⟩
  · intro j u hu
    have hj := (List.getElem?_eq_some_iff.1 hu).1
    rw [flat_length hk5, List.length_map, hpl] at hj
    have hi : j / 5 < n := by omega
    have hp : ps[j / 5]? = some (ps[j / 5]'(by omega)) := List.getElem?_eq_getElem (by omega)
    obtain ⟨g, o, hA, _, h5, hc⟩ := hps _ _ hp
    have hx : (ps.map (·.1))[j / 5]? = some (ps[j / 5]'(by omega)).1 := by rw [List.getElem?_map, hp]; rfl
    have hm : j % 5 < 5 := Nat.mod_lt _ (by omega)
    have he : j / 5 * 5 + j % 5 = j := by omega
    have hfl := flat_at hk5 hx hm
    rw [he] at hfl
    rw [hfl] at hu
    refine ⟨_, hA, ?_⟩
    rw [Addr.add_lit]
    have := hc _ u hu
    rw [Nat.add_assoc, he] at this
    exact this
  · rw [List.getElem?_map] at h1 h2
    cases hp : ps[i]? with
    | none => rw [hp] at h1; cases h1
    | some p =>
      rw [hp] at h1 h2
      simp at h1 h2
      subst h1 h2
      obtain ⟨g, o, _, hs, _⟩ := hps i p hp
      exact hs

set_option maxRecDepth 100000 in
/-- an argument of type api.Span -/
theorem sv_of_trod {W : World} {base : Nat} {v : Value} {d : DataW H} {p : List MemPlace} (hval : Value.okWide Tryz.prog W .any base 72 v)
    (h : DataW.Trod enc Tryz.prog W 0 (fun _ => true) true 72 v d p) : ∃ s : Sn, SV W v s := by
  obtain ⟨cs, rfl, hsz, hf⟩ := open_agg Tryz.underlying72 (by kernel_rfl) (by kernel_rfl) hval h
  obtain ⟨u0, n0, y0, c0, t0⟩ := hf 0 _ rfl
  obtain ⟨u1, n1, y1, c1, t1⟩ := hf 1 _ rfl
  obtain ⟨u2, n2, y2, c2, t2⟩ := hf 2 _ rfl
  obtain ⟨u3, n3, y3, c3, t3⟩ := hf 3 _ rfl
  obtain ⟨u4, n4, y4, c4, t4⟩ := hf 4 _ rfl
  obtain ⟨s, hok, d, hx, hd⟩ := span_of_cells t0 t1 t2 t3 t4
  refine ⟨s, hok, d, ?_, hd⟩
  obtain ⟨l⟩ := cs
  simp only [List.size_toArray, List.getElem?_toArray] at hsz c0 c1 c2 c3 c4
  match l, hsz with
  | [x0, x1, x2, x3, x4], _ =>
    simp at c0 c1 c2 c3 c4
    subst c0 c1 c2 c3 c4
    simp only [spCells, List.cons.injEq, and_true] at hx
    obtain ⟨rfl, rfl, rfl, rfl, rfl⟩ := hx
    rfl

set_option maxRecDepth 100000 in
/-- an argument of type []api.Span -/
theorem ss_of_trod {W : World} {base : Nat} {v : Value} {d : DataW H} {p : List MemPlace} (hval : Value.okWide Tryz.prog W .any base 73 v)
    (h : DataW.Trod enc Tryz.prog W 0 (fun _ => true) true 73 v d p) : ∃ l : List Sn, Ss W v l := by
  obtain ⟨A, n, c, rfl, hnc, hcm, hf⟩ := open_fields Tryz.underlying73 Tryz.underlying72 (by kernel_rfl) (by kernel_rfl) (by decide) hval h
  have key : ∀ i, i < n → ∃ (x : List Value) (s : Sn) (g o : Nat), A = some ⟨g, o, none⟩ ∧ SpC W s x ∧ x.length = 5 ∧ ∀ j u, x[j]? = some u → W.cell? ⟨g, o + i * 5 + j, none⟩ = some u := by
    intro i hi
    obtain ⟨g, o, hA, hj⟩ := hf i hi
    obtain ⟨u0, n0, y0, c0, t0⟩ := hj 0 _ rfl
    obtain ⟨u1, n1, y1, c1, t1⟩ := hj 1 _ rfl
    obtain ⟨u2, n2, y2, c2, t2⟩ := hj 2 _ rfl
    obtain ⟨u3, n3, y3, c3, t3⟩ := hj 3 _ rfl
    obtain ⟨u4, n4, y4, c4, t4⟩ := hj 4 _ rfl
    obtain ⟨s, hs⟩ := span_of_cells t0 t1 t2 t3 t4
    refine ⟨_, s, g, o, hA, hs, rfl, fun j u hu => ?_⟩
    match j, hu with
    | 0, hu => simp at hu; subst hu; exact c0
    | 1, hu => simp at hu; subst hu; exact c1
    | 2, hu => simp at hu; subst hu; exact c2
    | 3, hu => simp at hu; subst hu; exact c3
    | 4, hu => simp at hu; subst hu; exact c4
    | j + 5, hu => simp at hu
  exact ss_of_key hnc hcm key
end

end Go.Proofs.YtnghpcfdgjkokaaGreatDoor
