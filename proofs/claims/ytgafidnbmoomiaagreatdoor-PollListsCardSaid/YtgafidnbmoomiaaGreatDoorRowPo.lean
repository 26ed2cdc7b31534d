/-
  What an argument of type []tankardlaw18.Deed, or tankardlaw17.Put, gives to a walk. No condition but what each theorem says.
-/
import Derived.Test.YtgafidnbmoomiaaGreatDoorPoF
import Derived.Test.YtgafidnbmoomiaaGreatDoorRowRo
namespace Go.Proofs.YtgafidnbmoomiaaGreatDoor
open Go.ChangeShapes Go.WideShapes Go.ChangeAt Go.RowKit
set_option maxRecDepth 100000

section
variable {H : Type} {enc : TypeId × Value → H}
theorem open_cells {P : Program} {t e : TypeId} {k : Nat} (ht : P.underlying t = some (.slice e)) (hC : P.cellsOf e = k) (hpos : 0 < k)
    {W : World} {base : Nat} {v : Value} {d : DataW H} {p : List MemPlace} (hval : Value.okWide P W .any base t v) (h : DataW.Trod enc P W 0 (fun _ => true) true t v d p) :
    ∃ (A : Option Addr) (len cap : Nat), v = .slice A len cap ∧ len ≤ cap ∧ cap ≤ 9223372036854775807 ∧
      ∀ i, i < len → ∃ (g o : Nat) (cs : List Value) (n : Nat) (y : DataW H × List MemPlace), A = some ⟨g, o, none⟩ ∧ cs.length = k ∧ (∀ j, j < k → W.cell? ⟨g, o + i * k + j, none⟩ = cs[j]?) ∧ DataW.trod enc P W 0 (fun _ => true) true n e cs = some y := by
  obtain ⟨a1, len, cap, rfl⟩ := okWide_slice ht hval
  obtain ⟨fuel, hf⟩ := h
  rcases Deep.open_slice ht hf with ⟨hcs, hx⟩ | ⟨a, len', cap', m, n, D, Pl, hcs, _, hl, hm, hmm, hx, hi⟩
  · simp [Value.cells] at hcs
    obtain ⟨rfl, rfl, rfl⟩ := hcs
    exact ⟨none, 0, 0, rfl, Nat.le_refl _, by omega, fun i hi => by omega⟩
  · simp [Value.cells] at hcs
    obtain ⟨rfl, rfl, rfl⟩ := hcs
    simp only [maxLen] at hm
    simp only [if_true] at hmm
    refine ⟨some a, len, cap, rfl, hl, by omega, fun i hil => ?_⟩
    have hz : a.spot = none := by
      obtain ⟨cs', hc, _⟩ := hi 0 (by omega)
      rw [hC] at hc
      obtain ⟨_, hcl, hat⟩ := World.cells?_some hc
      have h0 := hat 0 hpos
      rw [List.getElem?_eq_getElem (by omega)] at h0
      have := World.cell?_spot h0
      simpa [Addr.add] using this
    obtain ⟨g, o, sp⟩ := a
    have hsp : sp = none := hz
    subst hsp
    obtain ⟨cs', hc, ht'⟩ := hi i (by omega)
    rw [hC] at hc
    obtain ⟨_, hcl, hat⟩ := World.cells?_some hc
    refine ⟨g, o, cs', _, _, rfl, by omega, fun j hj => ?_, ht'⟩
    have hcell := hat j hj
    rw [← hcell, add_add, Addr.add_lit, Nat.add_assoc]

theorem pdC_of_cells {W : World} {cs : List Value} {n : Nat} {y : DataW H × List MemPlace} (hl : cs.length = 4) (h : DataW.trod enc Tryz.prog W 0 (fun _ => true) true n 46 cs = some y) : ∃ d : Pd, PdC W d cs := by
  match cs, hl with
  | [c0, c1, c2, c3], _ =>
    obtain ⟨ys, m, _, _, _, hyl, hfld⟩ := DataW.trod_struct Tryz.underlying46 h
    have ci : Tryz.prog.cellsOf 3 = 1 := by kernel_rfl
    have cp : Tryz.prog.cellsOf 44 = 2 := by kernel_rfl
    have h0 := hfld 0 ⟨"What", 3, 0, false, "", "", 0⟩ rfl
    have h1 := hfld 1 ⟨"N", 3, 1, false, "", "", 8⟩ rfl
    have h2 := hfld 2 ⟨"Put", 44, 2, false, "", "", 16⟩ rfl
    simp only [ci, cp, List.drop_zero, List.take_succ_cons, List.take_zero, List.drop_succ_cons] at h0 h1 h2
    match ys, hyl with
    | [y0, y1, y2], _ =>
      simp at h0 h1 h2
      obtain ⟨a0, e0, _, w0⟩ := DataW.trod_int Tryz.underlying3 h0
      obtain ⟨a1, e1, _, w1⟩ := DataW.trod_int Tryz.underlying3 h1
      obtain ⟨zs, m', _, _, _, hzl, hfl2⟩ := DataW.trod_struct Tryz.underlying44 h2
      have cs_ : Tryz.prog.cellsOf 9 = 1 := by kernel_rfl
      have cb_ : Tryz.prog.cellsOf 42 = 1 := by kernel_rfl
      have g0 := hfl2 0 ⟨"Name", 9, 0, false, "", "", 0⟩ rfl
      have g1 := hfl2 1 ⟨"B", 42, 1, false, "", "", 16⟩ rfl
      simp only [cs_, cb_, List.drop_zero, List.take_succ_cons, List.take_zero, List.drop_succ_cons] at g0 g1
      match zs, hzl with
      | [z0, z1], _ =>
        simp at g0 g1
        obtain ⟨o, hn, u, ho, hu⟩ := ptC_of_cells g0 g1
        simp only [List.cons.injEq, and_true] at e0 e1 ho
        obtain ⟨rfl, rfl⟩ := ho
        subst e0 e1
        have b0 : -9223372036854775808 ≤ a0 ∧ a0 ≤ 9223372036854775807 := by simpa [Lit.wf, IntKind.min, IntKind.max, IntKind.signed, IntKind.bits] using w0
        have b1 : -9223372036854775808 ≤ a1 ∧ a1 ≤ 9223372036854775807 := by simpa [Lit.wf, IntKind.min, IntKind.max, IntKind.signed, IntKind.bits] using w1
        exact ⟨⟨a0, a1, o.nm, o.b⟩, b0, b1, hn, _, rfl, hu⟩

theorem pds_of_trod {W : World} {base : Nat} {v : Value} {d : DataW H} {p : List MemPlace} (hval : Value.okWide Tryz.prog W .any base 23 v)
    (h : DataW.Trod enc Tryz.prog W 0 (fun _ => true) true 23 v d p) : ∃ l : List Pd, Pds W v l := by
  obtain ⟨A, n, c, rfl, hnc, hcm, hf⟩ := open_cells (k := 4) Tryz.underlying23 (by kernel_rfl) (by decide) hval h
  have key : ∀ i, i < n → ∃ (x : List Value) (s : Pd) (g o : Nat), A = some ⟨g, o, none⟩ ∧ PdC W s x ∧ x.length = 4 ∧ ∀ j u, x[j]? = some u → W.cell? ⟨g, o + i * 4 + j, none⟩ = some u := by
    intro i hi
    obtain ⟨g, o, cs, m, y, hA, hl, hc, ht⟩ := hf i hi
    obtain ⟨s, hs⟩ := pdC_of_cells hl ht
    refine ⟨cs, s, g, o, hA, hs, hl, fun j u hu => ?_⟩
    have hj : j < 4 := by
      have := (List.getElem?_eq_some_iff.1 hu).1
      omega
    rw [hc j hj, hu]
  exact lv_of_key (R := PdC) (by omega) hnc hcm key

theorem pt_of_trod {W : World} {base : Nat} {v : Value} {d : DataW H} {p : List MemPlace} (hval : Value.okWide Tryz.prog W .any base 44 v)
    (h : DataW.Trod enc Tryz.prog W 0 (fun _ => true) true 44 v d p) : ∃ (o : Ob) (u : Value), v = .agg #[.string (Bstr o.nm), u] ∧ Bs W u o.b ∧ o.nm.length ≤ 9223372036854775807 := by
  obtain ⟨cs, rfl, hsz, hf⟩ := open_agg Tryz.underlying44 (by kernel_rfl) (by kernel_rfl) hval h
  obtain ⟨u0, n0, y0, c0, t0⟩ := hf 0 _ rfl
  obtain ⟨u1, n1, y1, c1, t1⟩ := hf 1 _ rfl
  obtain ⟨o, hn, u, ho, hu⟩ := ptC_of_cells t0 t1
  simp only [List.cons.injEq, and_true] at ho
  obtain ⟨rfl, rfl⟩ := ho
  refine ⟨o, u1, ?_, hu, hn⟩
  obtain ⟨z⟩ := cs
  simp only [List.size_toArray, List.getElem?_toArray] at hsz c0 c1
  match z, hsz with
  | [x0, x1], _ =>
    simp at c0 c1
    subst c0 c1
    rfl

end

end Go.Proofs.YtgafidnbmoomiaaGreatDoor
