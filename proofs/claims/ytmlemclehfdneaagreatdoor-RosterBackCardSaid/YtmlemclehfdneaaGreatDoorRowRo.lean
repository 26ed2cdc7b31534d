/-
  What an argument of type []tankardlaw17.Put, or roster.Roster, gives to a walk. No condition but what each theorem says.
-/
import Derived.Test.YtmlemclehfdneaaGreatDoorRoI
import Derived.Test.YtmlemclehfdneaaGreatDoorRow
import Derived.Test.YtmlemclehfdneaaGreatDoorLvKey
import Derived.Deep.Fields
namespace Go.Proofs.YtmlemclehfdneaaGreatDoor
open Go.ChangeShapes Go.WideShapes Go.ChangeAt Go.RowKit
set_option maxRecDepth 100000

section
variable {H : Type} {enc : TypeId × Value → H}
theorem open_fields_in {P : Program} {t e : TypeId} {fs : Array Field} (ht : P.underlying t = some (.slice e)) (he : P.underlying e = some (.struct fs)) (hone : Deep.oneCellFields P fs = true) (hC : P.cellsOf e = fs.size) (hpos : 0 < fs.size)
    {W : World} {v : Value} {fuel : Nat} {x : DataW H × List MemPlace} (hf : DataW.trod enc P W 0 (fun _ => true) true fuel t [v] = some x) :
    ∃ (A : Option Addr) (len cap : Nat), v = .slice A len cap ∧ len ≤ cap ∧ cap ≤ 9223372036854775807 ∧ (len = 0 ∨ ∃ es sp, x.1 = .slice es sp ∧ es.length = len) ∧
      ∀ i, i < len → ∃ g o, A = some ⟨g, o, none⟩ ∧ ∀ (j : Nat) (f : Field), fs[j]? = some f → ∃ (u : Value) (n : Nat) (y : DataW H × List MemPlace), W.cell? ⟨g, o + i * fs.size + j, none⟩ = some u ∧ DataW.trod enc P W 0 (fun _ => true) true n f.type [u] = some y := by
  rcases Deep.open_slice ht hf with ⟨hcs, hx⟩ | ⟨a, len, cap, m, n, D, Pl, hcs, _, hl, hm, hmm, hx, hi⟩
  · simp at hcs
    exact ⟨none, 0, 0, hcs, Nat.le_refl _, by omega, .inl rfl, fun i hi => by omega⟩
  · simp at hcs
    simp only [maxLen] at hm
    simp only [if_true] at hmm
    refine ⟨some a, len, cap, hcs, hl, by omega, .inr ⟨_, _, congrArg Prod.fst hx, by simp⟩, fun i hil => ?_⟩
    have hz : a.spot = none := by
      obtain ⟨cs', hc, _⟩ := hi 0 (by omega)
      rw [hC] at hc
      obtain ⟨_, hcl, hat⟩ := World.cells?_some hc
      have h0 := hat 0 hpos
      rw [List.getElem?_eq_getElem (by omega)] at h0
      have := World.cell?_spot h0
      simpa [Addr.add] using this
    obtain ⟨g, o, sp⟩ := a
    have hsp : sp = none := hz
    subst hsp
    refine ⟨g, o, rfl, fun j f hj => ?_⟩
    obtain ⟨cs', hc, ht'⟩ := hi i (by omega)
    rw [hC] at hc
    obtain ⟨ys, n', hn', hy, hlen, hyl, hfld⟩ := DataW.trod_struct he ht'
    obtain ⟨_, hcl, hat⟩ := World.cells?_some hc
    obtain ⟨ho, hk⟩ := Deep.hone_of hone j f hj
    have hjl : j < fs.size := (Array.getElem?_eq_some_iff.1 hj).1
    have hcell := hat j hjl
    have h1 := hfld j f hj
    rw [ho, hk] at h1
    have hone' : (cs'.drop j).take 1 = [cs'[j]'(by omega)] := by
      rw [List.drop_eq_getElem_cons (by omega)]
      rfl
    rw [hone'] at h1
    have hys : ys[j]? = some (ys[j]'(by omega)) := List.getElem?_eq_getElem (by omega)
    refine ⟨cs'[j]'(by omega), n', ys[j]'(by omega), ?_, h1.trans hys⟩
    rw [List.getElem?_eq_getElem (by omega)] at hcell
    rw [← hcell, add_add, Addr.add_lit, Nat.add_assoc]

theorem meC_of_cells {W : World} {u0 u1 u2 u3 u4 u5 : Value} {n0 n1 n2 n3 n4 n5 : Nat} {y0 y1 y2 y3 y4 y5 : DataW H × List MemPlace}
    (h0 : DataW.trod enc Tryz.prog W 0 (fun _ => true) true n0 63 [u0] = some y0) (h1 : DataW.trod enc Tryz.prog W 0 (fun _ => true) true n1 3 [u1] = some y1) (h2 : DataW.trod enc Tryz.prog W 0 (fun _ => true) true n2 2 [u2] = some y2) (h3 : DataW.trod enc Tryz.prog W 0 (fun _ => true) true n3 2 [u3] = some y3) (h4 : DataW.trod enc Tryz.prog W 0 (fun _ => true) true n4 3 [u4] = some y4) (h5 : DataW.trod enc Tryz.prog W 0 (fun _ => true) true n5 3 [u5] = some y5) : ∃ m : Me, MeC W m [u0, u1, u2, u3, u4, u5] := by
  obtain ⟨a0, e0, _, w0⟩ := DataW.trod_int Tryz.underlying63 h0
  obtain ⟨a1, e1, _, w1⟩ := DataW.trod_int Tryz.underlying3 h1
  obtain ⟨a2, e2, _, w2⟩ := DataW.trod_int Tryz.underlying2 h2
  obtain ⟨a3, e3, _, w3⟩ := DataW.trod_int Tryz.underlying2 h3
  obtain ⟨a4, e4, _, w4⟩ := DataW.trod_int Tryz.underlying3 h4
  obtain ⟨a5, e5, _, w5⟩ := DataW.trod_int Tryz.underlying3 h5
  simp only [List.cons.injEq, and_true] at e0 e1 e2 e3 e4 e5
  subst e0 e1 e2 e3 e4 e5
  have b0 : 0 ≤ a0 ∧ a0 ≤ 18446744073709551615 := by simpa [Lit.wf, IntKind.min, IntKind.max, IntKind.signed, IntKind.bits] using w0
  have b1 : -9223372036854775808 ≤ a1 ∧ a1 ≤ 9223372036854775807 := by simpa [Lit.wf, IntKind.min, IntKind.max, IntKind.signed, IntKind.bits] using w1
  have b2 : -9223372036854775808 ≤ a2 ∧ a2 ≤ 9223372036854775807 := by simpa [Lit.wf, IntKind.min, IntKind.max, IntKind.signed, IntKind.bits] using w2
  have b3 : -9223372036854775808 ≤ a3 ∧ a3 ≤ 9223372036854775807 := by simpa [Lit.wf, IntKind.min, IntKind.max, IntKind.signed, IntKind.bits] using w3
  have b4 : -9223372036854775808 ≤ a4 ∧ a4 ≤ 9223372036854775807 := by simpa [Lit.wf, IntKind.min, IntKind.max, IntKind.signed, IntKind.bits] using w4
  have b5 : -9223372036854775808 ≤ a5 ∧ a5 ≤ 9223372036854775807 := by simpa [Lit.wf, IntKind.min, IntKind.max, IntKind.signed, IntKind.bits] using w5
  exact ⟨⟨a0, a1, a2, a3, a4, a5⟩, ⟨b0.1, b0.2, b1.1, b1.2, b2.1, b2.2, b3.1, b3.2, b4.1, b4.2, b5.1, b5.2⟩, rfl⟩

theorem mkC_of_cells {W : World} {u0 u1 u2 : Value} {n0 n1 n2 : Nat} {y0 y1 y2 : DataW H × List MemPlace}
    (h0 : DataW.trod enc Tryz.prog W 0 (fun _ => true) true n0 63 [u0] = some y0) (h1 : DataW.trod enc Tryz.prog W 0 (fun _ => true) true n1 2 [u1] = some y1) (h2 : DataW.trod enc Tryz.prog W 0 (fun _ => true) true n2 63 [u2] = some y2) : ∃ m : Mk, MkC W m [u0, u1, u2] := by
  obtain ⟨a0, e0, _, w0⟩ := DataW.trod_int Tryz.underlying63 h0
  obtain ⟨a1, e1, _, w1⟩ := DataW.trod_int Tryz.underlying2 h1
  obtain ⟨a2, e2, _, w2⟩ := DataW.trod_int Tryz.underlying63 h2
  simp only [List.cons.injEq, and_true] at e0 e1 e2
  subst e0 e1 e2
  have b0 : 0 ≤ a0 ∧ a0 ≤ 18446744073709551615 := by simpa [Lit.wf, IntKind.min, IntKind.max, IntKind.signed, IntKind.bits] using w0
  have b1 : -9223372036854775808 ≤ a1 ∧ a1 ≤ 9223372036854775807 := by simpa [Lit.wf, IntKind.min, IntKind.max, IntKind.signed, IntKind.bits] using w1
  have b2 : 0 ≤ a2 ∧ a2 ≤ 18446744073709551615 := by simpa [Lit.wf, IntKind.min, IntKind.max, IntKind.signed, IntKind.bits] using w2
  exact ⟨⟨a0, a1, a2⟩, ⟨b0.1, b0.2, b1.1, b1.2, b2.1, b2.2⟩, rfl⟩

theorem mes_of_cell {W : World} {v : Value} {fuel : Nat} {x : DataW H × List MemPlace} (h : DataW.trod enc Tryz.prog W 0 (fun _ => true) true fuel 38 [v] = some x) : ∃ l : List Me, Mes W v l := by
  obtain ⟨A, n, c, rfl, hnc, hcm, _, hf⟩ := open_fields_in Tryz.underlying38 Tryz.underlying84 (by kernel_rfl) (by kernel_rfl) (by decide) h
  have key : ∀ i, i < n → ∃ (x : List Value) (s : Me) (g o : Nat), A = some ⟨g, o, none⟩ ∧ MeC W s x ∧ x.length = 6 ∧ ∀ j u, x[j]? = some u → W.cell? ⟨g, o + i * 6 + j, none⟩ = some u := by
    intro i hi
    obtain ⟨g, o, hA, hj⟩ := hf i hi
    obtain ⟨u0, n0, y0, c0, t0⟩ := hj 0 _ rfl
    obtain ⟨u1, n1, y1, c1, t1⟩ := hj 1 _ rfl
    obtain ⟨u2, n2, y2, c2, t2⟩ := hj 2 _ rfl
    obtain ⟨u3, n3, y3, c3, t3⟩ := hj 3 _ rfl
    obtain ⟨u4, n4, y4, c4, t4⟩ := hj 4 _ rfl
    obtain ⟨u5, n5, y5, c5, t5⟩ := hj 5 _ rfl
    obtain ⟨s, hs⟩ := meC_of_cells t0 t1 t2 t3 t4 t5
    refine ⟨_, s, g, o, hA, hs, rfl, fun j u hu => ?_⟩
    match j, hu with
    | 0, hu => simp at hu; subst hu; exact c0
    | 1, hu => simp at hu; subst hu; exact c1
    | 2, hu => simp at hu; subst hu; exact c2
    | 3, hu => simp at hu; subst hu; exact c3
    | 4, hu => simp at hu; subst hu; exact c4
    | 5, hu => simp at hu; subst hu; exact c5
    | j + 6, hu => simp at hu
  exact lv_of_key (R := MeC) (by omega) hnc hcm key

theorem mks_of_cell {W : World} {v : Value} {fuel : Nat} {x : DataW H × List MemPlace} (h : DataW.trod enc Tryz.prog W 0 (fun _ => true) true fuel 39 [v] = some x) : ∃ l : List Mk, Mks W v l := by
  obtain ⟨A, n, c, rfl, hnc, hcm, _, hf⟩ := open_fields_in Tryz.underlying39 Tryz.underlying88 (by kernel_rfl) (by kernel_rfl) (by decide) h
  have key : ∀ i, i < n → ∃ (x : List Value) (s : Mk) (g o : Nat), A = some ⟨g, o, none⟩ ∧ MkC W s x ∧ x.length = 3 ∧ ∀ j u, x[j]? = some u → W.cell? ⟨g, o + i * 3 + j, none⟩ = some u := by
    intro i hi
    obtain ⟨g, o, hA, hj⟩ := hf i hi
    obtain ⟨u0, n0, y0, c0, t0⟩ := hj 0 _ rfl
    obtain ⟨u1, n1, y1, c1, t1⟩ := hj 1 _ rfl
    obtain ⟨u2, n2, y2, c2, t2⟩ := hj 2 _ rfl
    obtain ⟨s, hs⟩ := mkC_of_cells t0 t1 t2
    refine ⟨_, s, g, o, hA, hs, rfl, fun j u hu => ?_⟩
    match j, hu with
    | 0, hu => simp at hu; subst hu; exact c0
    | 1, hu => simp at hu; subst hu; exact c1
    | 2, hu => simp at hu; subst hu; exact c2
    | j + 3, hu => simp at hu
  exact lv_of_key (R := MkC) (by omega) hnc hcm key

theorem ptC_of_cells {W : World} {u0 u1 : Value} {n0 n1 : Nat} {y0 y1 : DataW H × List MemPlace}
    (h0 : DataW.trod enc Tryz.prog W 0 (fun _ => true) true n0 9 [u0] = some y0) (h1 : DataW.trod enc Tryz.prog W 0 (fun _ => true) true n1 54 [u1] = some y1) : ∃ p : Ob, PtC W p [u0, u1] := by
  obtain ⟨s, e0, _, w0⟩ := DataW.trod_string strT h0
  obtain ⟨l, hl⟩ := bs_of_cell byteT cellsB h1
  simp only [List.cons.injEq, and_true] at e0
  subst e0
  exact ⟨⟨s.data.toList, l⟩, by simpa [maxLen] using w0, _, by rw [Bstr_of], hl⟩

theorem pts_of_trod {W : World} {base : Nat} {v : Value} {d : DataW H} {p : List MemPlace} (hval : Value.okWide Tryz.prog W .any base 22 v)
    (h : DataW.Trod enc Tryz.prog W 0 (fun _ => true) true 22 v d p) : ∃ l : List Ob, Pts W v l := by
  obtain ⟨A, n, c, rfl, hnc, hcm, hf⟩ := open_fields Tryz.underlying22 Tryz.underlying68 (by kernel_rfl) (by kernel_rfl) (by decide) hval h
  have key : ∀ i, i < n → ∃ (x : List Value) (s : Ob) (g o : Nat), A = some ⟨g, o, none⟩ ∧ PtC W s x ∧ x.length = 2 ∧ ∀ j u, x[j]? = some u → W.cell? ⟨g, o + i * 2 + j, none⟩ = some u := by
    intro i hi
    obtain ⟨g, o, hA, hj⟩ := hf i hi
    obtain ⟨u0, n0, y0, c0, t0⟩ := hj 0 _ rfl
    obtain ⟨u1, n1, y1, c1, t1⟩ := hj 1 _ rfl
    obtain ⟨s, hs⟩ := ptC_of_cells t0 t1
    refine ⟨_, s, g, o, hA, hs, rfl, fun j u hu => ?_⟩
    match j, hu with
    | 0, hu => simp at hu; subst hu; exact c0
    | 1, hu => simp at hu; subst hu; exact c1
    | j + 2, hu => simp at hu
  exact lv_of_key (R := PtC) (by omega) hnc hcm key

theorem ro_of_trod {W : World} {base : Nat} {v : Value} {d : DataW H} {p : List MemPlace} (hval : Value.okWide Tryz.prog W .any base 41 v)
    (h : DataW.Trod enc Tryz.prog W 0 (fun _ => true) true 41 v d p) : ∃ (a b : Value) (l : List Me) (k : List Mk), v = roV a b ∧ Mes W a l ∧ Mks W b k := by
  obtain ⟨cs, rfl, hsz, hf⟩ := open_agg Tryz.underlying41 (by kernel_rfl) (by kernel_rfl) hval h
  obtain ⟨u0, n0, y0, c0, t0⟩ := hf 0 _ rfl
  obtain ⟨u1, n1, y1, c1, t1⟩ := hf 1 _ rfl
  obtain ⟨l, hl⟩ := mes_of_cell t0
  obtain ⟨k, hk⟩ := mks_of_cell t1
  refine ⟨u0, u1, l, k, ?_, hl, hk⟩
  obtain ⟨z⟩ := cs
  simp only [List.size_toArray, List.getElem?_toArray] at hsz c0 c1
  match z, hsz with
  | [x0, x1], _ =>
    simp at c0 c1
    subst c0 c1
    rfl

end

end Go.Proofs.YtmlemclehfdneaaGreatDoor
