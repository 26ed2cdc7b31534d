/-
  What an argument of type api.Span, or of spans, gives to a walk. No condition.
  What an argument of type []api.Trace gives to a walk. No condition.
-/
import Derived.Test.YtfccfnbmmgfgcaaGreatDoorSpanB
import Derived.Test.YtfccfnbmmgfgcaaGreatDoorRow
import Derived.Deep.Fields
import Derived.Test.YtfccfnbmmgfgcaaGreatDoorTrF
namespace Go.Proofs.YtfccfnbmmgfgcaaGreatDoor
open Go.ChangeShapes Go.WideShapes Go.ChangeAt Go.RowKit

theorem cellsB1 : Tryz.prog.cellsOf 5 = 1 := by kernel_rfl

section
variable {H : Type} {enc : TypeId × Value → H}

theorem span_of_cells {W : World} {u0 u1 u2 u3 u4 : Value} {n0 n1 n2 n3 n4 : Nat} {y0 y1 y2 y3 y4 : DataW H × List MemPlace}
    (h0 : DataW.trod enc Tryz.prog W 0 (fun _ => true) true n0 22 [u0] = some y0) (h1 : DataW.trod enc Tryz.prog W 0 (fun _ => true) true n1 22 [u1] = some y1)
    (h2 : DataW.trod enc Tryz.prog W 0 (fun _ => true) true n2 2 [u2] = some y2) (h3 : DataW.trod enc Tryz.prog W 0 (fun _ => true) true n3 2 [u3] = some y3)
    (h4 : DataW.trod enc Tryz.prog W 0 (fun _ => true) true n4 67 [u4] = some y4) : ∃ s : Sn, SpC W s [u0, u1, u2, u3, u4] := by
  obtain ⟨t, e0, _, w0⟩ := DataW.trod_int Tryz.underlying22 h0
  obtain ⟨i, e1, _, w1⟩ := DataW.trod_int Tryz.underlying22 h1
  obtain ⟨s, e2, _, w2⟩ := DataW.trod_int Tryz.underlying2 h2
  obtain ⟨f, e3, _, w3⟩ := DataW.trod_int Tryz.underlying2 h3
  obtain ⟨l, hl⟩ := bs_of_cell byteT cellsB1 h4
  simp only [List.cons.injEq, and_true] at e0 e1 e2 e3
  subst e0 e1 e2 e3
  have b0 : 0 ≤ t ∧ t ≤ 18446744073709551615 := by simpa [Lit.wf, IntKind.min, IntKind.max, IntKind.signed, IntKind.bits] using w0
  have b1 : 0 ≤ i ∧ i ≤ 18446744073709551615 := by simpa [Lit.wf, IntKind.min, IntKind.max, IntKind.signed, IntKind.bits] using w1
  have b2 : -9223372036854775808 ≤ s ∧ s ≤ 9223372036854775807 := by simpa [Lit.wf, IntKind.min, IntKind.max, IntKind.signed, IntKind.bits] using w2
  have b3 : -9223372036854775808 ≤ f ∧ f ≤ 9223372036854775807 := by simpa [Lit.wf, IntKind.min, IntKind.max, IntKind.signed, IntKind.bits] using w3
  exact ⟨⟨t, i, s, f, l⟩, ⟨b0.1, b0.2, b1.1, b1.2, b2.1, b2.2, b3.1, b3.2⟩, _, rfl, hl⟩

theorem ss_of_key {W : World} {A : Option Addr} {n c : Nat} (hnc : n ≤ c) (hcm : c ≤ 9223372036854775807)
    (key : ∀ i, i < n → ∃ (x : List Value) (s : Sn) (g o : Nat), A = some ⟨g, o, none⟩ ∧ SpC W s x ∧ x.length = 5 ∧ ∀ j u, x[j]? = some u → W.cell? ⟨g, o + i * 5 + j, none⟩ = some u) : ∃ l : List Sn, Ss W (.slice A n c) l := by
  obtain ⟨ps, hpl, hps⟩ := all_of_each (Q := fun i (p : List Value × Sn) => ∃ (g o : Nat), A = some ⟨g, o, none⟩ ∧ SpC W p.2 p.1 ∧ p.1.length = 5 ∧ ∀ j u, p.1[j]? = some u → W.cell? ⟨g, o + i * 5 + j, none⟩ = some u)
    (fun i hi => by obtain ⟨x, s, h⟩ := key i hi; exact ⟨(x, s), h⟩)
  have hk5 : ∀ x ∈ ps.map (·.1), x.length = 5 := by
    intro x hx
    obtain ⟨p, hp, rfl⟩ := List.mem_map.1 hx
    obtain ⟨i, hi⟩ := List.mem_iff_getElem?.1 hp
    obtain ⟨g, o, _, _, h5, _⟩ := hps i p hi
    exact h5
  refine ⟨ps.map (·.2), ps.map (·.1), ⟨A, c, by simp [hpl], by simp [hpl, hnc], hcm, hk5, ?_⟩, ⟨by simp, fun i s x h1 h2 => ?_⟩⟩
  · intro j u hu
    have hj := (List.getElem?_eq_some_iff.1 hu).1
    rw [flat_length hk5, List.length_map, hpl] at hj
    have hi : j / 5 < n := by omega
    have hp : ps[j / 5]? = some (ps[j / 5]'(by omega)) := List.getElem?_eq_getElem (by omega)
    obtain ⟨g, o, hA, _, h5, hc⟩ := hps _ _ hp
    have hx : (ps.map (·.1))[j / 5]? = some (ps[j / 5]'(by omega)).1 := by rw [List.getElem?_map, hp]; rfl
    have hm : j % 5 < 5 := Nat.mod_lt _ (by omega)
    have he : j / 5 * 5 + j % 5 = j := by omega
    have hfl := flat_at hk5 hx hm
    rw [he] at hfl
    rw [hfl] at hu
    refine ⟨_, hA, ?_⟩
    rw [Addr.add_lit]
    have := hc _ u hu
    rw [Nat.add_assoc, he] at this
    exact this
  · rw [List.getElem?_map] at h1 h2
    cases hp : ps[i]? with
    | none => rw [hp] at h1; cases h1
    | some p =>
      rw [hp] at h1 h2
      simp at h1 h2
      subst h1 h2
      obtain ⟨g, o, _, hs, _⟩ := hps i p hp
      exact hs

end

section
variable {H : Type} {enc : TypeId × Value → H}

theorem open_fields_cell {P : Program} {t e : TypeId} {fs : Array Field} (ht : P.underlying t = some (.slice e)) (he : P.underlying e = some (.struct fs)) (hone : Deep.oneCellFields P fs = true) (hC : P.cellsOf e = fs.size) (hpos : 0 < fs.size)
    {W : World} {v : Value} {fuel : Nat} {x : DataW H × List MemPlace} (hf : DataW.trod enc P W 0 (fun _ => true) true fuel t [v] = some x) :
    ∃ (A : Option Addr) (len cap : Nat), v = .slice A len cap ∧ len ≤ cap ∧ cap ≤ 9223372036854775807 ∧ (len = 0 ∨ ∃ es sp, x.1 = .slice es sp ∧ es.length = len) ∧
      ∀ i, i < len → ∃ g o, A = some ⟨g, o, none⟩ ∧ ∀ (j : Nat) (f : Field), fs[j]? = some f → ∃ (u : Value) (n : Nat) (y : DataW H × List MemPlace), W.cell? ⟨g, o + i * fs.size + j, none⟩ = some u ∧ DataW.trod enc P W 0 (fun _ => true) true n f.type [u] = some y := by
  rcases Deep.open_slice ht hf with ⟨hcs, hx⟩ | ⟨a, len, cap, m, n, D, Pl, hcs, _, hl, hm, hmm, hx, hi⟩
  · simp at hcs
    exact ⟨none, 0, 0, hcs, Nat.le_refl _, by omega, .inl rfl, fun i hi => by omega⟩
  · simp at hcs
    simp only [maxLen] at hm
    simp only [if_true] at hmm
    refine ⟨some a, len, cap, hcs, hl, by omega, .inr ⟨_, _, congrArg Prod.fst hx, by simp⟩, fun i hil => ?_⟩
    have hz : a.spot = none := by
      obtain ⟨cs', hc, _⟩ := hi 0 (by omega)
      rw [hC] at hc
      obtain ⟨_, hcl, hat⟩ := World.cells?_some hc
      have h0 := hat 0 hpos
      rw [List.getElem?_eq_getElem (by omega)] at h0
      have := World.cell?_spot h0
      simpa [Addr.add] using this
    obtain ⟨g, o, sp⟩ := a
    have hsp : sp = none := hz
    subst hsp
    refine ⟨g, o, rfl, fun j f hj => ?_⟩
    obtain ⟨cs', hc, ht'⟩ := hi i (by omega)
    rw [hC] at hc
    obtain ⟨ys, n', hn', hy, hlen, hyl, hfld⟩ := DataW.trod_struct he ht'
    obtain ⟨_, hcl, hat⟩ := World.cells?_some hc
    obtain ⟨ho, hk⟩ := Deep.hone_of hone j f hj
    have hjl : j < fs.size := (Array.getElem?_eq_some_iff.1 hj).1
    have hcell := hat j hjl
    have h1 := hfld j f hj
    rw [ho, hk] at h1
    have hone' : (cs'.drop j).take 1 = [cs'[j]'(by omega)] := by
      rw [List.drop_eq_getElem_cons (by omega)]
      rfl
    rw [hone'] at h1
    have hys : ys[j]? = some (ys[j]'(by omega)) := List.getElem?_eq_getElem (by omega)
    refine ⟨cs'[j]'(by omega), n', ys[j]'(by omega), ?_, h1.trans hys⟩
    rw [List.getElem?_eq_getElem (by omega)] at hcell
    rw [← hcell, add_add, Addr.add_lit, Nat.add_assoc]

set_option maxRecDepth 100000 in
theorem ss_of_cell {W : World} {v : Value} {fuel : Nat} {x : DataW H × List MemPlace} (h : DataW.trod enc Tryz.prog W 0 (fun _ => true) true fuel 41 [v] = some x) : ∃ l : List Sn, Ss W v l := by
  obtain ⟨A, n, c, rfl, hnc, hcm, _, hf⟩ := open_fields_cell Tryz.underlying41 Tryz.underlying87 (by kernel_rfl) (by kernel_rfl) (by decide) h
  have key : ∀ i, i < n → ∃ (x : List Value) (s : Sn) (g o : Nat), A = some ⟨g, o, none⟩ ∧ SpC W s x ∧ x.length = 5 ∧ ∀ j u, x[j]? = some u → W.cell? ⟨g, o + i * 5 + j, none⟩ = some u := by
    intro i hi
    obtain ⟨g, o, hA, hj⟩ := hf i hi
    obtain ⟨u0, n0, y0, c0, t0⟩ := hj 0 _ rfl
    obtain ⟨u1, n1, y1, c1, t1⟩ := hj 1 _ rfl
    obtain ⟨u2, n2, y2, c2, t2⟩ := hj 2 _ rfl
    obtain ⟨u3, n3, y3, c3, t3⟩ := hj 3 _ rfl
    obtain ⟨u4, n4, y4, c4, t4⟩ := hj 4 _ rfl
    obtain ⟨s, hs⟩ := span_of_cells t0 t1 t2 t3 t4
    refine ⟨_, s, g, o, hA, hs, rfl, fun j u hu => ?_⟩
    match j, hu with
    | 0, hu => simp at hu; subst hu; exact c0
    | 1, hu => simp at hu; subst hu; exact c1
    | 2, hu => simp at hu; subst hu; exact c2
    | 3, hu => simp at hu; subst hu; exact c3
    | 4, hu => simp at hu; subst hu; exact c4
    | j + 5, hu => simp at hu
  exact ss_of_key hnc hcm key

theorem ts_of_key {W : World} {A : Option Addr} {n c : Nat} (hnc : n ≤ c) (hcm : c ≤ 9223372036854775807)
    (key : ∀ i, i < n → ∃ (x : List Value) (s : Tn) (g o : Nat), A = some ⟨g, o, none⟩ ∧ TnC W s x ∧ x.length = 2 ∧ ∀ j u, x[j]? = some u → W.cell? ⟨g, o + i * 2 + j, none⟩ = some u) : ∃ l : List Tn, Ts W (.slice A n c) l := by
  obtain ⟨ps, hpl, hps⟩ := all_of_each (Q := fun i (p : List Value × Tn) => ∃ (g o : Nat), A = some ⟨g, o, none⟩ ∧ TnC W p.2 p.1 ∧ p.1.length = 2 ∧ ∀ j u, p.1[j]? = some u → W.cell? ⟨g, o + i * 2 + j, none⟩ = some u)
    (fun i hi => by obtain ⟨x, s, h⟩ := key i hi; exact ⟨(x, s), h⟩)
  have hk2 : ∀ x ∈ ps.map (·.1), x.length = 2 := by
    intro x hx
    obtain ⟨p, hp, rfl⟩ := List.mem_map.1 hx
    obtain ⟨i, hi⟩ := List.mem_iff_getElem?.1 hp
    obtain ⟨g, o, _, _, h2e, _⟩ := hps i p hi
    exact h2e
  refine ⟨ps.map (·.2), ps.map (·.1), ⟨A, c, by simp [hpl], by simp [hpl, hnc], hcm, hk2, ?_⟩, ⟨by simp, fun i s x h1 h2 => ?_⟩⟩
  · intro j u hu
    have hj := (List.getElem?_eq_some_iff.1 hu).1
    rw [flat_length hk2, List.length_map, hpl] at hj
    have hi : j / 2 < n := by omega
    have hp : ps[j / 2]? = some (ps[j / 2]'(by omega)) := List.getElem?_eq_getElem (by omega)
    obtain ⟨g, o, hA, _, h2e, hc⟩ := hps _ _ hp
    have hx : (ps.map (·.1))[j / 2]? = some (ps[j / 2]'(by omega)).1 := by rw [List.getElem?_map, hp]; rfl
    have hm : j % 2 < 2 := Nat.mod_lt _ (by omega)
    have he : j / 2 * 2 + j % 2 = j := by omega
    have hfl := flat_at hk2 hx hm
    rw [he] at hfl
    rw [hfl] at hu
    refine ⟨_, hA, ?_⟩
    rw [Addr.add_lit]
    have := hc _ u hu
    rw [Nat.add_assoc, he] at this
    exact this
  · rw [List.getElem?_map] at h1 h2
    cases hp : ps[i]? with
    | none => rw [hp] at h1; cases h1
    | some p =>
      rw [hp] at h1 h2
      simp at h1 h2
      subst h1 h2
      obtain ⟨g, o, _, hs, _⟩ := hps i p hp
      exact hs


theorem bytesTn : Tryz.prog.bytesOf 43 = 32 := by kernel_rfl

set_option maxRecDepth 100000 in
theorem ts_of_sized {W : World} {base : Nat} {v : Value} {d : DataW H} {p : List MemPlace} (hval : Value.okWide Tryz.prog W .any base 23 v)
    (h : DataW.Trod enc Tryz.prog W 0 (fun _ => true) true 23 v d p) {ts : List TypeId} {ds : List (DataW H)} (hs : (DataW.weightsEach Tryz.prog ts ds).all (· ≤ reachBytes) = true) {j : Nat} (ht : ts[j]? = some 23) (hd : ds[j]? = some d) :
    ∃ l : List Tn, Ts W v l ∧ l.length ≤ 140737488355328 := by
  obtain ⟨a1, len, cap, rfl⟩ := okWide_slice Tryz.underlying23 hval
  obtain ⟨fuel, hf0⟩ := h
  have hf1 : DataW.trod enc Tryz.prog W 0 (fun _ => true) true fuel 23 [.slice a1 len cap] = some (d, p) := by simpa [Value.cells] using hf0
  obtain ⟨A, n, c, hv, hnc, hcm, hlen, hf⟩ := open_fields_cell Tryz.underlying23 Tryz.underlying43 (by kernel_rfl) (by kernel_rfl) (by decide) hf1
  injection hv with e1 e2 e3
  subst e1 e2 e3
  have hn : len ≤ 140737488355328 := by
    rcases hlen with h0 | ⟨es, sp, hx, he⟩
    · omega
    · have hx' : d = .slice es sp := hx
      subst hx'
      have h2 := sized_slice hs ht hd Tryz.underlying23
      rw [bytesTn] at h2
      have h3 : reachBytes = 140737488351232 := by decide
      omega
  have key : ∀ i, i < len → ∃ (x : List Value) (s : Tn) (g o : Nat), a1 = some ⟨g, o, none⟩ ∧ TnC W s x ∧ x.length = 2 ∧ ∀ j u, x[j]? = some u → W.cell? ⟨g, o + i * 2 + j, none⟩ = some u := by
    intro i hi
    obtain ⟨g, o, hA, hj⟩ := hf i hi
    obtain ⟨u0, n0, y0, c0, t0⟩ := hj 0 _ rfl
    obtain ⟨u1, n1, y1, c1, t1⟩ := hj 1 _ rfl
    obtain ⟨q, e0, _, w0⟩ := DataW.trod_int Tryz.underlying22 t0
    simp only [List.cons.injEq, and_true] at e0
    subst e0
    have b0 : 0 ≤ q ∧ q ≤ 18446744073709551615 := by simpa [Lit.wf, IntKind.min, IntKind.max, IntKind.signed, IntKind.bits] using w0
    obtain ⟨sl, hsl⟩ := ss_of_cell t1
    refine ⟨[.int .u64 q, u1], ⟨q, sl⟩, g, o, hA, ⟨b0, u1, rfl, hsl⟩, rfl, fun j u hu => ?_⟩
    match j, hu with
    | 0, hu => simp at hu; subst hu; exact c0
    | 1, hu => simp at hu; subst hu; exact c1
    | j + 2, hu => simp at hu
  obtain ⟨l, hl⟩ := ts_of_key hnc hcm key
  refine ⟨l, hl, ?_⟩
  obtain ⟨A', c', hv, _⟩ := hl.form
  injection hv with _ e2 _
  omega
end

end Go.Proofs.YtfccfnbmmgfgcaaGreatDoor
