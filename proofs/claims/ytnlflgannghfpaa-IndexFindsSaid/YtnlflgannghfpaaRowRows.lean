/-
  What an argument of type [][]api.Trace gives to a walk. No condition.
-/
import Derived.Test.YtnlflgannghfpaaRowTs
import Derived.Test.YtnlflgannghfpaaRowEl
import Derived.Test.YtnlflgannghfpaaSlsT
namespace Go.Proofs.Ytnlflgannghfpaa
open Go.ChangeShapes Go.WideShapes Go.ChangeAt Go.RowKit
set_option maxRecDepth 100000

section
variable {H : Type} {enc : TypeId × Value → H}
theorem weights_elem {P : Program} {e : TypeId} : ∀ {es : List (DataW H)} {d : DataW H}, d ∈ es → ∀ n ∈ d.weights P e, n ∈ DataW.weightsAll P e es
  | x :: es, d, h, n, hn => by
    simp only [DataW.weightsAll, List.mem_append]
    rcases List.mem_cons.1 h with rfl | h
    · exact .inl hn
    · exact .inr (weights_elem h n hn)
/-- a slice whose elements are one cell each: each element's cell, and what it reads as -/
theorem open_row {P : Program} {t e : TypeId} (ht : P.underlying t = some (.slice e)) (hc : P.cellsOf e = 1) {W : World} {v : Value} {fuel : Nat} {x : DataW H × List MemPlace} (hf : DataW.trod enc P W 0 (fun _ => true) true fuel t [v] = some x) :
    ∃ (A : Option Addr) (len cap : Nat) (D : Nat → DataW H), v = .slice A len cap ∧ len ≤ cap ∧ cap ≤ 9223372036854775807 ∧ ((len = 0 ∧ x.1 = .nil) ∨ ∃ sp, x.1 = .slice ((List.range len).map D) sp) ∧
      ∀ i, i < len → ∃ (g o n : Nat) (u : Value) (pl : List MemPlace), A = some ⟨g, o, none⟩ ∧ W.cell? ⟨g, o + i, none⟩ = some u ∧ DataW.trod enc P W 0 (fun _ => true) true n e [u] = some (D i, pl) := by
  rcases Deep.open_slice1 ht hc hf with ⟨hcs, hx⟩ | ⟨a, len, cap, m, n, V, D, Pl, hcs, _, hl, hm, hmm, hx, hi⟩
  · simp at hcs
    exact ⟨none, 0, 0, fun _ => .nil, hcs, Nat.le_refl _, by omega, .inl ⟨rfl, congrArg Prod.fst hx⟩, fun i hi => by omega⟩
  · simp at hcs
    simp only [maxLen] at hm
    simp only [if_true] at hmm
    refine ⟨some a, len, cap, D, hcs, hl, by omega, .inr ⟨_, congrArg Prod.fst hx⟩, fun i hil => ?_⟩
    obtain ⟨hce, htr⟩ := hi i (by omega)
    have hz : a.spot = none := by
      have := World.cell?_spot (hi 0 (by omega)).1
      simpa [Addr.add] using this
    obtain ⟨g, o, sp⟩ := a
    have hsp : sp = none := hz
    subst hsp
    exact ⟨g, o, n, V i, Pl i, rfl, by rw [← Addr.add_lit]; exact hce, htr⟩

set_option maxRecDepth 100000 in
/-- a cell of type []api.Trace -/
theorem ts_of_cell {W : World} {v : Value} {fuel : Nat} {x : DataW H × List MemPlace} (h : DataW.trod enc Try.prog W 0 (fun _ => true) true fuel 47 [v] = some x) (hs : ∀ n ∈ x.1.weights Try.prog 47, n ≤ reachBytes) :
    ∃ l : List Tn, Ts W v l ∧ l.length ≤ 140737488355328 := by
  obtain ⟨A, len, c, rfl, hnc, hcm, hlen, hf⟩ := open_fields_cell Try.underlying47 Try.underlying50 (by kernel_rfl) (by kernel_rfl) (by decide) h
  have hn : len ≤ 140737488355328 := by
    rcases hlen with h0 | ⟨es, sp, hx, he⟩
    · omega
    · have h2 := hs ((es.length + sp.length) * Try.prog.bytesOf 50) (by rw [hx]; simp only [DataW.weights, Try.underlying47]; exact List.mem_cons_self ..)
      rw [bytesTn] at h2
      have h3 : reachBytes = 140737488351232 := by decide
      omega
  have key : ∀ i, i < len → ∃ (x : List Value) (s : Tn) (g o : Nat), A = some ⟨g, o, none⟩ ∧ TnC W s x ∧ x.length = 2 ∧ ∀ j u, x[j]? = some u → W.cell? ⟨g, o + i * 2 + j, none⟩ = some u := by
    intro i hi
    obtain ⟨g, o, hA, hj⟩ := hf i hi
    obtain ⟨u0, n0, y0, c0, t0⟩ := hj 0 _ rfl
    obtain ⟨u1, n1, y1, c1, t1⟩ := hj 1 _ rfl
    obtain ⟨q, e0, _, w0⟩ := DataW.trod_int Try.underlying23 t0
    simp only [List.cons.injEq, and_true] at e0
    subst e0
    have b0 : 0 ≤ q ∧ q ≤ 18446744073709551615 := by simpa [Lit.wf, IntKind.min, IntKind.max, IntKind.signed, IntKind.bits] using w0
    obtain ⟨sl, hsl⟩ := ss_of_cell t1
    refine ⟨[.int .u64 q, u1], ⟨q, sl⟩, g, o, hA, ⟨b0, u1, rfl, hsl⟩, rfl, fun j u hu => ?_⟩
    match j, hu with
    | 0, hu => simp at hu; subst hu; exact c0
    | 1, hu => simp at hu; subst hu; exact c1
    | j + 2, hu => simp at hu
  obtain ⟨l, hl⟩ := ts_of_key hnc hcm key
  refine ⟨l, hl, ?_⟩
  obtain ⟨A', c', hv, _⟩ := hl.form
  injection hv with _ e2 _
  omega

set_option maxRecDepth 100000 in
/-- an argument of type [][]api.Trace, where it is known how great the arguments are -/
theorem rows_of_sized {W : World} {base : Nat} {v : Value} {d : DataW H} {p : List MemPlace} (hval : Value.okWide Try.prog W .any base 22 v)
    (h : DataW.Trod enc Try.prog W 0 (fun _ => true) true 22 v d p) {ts : List TypeId} {ds : List (DataW H)} (hs : (DataW.weightsEach Try.prog ts ds).all (· ≤ reachBytes) = true) {j : Nat} (ht : ts[j]? = some 22) (hd : ds[j]? = some d) :
    ∃ l : List (List Tn), Sls TsV W v l ∧ ∀ r ∈ l, r.length ≤ 140737488355328 := by
  obtain ⟨a1, len, cap, rfl⟩ := okWide_slice Try.underlying22 hval
  obtain ⟨fuel, hf0⟩ := h
  have hf1 : DataW.trod enc Try.prog W 0 (fun _ => true) true fuel 22 [.slice a1 len cap] = some (d, p) := by simpa [Value.cells] using hf0
  obtain ⟨A, n, c, D, hv, hnc, hcm, hx, hf⟩ := open_row Try.underlying22 (by kernel_rfl) hf1
  injection hv with e1 e2 e3
  subst e1 e2 e3
  have hw : ∀ i, i < len → ∀ m ∈ (D i).weights Try.prog 47, m ≤ reachBytes := by
    intro i hi m hm
    rcases hx with ⟨h0, _⟩ | ⟨sp, hx⟩
    · omega
    · have hx' : d = .slice ((List.range len).map D) sp := hx
      subst hx'
      have h1 := DataW.weights_mem_each (P := Try.prog) ht hd m (by
        simp only [DataW.weights, Try.underlying22]
        refine List.mem_cons_of_mem _ (List.mem_append_left _ (weights_elem (d := D i) ?_ m hm))
        exact List.mem_map.2 ⟨i, List.mem_range.2 hi, rfl⟩)
      have := List.all_eq_true.1 hs _ h1
      simpa using this
  have key : ∀ i, i < len → ∃ (x : List Value) (s : List Tn) (g o : Nat), a1 = some ⟨g, o, none⟩ ∧ (∃ d, x = [d] ∧ TsV W s d ∧ s.length ≤ 140737488355328) ∧ x.length = 1 ∧ ∀ j u, x[j]? = some u → W.cell? ⟨g, o + i * 1 + j, none⟩ = some u := by
    intro i hi
    obtain ⟨g, o, m, u, pl, hA, hc, ht⟩ := hf i hi
    obtain ⟨l, hl, hll⟩ := ts_of_cell ht (hw i hi)
    refine ⟨[u], l, g, o, hA, ⟨u, rfl, hl, hll⟩, rfl, fun j z hz => ?_⟩
    match j, hz with
    | 0, hz =>
      simp at hz
      subst hz
      simpa using hc
    | j + 1, hz => simp at hz
  obtain ⟨l, xs, h1, h2⟩ := lv_of_key (R := fun W (s : List Tn) x => ∃ d, x = [d] ∧ TsV W s d ∧ s.length ≤ 140737488355328) (by omega) hnc hcm key
  refine ⟨l, ⟨xs, h1, h2.mono fun _ _ ⟨d, e, hd, _⟩ => ⟨d, e, hd⟩⟩, fun r hr => ?_⟩
  obtain ⟨i, hi⟩ := List.getElem?_of_mem hr
  obtain ⟨x, _, d, _, _, hl⟩ := h2.right hi
  exact hl

theorem bytesTs : Try.prog.bytesOf 47 = 24 := by kernel_rfl
set_option maxRecDepth 100000 in
/-- the same, and how many there are -/
theorem rows_of_sized2 {W : World} {base : Nat} {v : Value} {d : DataW H} {p : List MemPlace} (hval : Value.okWide Try.prog W .any base 22 v)
    (h : DataW.Trod enc Try.prog W 0 (fun _ => true) true 22 v d p) {ts : List TypeId} {ds : List (DataW H)} (hs : (DataW.weightsEach Try.prog ts ds).all (· ≤ reachBytes) = true) {j : Nat} (ht : ts[j]? = some 22) (hd : ds[j]? = some d) :
    ∃ l : List (List Tn), Sls TsV W v l ∧ (∀ r ∈ l, r.length ≤ 140737488355328) ∧ l.length ≤ 140737488355328 := by
  obtain ⟨l, hl, hr⟩ := rows_of_sized hval h hs ht hd
  refine ⟨l, hl, hr, ?_⟩
  obtain ⟨A, c, rfl, _⟩ := hl.form
  obtain ⟨fuel, hf0⟩ := h
  have hf1 : DataW.trod enc Try.prog W 0 (fun _ => true) true fuel 22 [.slice A l.length c] = some (d, p) := by simpa [Value.cells] using hf0
  obtain ⟨A', n, c', D, hv, hnc, hcm, hx, hf⟩ := open_row Try.underlying22 (by kernel_rfl) hf1
  injection hv with e1 e2 e3
  rcases hx with ⟨h0, _⟩ | ⟨sp, hx⟩
  · omega
  · have hx' : d = .slice ((List.range n).map D) sp := hx
    subst hx'
    have h1 := DataW.weights_mem_each (P := Try.prog) ht hd ((((List.range n).map D).length + sp.length) * Try.prog.bytesOf 47) (by
      simp only [DataW.weights, Try.underlying22]
      exact List.mem_cons_self ..)
    have h2 := List.all_eq_true.1 hs _ h1
    rw [bytesTs, decide_eq_true_eq, List.length_map, List.length_range] at h2
    have h3 : reachBytes = 140737488351232 := by decide
    omega
end
end Go.Proofs.Ytnlflgannghfpaa
