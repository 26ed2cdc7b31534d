/-
  What an argument of type string, or of turns (the same five cells as a deed of layer 6) (tankardlaw15.Turn), gives to a walk. No condition.
-/
import Derived.Test.YtfccfnbmmgfgcaaGreatDoorStA
import Derived.Test.YtfccfnbmmgfgcaaGreatDoorRow
import Derived.Test.YtfccfnbmmgfgcaaGreatDoorLvKey
namespace Go.Proofs.YtfccfnbmmgfgcaaGreatDoor
open Go.ChangeShapes Go.WideShapes Go.ChangeAt Go.RowKit
set_option maxRecDepth 100000

structure De where
  what : Int
  nm : List UInt8
  n : Int
  x : Int
  b : List UInt8
def DeC (w : World) (d : De) (x : List Value) : Prop := (-9223372036854775808 ≤ d.what ∧ d.what ≤ 9223372036854775807) ∧ (-9223372036854775808 ≤ d.n ∧ d.n ≤ 9223372036854775807) ∧ (0 ≤ d.x ∧ d.x ≤ 255) ∧ d.nm.length ≤ 9223372036854775807 ∧
  ∃ v, x = [.int .i64 d.what, .string (Bstr d.nm), .int .i64 d.n, .int .u8 d.x, v] ∧ Bs w v d.b
def Ds (w : World) (v : Value) (l : List De) : Prop := ∃ xs, Lv 5 w v xs ∧ Two (DeC w) l xs
theorem DeC.below {w w' : World} {d : De} {x : List Value} (h : DeC w d x) (hb : Below w.heap.size w w') : DeC w' d x := by
  obtain ⟨h1, h2, h3, hn, v, h4, h5⟩ := h
  exact ⟨h1, h2, h3, hn, v, h4, h5.below hb⟩
theorem Ds.below {w w' : World} {v : Value} {l : List De} (h : Ds w v l) (hb : Below w.heap.size w w') : Ds w' v l := by
  obtain ⟨xs, h1, h2⟩ := h
  exact ⟨xs, h1.below hb, h2.mono fun _ _ h => h.below hb⟩
theorem Ds.form {w : World} {v : Value} {l : List De} (h : Ds w v l) : ∃ A c, v = .slice A l.length c ∧ l.length ≤ c ∧ c ≤ 9223372036854775807 := by
  obtain ⟨xs, h1, h2⟩ := h
  obtain ⟨A, c, hv, h3, h4⟩ := h1.form
  rw [← h2.len] at hv h3
  exact ⟨A, c, hv, h3, h4⟩
theorem Ds.cells {w : World} {A : Option Addr} {n c : Nat} {l : List De} (h : Ds w (.slice A n c) l) {i : Nat} {d : De} (hi : l[i]? = some d) :
    ∃ g o v, A = some ⟨g, o, none⟩ ∧ g < w.heap.size ∧ w.cell? ⟨g, o + i * 5, none⟩ = some (.int .i64 d.what) ∧ w.cell? ⟨g, o + i * 5 + 1, none⟩ = some (.string (Bstr d.nm)) ∧ w.cell? ⟨g, o + i * 5 + 2, none⟩ = some (.int .i64 d.n) ∧
      w.cell? ⟨g, o + i * 5 + 3, none⟩ = some (.int .u8 d.x) ∧ w.cell? ⟨g, o + i * 5 + 4, none⟩ = some v ∧ Bs w v d.b ∧ (-9223372036854775808 ≤ d.what ∧ d.what ≤ 9223372036854775807) ∧ (-9223372036854775808 ≤ d.n ∧ d.n ≤ 9223372036854775807) ∧ (0 ≤ d.x ∧ d.x ≤ 255) ∧ d.nm.length ≤ 9223372036854775807 := by
  obtain ⟨xs, h1, h2⟩ := h
  obtain ⟨x, hx, q1, q2, q3, qn, v, rfl, hb⟩ := h2.right hi
  obtain ⟨g, o, hA, hg, hc⟩ := h1.cells (by omega) hx
  exact ⟨g, o, v, hA, hg, hc 0 _ rfl, hc 1 _ rfl, hc 2 _ rfl, hc 3 _ rfl, hc 4 _ rfl, hb, q1, q2, q3, qn⟩

section
variable {H : Type} {enc : TypeId × Value → H}
theorem deed_of_cells {W : World} {u0 u1 u2 u3 u4 : Value} {n0 n1 n2 n3 n4 : Nat} {y0 y1 y2 y3 y4 : DataW H × List MemPlace}
    (h0 : DataW.trod enc Tryz.prog W 0 (fun _ => true) true n0 3 [u0] = some y0) (h1 : DataW.trod enc Tryz.prog W 0 (fun _ => true) true n1 9 [u1] = some y1)
    (h2 : DataW.trod enc Tryz.prog W 0 (fun _ => true) true n2 3 [u2] = some y2) (h3 : DataW.trod enc Tryz.prog W 0 (fun _ => true) true n3 5 [u3] = some y3)
    (h4 : DataW.trod enc Tryz.prog W 0 (fun _ => true) true n4 67 [u4] = some y4) : ∃ d : De, DeC W d [u0, u1, u2, u3, u4] := by
  obtain ⟨a, e0, _, w0⟩ := DataW.trod_int Tryz.underlying3 h0
  obtain ⟨s, e1, _, w1⟩ := DataW.trod_string strT h1
  obtain ⟨n, e2, _, w2⟩ := DataW.trod_int Tryz.underlying3 h2
  obtain ⟨x, e3, _, w3⟩ := DataW.trod_int Tryz.underlying5 h3
  obtain ⟨l, hl⟩ := bs_of_cell byteT cellsB h4
  simp only [List.cons.injEq, and_true] at e0 e1 e2 e3
  subst e0 e1 e2 e3
  have b0 : -9223372036854775808 ≤ a ∧ a ≤ 9223372036854775807 := by simpa [Lit.wf, IntKind.min, IntKind.max, IntKind.signed, IntKind.bits] using w0
  have b2 : -9223372036854775808 ≤ n ∧ n ≤ 9223372036854775807 := by simpa [Lit.wf, IntKind.min, IntKind.max, IntKind.signed, IntKind.bits] using w2
  have b3 : 0 ≤ x ∧ x ≤ 255 := by simpa [Lit.wf, IntKind.min, IntKind.max, IntKind.signed, IntKind.bits] using w3
  exact ⟨⟨a, s.data.toList, n, x, l⟩, b0, b2, b3, by simpa [maxLen] using w1, _, by rw [Bstr_of], hl⟩

theorem ds15_of_trod {W : World} {base : Nat} {v : Value} {d : DataW H} {p : List MemPlace} (hval : Value.okWide Tryz.prog W .any base 26 v)
    (h : DataW.Trod enc Tryz.prog W 0 (fun _ => true) true 26 v d p) : ∃ l : List De, Ds W v l := by
  obtain ⟨A, n, c, rfl, hnc, hcm, hf⟩ := open_fields Tryz.underlying26 Tryz.underlying69 (by kernel_rfl) (by kernel_rfl) (by decide) hval h
  have key : ∀ i, i < n → ∃ (x : List Value) (s : De) (g o : Nat), A = some ⟨g, o, none⟩ ∧ DeC W s x ∧ x.length = 5 ∧ ∀ j u, x[j]? = some u → W.cell? ⟨g, o + i * 5 + j, none⟩ = some u := by
    intro i hi
    obtain ⟨g, o, hA, hj⟩ := hf i hi
    obtain ⟨u0, n0, y0, c0, t0⟩ := hj 0 _ rfl
    obtain ⟨u1, n1, y1, c1, t1⟩ := hj 1 _ rfl
    obtain ⟨u2, n2, y2, c2, t2⟩ := hj 2 _ rfl
    obtain ⟨u3, n3, y3, c3, t3⟩ := hj 3 _ rfl
    obtain ⟨u4, n4, y4, c4, t4⟩ := hj 4 _ rfl
    obtain ⟨s, hs⟩ := deed_of_cells t0 t1 t2 t3 t4
    refine ⟨_, s, g, o, hA, hs, rfl, fun j u hu => ?_⟩
    match j, hu with
    | 0, hu => simp at hu; subst hu; exact c0
    | 1, hu => simp at hu; subst hu; exact c1
    | 2, hu => simp at hu; subst hu; exact c2
    | 3, hu => simp at hu; subst hu; exact c3
    | 4, hu => simp at hu; subst hu; exact c4
    | j + 5, hu => simp at hu
  exact lv_of_key (R := DeC) (by omega) hnc hcm key

end

end Go.Proofs.YtfccfnbmmgfgcaaGreatDoor
