/-
  What an argument of deeds (tankardlaw07.Deed) gives to a walk. No condition.
-/
import Derived.Test.YtanabbeohaengaaTpA
import Derived.Test.YtanabbeohaengaaRow
import Derived.Test.YtanabbeohaengaaLvKey
namespace Go.Proofs.Ytanabbeohaengaa
open Go.ChangeShapes Go.WideShapes Go.ChangeAt Go.RowKit
set_option maxRecDepth 100000

/-- a deed -/
structure De7 where
  what : Int
  n : Int
  up : Bool
  b : List UInt8
/-- its cells -/
def De7C (w : World) (d : De7) (x : List Value) : Prop := (-9223372036854775808 ≤ d.what ∧ d.what ≤ 9223372036854775807) ∧ (-9223372036854775808 ≤ d.n ∧ d.n ≤ 9223372036854775807) ∧ ∃ v, x = [.int .i64 d.what, .int .i64 d.n, .bool d.up, v] ∧ Bs w v d.b
/-- the value v is a slice of these deeds -/
def Ds7 (w : World) (v : Value) (l : List De7) : Prop := ∃ xs, Lv 4 w v xs ∧ Two (De7C w) l xs
theorem Ds7.form {w : World} {v : Value} {l : List De7} (h : Ds7 w v l) : ∃ A c, v = .slice A l.length c ∧ l.length ≤ c ∧ c ≤ 9223372036854775807 := by
  obtain ⟨xs, h1, h2⟩ := h
  obtain ⟨A, c, hv, h3, h4⟩ := h1.form
  rw [← h2.len] at hv h3
  exact ⟨A, c, hv, h3, h4⟩
/-- the cells of one deed -/
theorem Ds7.cells {w : World} {A : Option Addr} {n c : Nat} {l : List De7} (h : Ds7 w (.slice A n c) l) {i : Nat} {d : De7} (hi : l[i]? = some d) :
    ∃ g o v, A = some ⟨g, o, none⟩ ∧ g < w.heap.size ∧ w.cell? ⟨g, o + i * 4, none⟩ = some (.int .i64 d.what) ∧ w.cell? ⟨g, o + i * 4 + 1, none⟩ = some (.int .i64 d.n) ∧ w.cell? ⟨g, o + i * 4 + 2, none⟩ = some (.bool d.up) ∧
      w.cell? ⟨g, o + i * 4 + 3, none⟩ = some v ∧ Bs w v d.b ∧ (-9223372036854775808 ≤ d.what ∧ d.what ≤ 9223372036854775807) ∧ (-9223372036854775808 ≤ d.n ∧ d.n ≤ 9223372036854775807) := by
  obtain ⟨xs, h1, h2⟩ := h
  obtain ⟨x, hx, q1, q2, v, rfl, hb⟩ := h2.right hi
  obtain ⟨g, o, hA, hg, hc⟩ := h1.cells (by omega) hx
  exact ⟨g, o, v, hA, hg, hc 0 _ rfl, hc 1 _ rfl, hc 2 _ rfl, hc 3 _ rfl, hb, q1, q2⟩

section
variable {H : Type} {enc : TypeId × Value → H}
/-- four cells that read as a deed -/
theorem deed7_of_cells {W : World} {u0 u1 u2 u3 : Value} {n0 n1 n2 n3 : Nat} {y0 y1 y2 y3 : DataW H × List MemPlace}
    (h0 : DataW.trod enc Try.prog W 0 (fun _ => true) true n0 3 [u0] = some y0) (h1 : DataW.trod enc Try.prog W 0 (fun _ => true) true n1 3 [u1] = some y1)
    (h2 : DataW.trod enc Try.prog W 0 (fun _ => true) true n2 4 [u2] = some y2) (h3 : DataW.trod enc Try.prog W 0 (fun _ => true) true n3 33 [u3] = some y3) : ∃ d : De7, De7C W d [u0, u1, u2, u3] := by
  obtain ⟨a, e0, _, w0⟩ := DataW.trod_int Try.underlying3 h0
  obtain ⟨n, e1, _, w1⟩ := DataW.trod_int Try.underlying3 h1
  obtain ⟨b, e2, _⟩ := DataW.trod_bool Try.underlying4 h2
  obtain ⟨l, hl⟩ := bs_of_cell byteT cellsB h3
  simp only [List.cons.injEq, and_true] at e0 e1 e2
  subst e0 e1 e2
  have b0 : -9223372036854775808 ≤ a ∧ a ≤ 9223372036854775807 := by simpa [Lit.wf, IntKind.min, IntKind.max, IntKind.signed, IntKind.bits] using w0
  have b1 : -9223372036854775808 ≤ n ∧ n ≤ 9223372036854775807 := by simpa [Lit.wf, IntKind.min, IntKind.max, IntKind.signed, IntKind.bits] using w1
  exact ⟨⟨a, n, b, l⟩, b0, b1, _, rfl, hl⟩

/-- an argument of type []tankardlaw07.Deed -/
theorem ds7_of_trod {W : World} {base : Nat} {v : Value} {d : DataW H} {p : List MemPlace} (hval : Value.okWide Try.prog W .any base 22 v)
    (h : DataW.Trod enc Try.prog W 0 (fun _ => true) true 22 v d p) : ∃ l : List De7, Ds7 W v l := by
  obtain ⟨A, n, c, rfl, hnc, hcm, hf⟩ := open_fields Try.underlying22 Try.underlying35 (by kernel_rfl) (by kernel_rfl) (by decide) hval h
  have key : ∀ i, i < n → ∃ (x : List Value) (s : De7) (g o : Nat), A = some ⟨g, o, none⟩ ∧ De7C W s x ∧ x.length = 4 ∧ ∀ j u, x[j]? = some u → W.cell? ⟨g, o + i * 4 + j, none⟩ = some u := by
    intro i hi
    obtain ⟨g, o, hA, hj⟩ := hf i hi
    obtain ⟨u0, n0, y0, c0, t0⟩ := hj 0 _ rfl
    obtain ⟨u1, n1, y1, c1, t1⟩ := hj 1 _ rfl
    obtain ⟨u2, n2, y2, c2, t2⟩ := hj 2 _ rfl
    obtain ⟨u3, n3, y3, c3, t3⟩ := hj 3 _ rfl
    obtain ⟨s, hs⟩ := deed7_of_cells t0 t1 t2 t3
    refine ⟨_, s, g, o, hA, hs, rfl, fun j u hu => ?_⟩
    match j, hu with
    | 0, hu => simp at hu; subst hu; exact c0
    | 1, hu => simp at hu; subst hu; exact c1
    | 2, hu => simp at hu; subst hu; exact c2
    | 3, hu => simp at hu; subst hu; exact c3
    | j + 4, hu => simp at hu
  exact lv_of_key (R := De7C) (by omega) hnc hcm key
end

end Go.Proofs.Ytanabbeohaengaa
