/-
  What an argument of deeds (tankardlaw08.Deed) gives to a walk. No condition.
-/
import Derived.Test.YtdfjicjlmejonaaWlA
import Derived.Test.YtdfjicjlmejonaaRow
import Derived.Test.YtdfjicjlmejonaaLvKey
namespace Go.Proofs.Ytdfjicjlmejonaa
open Go.ChangeShapes Go.WideShapes Go.ChangeAt Go.RowKit
set_option maxRecDepth 100000

/-- a deed -/
structure De8 where
  what : Int
  n : Int
  b : List UInt8
/-- its cells -/
def De8C (w : World) (d : De8) (x : List Value) : Prop := (-9223372036854775808 ≤ d.what ∧ d.what ≤ 9223372036854775807) ∧ (-9223372036854775808 ≤ d.n ∧ d.n ≤ 9223372036854775807) ∧ ∃ v, x = [.int .i64 d.what, .int .i64 d.n, v] ∧ Bs w v d.b
/-- the value v is a slice of these deeds -/
def Ds8 (w : World) (v : Value) (l : List De8) : Prop := ∃ xs, Lv 3 w v xs ∧ Two (De8C w) l xs
theorem Ds8.form {w : World} {v : Value} {l : List De8} (h : Ds8 w v l) : ∃ A c, v = .slice A l.length c ∧ l.length ≤ c ∧ c ≤ 9223372036854775807 := by
  obtain ⟨xs, h1, h2⟩ := h
  obtain ⟨A, c, hv, h3, h4⟩ := h1.form
  rw [← h2.len] at hv h3
  exact ⟨A, c, hv, h3, h4⟩
/-- the cells of one deed -/
theorem Ds8.cells {w : World} {A : Option Addr} {n c : Nat} {l : List De8} (h : Ds8 w (.slice A n c) l) {i : Nat} {d : De8} (hi : l[i]? = some d) :
    ∃ g o v, A = some ⟨g, o, none⟩ ∧ g < w.heap.size ∧ w.cell? ⟨g, o + i * 3, none⟩ = some (.int .i64 d.what) ∧ w.cell? ⟨g, o + i * 3 + 1, none⟩ = some (.int .i64 d.n) ∧
      w.cell? ⟨g, o + i * 3 + 2, none⟩ = some v ∧ Bs w v d.b ∧ (-9223372036854775808 ≤ d.what ∧ d.what ≤ 9223372036854775807) ∧ (-9223372036854775808 ≤ d.n ∧ d.n ≤ 9223372036854775807) := by
  obtain ⟨xs, h1, h2⟩ := h
  obtain ⟨x, hx, q1, q2, v, rfl, hb⟩ := h2.right hi
  obtain ⟨g, o, hA, hg, hc⟩ := h1.cells (by omega) hx
  exact ⟨g, o, v, hA, hg, hc 0 _ rfl, hc 1 _ rfl, hc 2 _ rfl, hb, q1, q2⟩

section
variable {H : Type} {enc : TypeId × Value → H}
/-- three cells that read as a deed -/
theorem deed8_of_cells {W : World} {u0 u1 u2 : Value} {n0 n1 n2 : Nat} {y0 y1 y2 : DataW H × List MemPlace}
    (h0 : DataW.trod enc Try.prog W 0 (fun _ => true) true n0 3 [u0] = some y0) (h1 : DataW.trod enc Try.prog W 0 (fun _ => true) true n1 3 [u1] = some y1)
    (h2 : DataW.trod enc Try.prog W 0 (fun _ => true) true n2 22 [u2] = some y2) : ∃ d : De8, De8C W d [u0, u1, u2] := by
  obtain ⟨a, e0, _, w0⟩ := DataW.trod_int Try.underlying3 h0
  obtain ⟨n, e1, _, w1⟩ := DataW.trod_int Try.underlying3 h1
  obtain ⟨l, hl⟩ := bs_of_cell byteT cellsB h2
  simp only [List.cons.injEq, and_true] at e0 e1
  subst e0 e1
  have b0 : -9223372036854775808 ≤ a ∧ a ≤ 9223372036854775807 := by simpa [Lit.wf, IntKind.min, IntKind.max, IntKind.signed, IntKind.bits] using w0
  have b1 : -9223372036854775808 ≤ n ∧ n ≤ 9223372036854775807 := by simpa [Lit.wf, IntKind.min, IntKind.max, IntKind.signed, IntKind.bits] using w1
  exact ⟨⟨a, n, l⟩, b0, b1, _, rfl, hl⟩

/-- an argument of type []tankardlaw08.Deed -/
theorem ds8_of_trod {W : World} {base : Nat} {v : Value} {d : DataW H} {p : List MemPlace} (hval : Value.okWide Try.prog W .any base 32 v)
    (h : DataW.Trod enc Try.prog W 0 (fun _ => true) true 32 v d p) : ∃ l : List De8, Ds8 W v l := by
  obtain ⟨A, n, c, rfl, hnc, hcm, hf⟩ := open_fields Try.underlying32 Try.underlying51 (by kernel_rfl) (by kernel_rfl) (by decide) hval h
  have key : ∀ i, i < n → ∃ (x : List Value) (s : De8) (g o : Nat), A = some ⟨g, o, none⟩ ∧ De8C W s x ∧ x.length = 3 ∧ ∀ j u, x[j]? = some u → W.cell? ⟨g, o + i * 3 + j, none⟩ = some u := by
    intro i hi
    obtain ⟨g, o, hA, hj⟩ := hf i hi
    obtain ⟨u0, n0, y0, c0, t0⟩ := hj 0 _ rfl
    obtain ⟨u1, n1, y1, c1, t1⟩ := hj 1 _ rfl
    obtain ⟨u2, n2, y2, c2, t2⟩ := hj 2 _ rfl
    obtain ⟨s, hs⟩ := deed8_of_cells t0 t1 t2
    refine ⟨_, s, g, o, hA, hs, rfl, fun j u hu => ?_⟩
    match j, hu with
    | 0, hu => simp at hu; subst hu; exact c0
    | 1, hu => simp at hu; subst hu; exact c1
    | 2, hu => simp at hu; subst hu; exact c2
    | j + 3, hu => simp at hu
  exact lv_of_key (R := De8C) (by omega) hnc hcm key
end

end Go.Proofs.Ytdfjicjlmejonaa
