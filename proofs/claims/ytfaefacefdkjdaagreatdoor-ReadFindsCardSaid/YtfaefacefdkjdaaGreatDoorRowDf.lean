/-
  What an argument of type string, or of turns (the same five cells as a deed of layer 6) (tankardlaw15.Turn), gives to a walk. No condition.
-/
import Derived.Test.YtfaefacefdkjdaaGreatDoorStA
import Derived.Test.YtfaefacefdkjdaaGreatDoorRow
import Derived.Test.YtfaefacefdkjdaaGreatDoorLvKey
namespace Go.Proofs.YtfaefacefdkjdaaGreatDoor
open Go.ChangeShapes Go.WideShapes Go.ChangeAt Go.RowKit
set_option maxRecDepth 100000

structure De where
  what : Int
  nm : List UInt8
  n : Int
  x : Int
  b : List UInt8
def DeC (w : World) (d : De) (x : List Value) : Prop := (-9223372036854775808 ≤ d.what ∧ d.what ≤ 9223372036854775807) ∧ (-9223372036854775808 ≤ d.n ∧ d.n ≤ 9223372036854775807) ∧ (0 ≤ d.x ∧ d.x ≤ 255) ∧ d.nm.length ≤ 9223372036854775807 ∧
  ∃ v, x = [.int .i64 d.what, .string (Bstr d.nm), .int .i64 d.n, .int .u8 d.x, v] ∧ Bs w v d.b
def Ds (w : World) (v : Value) (l : List De) : Prop := ∃ xs, Lv 5 w v xs ∧ Two (DeC w) l xs
theorem DeC.below {w w' : World} {d : De} {x : List Value} (h : DeC w d x) (hb : Below w.heap.size w w') : DeC w' d x := by
  obtain ⟨h1, h2, h3, hn, v, h4, h5⟩ := h
  exact ⟨h1, h2, h3, hn, v, h4, h5.below hb⟩
theorem Ds.below {w w' : World} {v : Value} {l : List De} (h : Ds w v l) (hb : Below w.heap.size w w') : Ds w' v l := by
  obtain ⟨xs, h1, h2⟩ := h
  exact ⟨xs, h1.below hb, h2.mono fun _ _ h => h.below hb⟩
theorem Ds.form {w : World} {v : Value} {l : List De} (h : Ds w v l) : ∃ A c, v = .slice A l.length c ∧ l.length ≤ c ∧ c ≤ 9223372036854775807 := by
  obtain ⟨xs, h1, h2⟩ := h
  obtain ⟨A, c, hv, h3, h4⟩ := h1.form
  rw [← h2.len] at hv h3
  exact ⟨A, c, hv, h3, h4⟩
theorem Ds.cells {w : World} {A : Option Addr} {n c : Nat} {l : List De} (h : Ds w (.slice A n c) l) {i : Nat} {d : De} (hi : l[i]? = some d) :
    ∃ g o v, A = some ⟨g, o, none⟩ ∧ g < w.heap.size ∧ w.cell? ⟨g, o + i * 5, none⟩ = some (.int .i64 d.what) ∧ w.cell? ⟨g, o + i * 5 + 1, none⟩ = some (.string (Bstr d.nm)) ∧ w.cell? ⟨g, o + i * 5 + 2, none⟩ = some (.int .i64 d.n) ∧
      w.cell? ⟨g, o + i * 5 + 3, none⟩ = some (.int .u8 d.x) ∧ w.cell? ⟨g, o + i * 5 + 4, none⟩ = some v ∧ Bs w v d.b ∧ (-9223372036854775808 ≤ d.what ∧ d.what ≤ 9223372036854775807) ∧ (-9223372036854775808 ≤ d.n ∧ d.n ≤ 9223372036854775807) ∧ (0 ≤ d.x ∧ d.x ≤ 255) ∧ d.nm.length ≤ 9223372036854775807 := by
  obtain ⟨xs, h1, h2⟩ := h
  obtain ⟨x, hx, q1, q2, q3, qn, v, rfl, hb⟩ := h2.right hi
  obtain ⟨g, o, hA, hg, hc⟩ := h1.cells (by omega) hx
  exact ⟨g, o, v, hA, hg, hc 0 _ rfl, hc 1 _ rfl, hc 2 _ rfl, hc 3 _ rfl, hc 4 _ rfl, hb, q1, q2, q3, qn⟩

section
variable {H : Type} {enc : TypeId × Value → H}
theorem trodAll_eight {P : Program} {w : World} {base : Nat} {spare : Nat → Bool} {held : Bool} {t t1 t2 t3 t4 t5 t6 t7 : TypeId} {args : Array Value} {ds : List (DataW H)} {ps : List MemPlace} (h : DataW.TrodAll enc P w base spare held [t, t1, t2, t3, t4, t5, t6, t7] args.toList ds ps) :
    ∃ v v1 v2 v3 v4 v5 v6 v7 d d1 d2 d3 d4 d5 d6 d7 p p1 p2 p3 p4 p5 p6 p7, args = #[v, v1, v2, v3, v4, v5, v6, v7] ∧ ds = [d, d1, d2, d3, d4, d5, d6, d7] ∧ ps = p ++ p1 ++ p2 ++ p3 ++ p4 ++ p5 ++ p6 ++ p7 ∧ DataW.Trod enc P w base spare held t v d p ∧ DataW.Trod enc P w base spare held t1 v1 d1 p1 ∧ DataW.Trod enc P w base spare held t2 v2 d2 p2 ∧ DataW.Trod enc P w base spare held t3 v3 d3 p3 ∧ DataW.Trod enc P w base spare held t4 v4 d4 p4 ∧ DataW.Trod enc P w base spare held t5 v5 d5 p5 ∧ DataW.Trod enc P w base spare held t6 v6 d6 p6 ∧ DataW.Trod enc P w base spare held t7 v7 d7 p7 := by
  obtain ⟨v, vs, d, ds', p, q, hargs, rfl, rfl, hd, hrest⟩ := trodAll_cons h
  obtain ⟨v1, vs1, d1, ds1, p1, q1, rfl, rfl, rfl, hd1, hrest1⟩ := trodAll_cons hrest
  obtain ⟨v2, vs2, d2, ds2, p2, q2, rfl, rfl, rfl, hd2, hrest2⟩ := trodAll_cons hrest1
  obtain ⟨v3, vs3, d3, ds3, p3, q3, rfl, rfl, rfl, hd3, hrest3⟩ := trodAll_cons hrest2
  obtain ⟨v4, vs4, d4, ds4, p4, q4, rfl, rfl, rfl, hd4, hrest4⟩ := trodAll_cons hrest3
  obtain ⟨v5, vs5, d5, ds5, p5, q5, rfl, rfl, rfl, hd5, hrest5⟩ := trodAll_cons hrest4
  obtain ⟨v6, vs6, d6, ds6, p6, q6, rfl, rfl, rfl, hd6, hrest6⟩ := trodAll_cons hrest5
  obtain ⟨v7, vs7, d7, ds7, p7, q7, rfl, rfl, rfl, hd7, hrest7⟩ := trodAll_cons hrest6
  obtain ⟨rfl, rfl, rfl⟩ := trodAll_nil hrest7
  exact ⟨v, v1, v2, v3, v4, v5, v6, v7, d, d1, d2, d3, d4, d5, d6, d7, p, p1, p2, p3, p4, p5, p6, p7, by cases args; simp_all, rfl, by simp, hd, hd1, hd2, hd3, hd4, hd5, hd6, hd7⟩

end

end Go.Proofs.YtfaefacefdkjdaaGreatDoor
