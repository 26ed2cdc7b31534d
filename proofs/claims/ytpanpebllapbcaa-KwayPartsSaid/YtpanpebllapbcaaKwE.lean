/-
  WHAT IS LEFT OF A ROW, and which row it is ('Kr'); rows merged by what is left of each, as plain lists ('Merged.pop', 'KInv'). No condition but what each theorem says.
-/
import Derived.Test.YtpanpebllapbcaaKwB
namespace Go.Proofs.Ytpanpebllapbcaa

/-- what is left of a row, and which row it is -/
structure Kr (β : Type) where
  A : Option Addr
  n : Nat
  c : Nat
  pl : Nat
  left : List β
def krV {β : Type} (o : Kr β) : Value := .agg #[.slice o.A o.n o.c, .int .i64 (o.pl : Int)]
/-- the order of what is left: by the first ones, and then by the rows -/
def krR {β : Type} (R : β → β → Bool) (a b : Kr β) : Bool := match a.left, b.left with
  | x :: _, y :: _ => if a.pl < b.pl then !R y x else R x y
  | _, _ => false
/-- what the heap is to hold: no row is nothing -/
def krD {β : Type} (k : Nat) (C : β → List Value) (w : World) (o : Kr β) : Prop := o.left ≠ [] ∧ o.n = o.left.length ∧ Lv k w (.slice o.A o.n o.c) (o.left.map C)
theorem krO {β : Type} {R : β → β → Bool} (hR : WeakO R fun _ => True) {D : Kr β → Prop} (hD : ∀ a, D a → a.left ≠ []) : WeakO (krR R) D where
  irr a ha := by
    obtain ⟨x, t, e⟩ := List.exists_cons_of_ne_nil (hD a ha)
    simp [krR, e, hR.irr x trivial]
  trans a b c ha hb hc h1 h2 := by
    obtain ⟨x, _, ex⟩ := List.exists_cons_of_ne_nil (hD a ha)
    obtain ⟨y, _, ey⟩ := List.exists_cons_of_ne_nil (hD b hb)
    obtain ⟨z, _, ez⟩ := List.exists_cons_of_ne_nil (hD c hc)
    simp only [krR, ex, ey, ez] at *
    have t1 := hR.trans x y z trivial trivial trivial
    have t2 := hR.trans z x y trivial trivial trivial
    have t3 := hR.trans y z x trivial trivial trivial
    have s1 := hR.split z y x trivial trivial trivial
    have s2 := hR.split x z y trivial trivial trivial
    have s3 := hR.split y x z trivial trivial trivial
    have s4 := hR.split x y z trivial trivial trivial
    have s5 := hR.split y z x trivial trivial trivial
    have s6 := hR.split z x y trivial trivial trivial
    have i1 := hR.trans x y x trivial trivial trivial
    have i2 := hR.irr x trivial
    have i3 := hR.trans y z y trivial trivial trivial
    have i4 := hR.irr y trivial
    have i5 := hR.trans x z x trivial trivial trivial
    by_cases c1 : a.pl < b.pl <;> by_cases c2 : b.pl < c.pl <;> by_cases c3 : a.pl < c.pl <;> (try omega) <;> simp only [c1, c2, c3, if_true, if_false] at * <;>
      cases e1 : R x y <;> cases e2 : R y x <;> cases e3 : R y z <;> cases e4 : R z y <;> cases e5 : R x z <;> cases e6 : R z x <;> simp_all
  split a b c ha hb hc h1 := by
    obtain ⟨x, _, ex⟩ := List.exists_cons_of_ne_nil (hD a ha)
    obtain ⟨y, _, ey⟩ := List.exists_cons_of_ne_nil (hD b hb)
    obtain ⟨z, _, ez⟩ := List.exists_cons_of_ne_nil (hD c hc)
    simp only [krR, ex, ey, ez] at *
    have t1 := hR.trans x y z trivial trivial trivial
    have t2 := hR.trans z x y trivial trivial trivial
    have t3 := hR.trans y z x trivial trivial trivial
    have t4 := hR.trans z y x trivial trivial trivial
    have s1 := hR.split z y x trivial trivial trivial
    have s2 := hR.split x z y trivial trivial trivial
    have s3 := hR.split y x z trivial trivial trivial
    have s4 := hR.split x y z trivial trivial trivial
    have s5 := hR.split y z x trivial trivial trivial
    have s6 := hR.split z x y trivial trivial trivial
    have i1 := hR.trans x y x trivial trivial trivial
    have i2 := hR.irr x trivial
    have i3 := hR.trans y z y trivial trivial trivial
    have i4 := hR.irr y trivial
    have i5 := hR.trans x z x trivial trivial trivial
    by_cases c1 : a.pl < b.pl <;> by_cases c2 : b.pl < c.pl <;> by_cases c3 : a.pl < c.pl <;> (try omega) <;> simp only [c1, c2, c3, if_true, if_false] at * <;>
      cases e1 : R x y <;> cases e2 : R y x <;> cases e3 : R y z <;> cases e4 : R z y <;> cases e5 : R x z <;> cases e6 : R z x <;> simp_all
end Go.Proofs.Ytpanpebllapbcaa
