/-
  WHAT A HEAP OF THE PROGRAM IS TO KEEP ('HeapK', over the plain IsFirst); the head of layer 9's statements, and HeapSorts, walked over it. No condition but what each theorem says.
-/
import Derived.Test.YtpanpebllapbcaaHpA
import Derived.Test.YtpanpebllapbcaaMix
import Derived.Test.YtpanpebllapbcaaRows
import Derived.Outline
import Derived.Lib.Hide
import Derived.Deep.QuietTactic
import Derived.BigQuiet
import Derived.WalkSpells
namespace Go.Proofs.Ytpanpebllapbcaa
open Go.RowKit
set_option maxRecDepth 100000

/-- the function value fv, called in the world u: it tells R of what meets D, and leaves u as it was -/
def LessAt {α : Type} (V : α → Value) (fv : Value) (R : α → α → Bool) (D : α → Prop) (u : World) : Prop :=
  ∃ (fn : FuncId) (cap : Array Value), fv = .func (.func fn) #[] cap ∧ (∀ args v, (callFunc fn args).run Try.prog v = .ok (.enter fn args) v) ∧ ∀ a b, D a → D b → Calls Try.prog fn (#[V a, V b] ++ cap) u fun e u' => e = .returned (.bool (R a b)) ∧ Below u.heap.size u u'

/-- 'HP w F g fv R n l': in the world w the heap in block g, made with fv, which tells R, holds l in the order of its pushes, of which there were n, and lies in the blocks F. Its contracts: F may grow by what is new; what lies elsewhere stays. -/
structure HeapK {α : Type} (V : α → Value) (zero : Value) (new push pop peek len : FuncId) (HP : World → (Nat → Prop) → Nat → Value → (α → α → Bool) → Nat → List α → Prop) : Prop where
  thing : ∀ (g : Nat) (fv : Value) (R : α → α → Bool) (n : Nat) (l : List α), Thing fun w F => HP w F g fv R n l
  new_ok : ∀ (w : World) (fn : FuncId) (cap : Array Value) (R : α → α → Bool), Calls Try.prog new #[.func (.func fn) #[] cap] w fun e w' => ∃ (g : Nat) (F : Nat → Prop), e = .returned (.pointer (some ⟨g, 0, none⟩)) ∧ HP w' F g (.func (.func fn) #[] cap) R 0 [] ∧ Below w.heap.size w w' ∧ ∀ q, F q → w.heap.size ≤ q
  push : ∀ {w : World} {F : Nat → Prop} {g : Nat} {fv : Value} {R : α → α → Bool} {n : Nat} {D : α → Prop} {l : List α} {x : α}, HP w F g fv R n l → WeakO R D → Keep F (LessAt V fv R D) w → (∀ y ∈ l, D y) → D x → l.length ≤ 1000000 → n ≤ 1000000 →
    Calls Try.prog push #[.pointer (some ⟨g, 0, none⟩), V x] w fun e w' => e = .returned (.tuple #[]) ∧ ∃ F', HP w' F' g fv R (n + 1) (l ++ [x]) ∧ Apt F w w' ∧ ∀ q, F' q → F q ∨ w.heap.size ≤ q
  pop_none : ∀ {w : World} {F : Nat → Prop} {g : Nat} {fv : Value} {R : α → α → Bool} {n : Nat}, HP w F g fv R n [] →
    Calls Try.prog pop #[.pointer (some ⟨g, 0, none⟩)] w fun e w' => e = .returned (.tuple #[zero, .bool false]) ∧ ∃ F', HP w' F' g fv R n [] ∧ Apt F w w' ∧ ∀ q, F' q → F q ∨ w.heap.size ≤ q
  pop : ∀ {w : World} {F : Nat → Prop} {g : Nat} {fv : Value} {R : α → α → Bool} {n : Nat} {D : α → Prop} {l : List α} {i : Nat} {x : α}, HP w F g fv R n l → WeakO R D → Keep F (LessAt V fv R D) w → (∀ y ∈ l, D y) → IsFirst R l i x → l.length ≤ 1000000 →
    Calls Try.prog pop #[.pointer (some ⟨g, 0, none⟩)] w fun e w' => e = .returned (.tuple #[V x, .bool true]) ∧ ∃ F', HP w' F' g fv R n (l.eraseIdx i) ∧ Apt F w w' ∧ ∀ q, F' q → F q ∨ w.heap.size ≤ q
  peek_none : ∀ {w : World} {F : Nat → Prop} {g : Nat} {fv : Value} {R : α → α → Bool} {n : Nat}, HP w F g fv R n [] →
    Calls Try.prog peek #[.pointer (some ⟨g, 0, none⟩)] w fun e w' => e = .returned (.tuple #[zero, .bool false]) ∧ ∃ F', HP w' F' g fv R n [] ∧ Apt F w w' ∧ ∀ q, F' q → F q ∨ w.heap.size ≤ q
  peek : ∀ {w : World} {F : Nat → Prop} {g : Nat} {fv : Value} {R : α → α → Bool} {n : Nat} {D : α → Prop} {l : List α} {i : Nat} {x : α}, HP w F g fv R n l → WeakO R D → Keep F (LessAt V fv R D) w → (∀ y ∈ l, D y) → IsFirst R l i x → l.length ≤ 1000000 →
    Calls Try.prog peek #[.pointer (some ⟨g, 0, none⟩)] w fun e w' => e = .returned (.tuple #[V x, .bool true]) ∧ ∃ F', HP w' F' g fv R n l ∧ Apt F w w' ∧ ∀ q, F' q → F q ∨ w.heap.size ≤ q
  len : ∀ {w : World} {F : Nat → Prop} {g : Nat} {fv : Value} {R : α → α → Bool} {n : Nat} {l : List α}, HP w F g fv R n l → l.length ≤ 1000000 →
    Calls Try.prog len #[.pointer (some ⟨g, 0, none⟩)] w fun e w' => e = .returned (.int .i64 (l.length : Int)) ∧ ∃ F', HP w' F' g fv R n l ∧ Apt F w w' ∧ ∀ q, F' q → F q ∨ w.heap.size ≤ q

/-- a heap of numbers -/
def vI (a : Int) : Value := .int .i64 a
def iC (i : Int) : List Value := [.int .i64 i]

end Go.Proofs.Ytpanpebllapbcaa
