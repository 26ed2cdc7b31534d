/-
  WHAT A HEAP OF THE PROGRAM IS TO KEEP ('HeapK', over the plain IsFirst); the head of layer 9's statements, and HeapSorts, walked over it. No condition but what each theorem says.
-/
import Derived.Test.YtpcaecnkdcobmaaHpA
import Derived.Test.YtpcaecnkdcobmaaMix
import Derived.Test.YtpcaecnkdcobmaaRows
import Derived.Outline
import Derived.Lib.Hide
import Derived.Deep.QuietTactic
import Derived.BigQuiet
import Derived.WalkSpells
namespace Go.Proofs.Ytpcaecnkdcobmaa
open Go.RowKit
set_option maxRecDepth 100000

/-- the function value fv, called in the world u: it tells R of what meets D, and leaves u as it was -/
def LessAt {α : Type} (V : α → Value) (fv : Value) (R : α → α → Bool) (D : α → Prop) (u : World) : Prop :=
  ∃ (fn : FuncId) (cap : Array Value), fv = .func (.func fn) #[] cap ∧ (∀ args v, (callFunc fn args).run Try.prog v = .ok (.enter fn args) v) ∧ ∀ a b, D a → D b → Calls Try.prog fn (#[V a, V b] ++ cap) u fun e u' => e = .returned (.bool (R a b)) ∧ Below u.heap.size u u'
/-- 'HP w F g fv R n l': in the world w the heap in block g, made with fv, which tells R, holds l in the order of its pushes, of which there were n, and lies in the blocks F. Its contracts: F may grow by what is new; what lies elsewhere stays. -/
structure HeapK {α : Type} (V : α → Value) (zero : Value) (new push pop peek len : FuncId) (HP : World → (Nat → Prop) → Nat → Value → (α → α → Bool) → Nat → List α → Prop) : Prop where
  thing : ∀ (g : Nat) (fv : Value) (R : α → α → Bool) (n : Nat) (l : List α), Thing fun w F => HP w F g fv R n l
  new_ok : ∀ (w : World) (fn : FuncId) (cap : Array Value) (R : α → α → Bool), Calls Try.prog new #[.func (.func fn) #[] cap] w fun e w' => ∃ (g : Nat) (F : Nat → Prop), e = .returned (.pointer (some ⟨g, 0, none⟩)) ∧ HP w' F g (.func (.func fn) #[] cap) R 0 [] ∧ Below w.heap.size w w' ∧ ∀ q, F q → w.heap.size ≤ q
  push : ∀ {w : World} {F : Nat → Prop} {g : Nat} {fv : Value} {R : α → α → Bool} {n : Nat} {D : α → Prop} {l : List α} {x : α}, HP w F g fv R n l → WeakO R D → Keep F (LessAt V fv R D) w → (∀ y ∈ l, D y) → D x → l.length ≤ 1000000 → n ≤ 1000000 →
    Calls Try.prog push #[.pointer (some ⟨g, 0, none⟩), V x] w fun e w' => e = .returned (.tuple #[]) ∧ ∃ F', HP w' F' g fv R (n + 1) (l ++ [x]) ∧ Apt F w w' ∧ ∀ q, F' q → F q ∨ w.heap.size ≤ q
  pop_none : ∀ {w : World} {F : Nat → Prop} {g : Nat} {fv : Value} {R : α → α → Bool} {n : Nat}, HP w F g fv R n [] →
    Calls Try.prog pop #[.pointer (some ⟨g, 0, none⟩)] w fun e w' => e = .returned (.tuple #[zero, .bool false]) ∧ ∃ F', HP w' F' g fv R n [] ∧ Apt F w w' ∧ ∀ q, F' q → F q ∨ w.heap.size ≤ q
  pop : ∀ {w : World} {F : Nat → Prop} {g : Nat} {fv : Value} {R : α → α → Bool} {n : Nat} {D : α → Prop} {l : List α} {i : Nat} {x : α}, HP w F g fv R n l → WeakO R D → Keep F (LessAt V fv R D) w → (∀ y ∈ l, D y) → IsFirst R l i x → l.length ≤ 1000000 →
    Calls Try.prog pop #[.pointer (some ⟨g, 0, none⟩)] w fun e w' => e = .returned (.tuple #[V x, .bool true]) ∧ ∃ F', HP w' F' g fv R n (l.eraseIdx i) ∧ Apt F w w' ∧ ∀ q, F' q → F q ∨ w.heap.size ≤ q
  peek_none : ∀ {w : World} {F : Nat → Prop} {g : Nat} {fv : Value} {R : α → α → Bool} {n : Nat}, HP w F g fv R n [] →
    Calls Try.prog peek #[.pointer (some ⟨g, 0, none⟩)] w fun e w' => e = .returned (.tuple #[zero, .bool false]) ∧ ∃ F', HP w' F' g fv R n [] ∧ Apt F w w' ∧ ∀ q, F' q → F q ∨ w.heap.size ≤ q
  peek : ∀ {w : World} {F : Nat → Prop} {g : Nat} {fv : Value} {R : α → α → Bool} {n : Nat} {D : α → Prop} {l : List α} {i : Nat} {x : α}, HP w F g fv R n l → WeakO R D → Keep F (LessAt V fv R D) w → (∀ y ∈ l, D y) → IsFirst R l i x → l.length ≤ 1000000 →
    Calls Try.prog peek #[.pointer (some ⟨g, 0, none⟩)] w fun e w' => e = .returned (.tuple #[V x, .bool true]) ∧ ∃ F', HP w' F' g fv R n l ∧ Apt F w w' ∧ ∀ q, F' q → F q ∨ w.heap.size ≤ q
  len : ∀ {w : World} {F : Nat → Prop} {g : Nat} {fv : Value} {R : α → α → Bool} {n : Nat} {l : List α}, HP w F g fv R n l → l.length ≤ 1000000 →
    Calls Try.prog len #[.pointer (some ⟨g, 0, none⟩)] w fun e w' => e = .returned (.int .i64 (l.length : Int)) ∧ ∃ F', HP w' F' g fv R n l ∧ Apt F w w' ∧ ∀ q, F' q → F q ∨ w.heap.size ≤ q

/-- a heap of numbers -/
def vI (a : Int) : Value := .int .i64 a
def iC (i : Int) : List Value := [.int .i64 i]
abbrev HeapI := HeapK vI (.int .i64 0) 14 16 17 19 20

theorem upLess_any (a b : Int) (w : World) : Calls Try.prog 18 #[.int .i64 a, .int .i64 b] w fun e w' => e = .returned (.bool (decide (a < b))) ∧ w = w' := by
  go_enter Try.func18, Try.ntmps18
  go_wp2_with fail
  go_ret
  exact ⟨rfl, rfl⟩
theorem upFirst3 : IsFirst (fun a b : Int => decide (a < b)) [3, 1, 2] 1 1 := ⟨rfl, fun j y hj hlt => by
  obtain rfl : j = 0 := by omega
  simp at hj
  subst hj
  decide, fun j y hj => by
  rcases j with _ | _ | _ | j <;> simp at hj <;> subst hj <;> decide⟩
theorem upFirst2 : IsFirst (fun a b : Int => decide (a < b)) [3, 2] 1 2 := ⟨rfl, fun j y hj hlt => by
  obtain rfl : j = 0 := by omega
  simp at hj
  subst hj
  decide, fun j y hj => by
  rcases j with _ | _ | j <;> simp at hj <;> subst hj <;> decide⟩

set_option maxHeartbeats 1600000 in
theorem up9_any {HP : World → (Nat → Prop) → Nat → Value → (Int → Int → Bool) → Nat → List Int → Prop} (hK : HeapI HP) (w : World) : Calls Try.prog 5 #[] w fun e w' => e = .returned (.bool true) ∧ Below w.heap.size w w' := by
  have HK := Lib.hid hK
  have HR := Lib.hid (weakL (fun a => a) fun _ => True)
  have HL : Hid (∀ (F : Nat → Prop) (u : World), Keep F (LessAt vI (.func (.func 18) #[] #[]) (fun a b => decide (a < b)) fun _ => True) u) := Lib.hid fun F u w' _ => ⟨_, _, rfl, fun _ _ => rfl, fun a b _ _ => (upLess_any a b w').mono fun e u' h => ⟨h.1, h.2 ▸ Below.refl _ _⟩⟩
  clear hK
  go_enter Try.func5, Try.ntmps5
  go_wp2_with fail
  refine (HK.out.new_ok _ _ _ (fun a b => decide (a < b))).mono ?_
  rintro e w1 ⟨g, F1, rfl, hP1, hb1, hF1⟩
  have HB1 := Lib.hid hb1
  have HF1 := Lib.hid hF1
  have hC := HK.out.push (x := 3) hP1 HR.out (HL.out _ _) (by simp) trivial (by simp) (by omega)
  clear hP1 hb1 hF1
  go_wp2_with fail
  refine hC.mono ?_
  rintro e w2 ⟨rfl, F2, hP2, hA2, hN2⟩
  have HB2 := Lib.hid (below_apt HB1.out hA2 HF1.out HB1.out.size)
  have HF2 : Hid (∀ z, F2 z → w.heap.size ≤ z) := Lib.hid fun z hz => (hN2 z hz).elim (HF1.out z) fun h => Nat.le_trans HB1.out.size h
  have hC := HK.out.push (x := 1) hP2 HR.out (HL.out _ _) (by simp) trivial (by simp) (by omega)
  clear hP2 hA2 hN2 HB1 HF1
  go_wp2_with fail
  refine hC.mono ?_
  rintro e w3 ⟨rfl, F3, hP3, hA3, hN3⟩
  have HB3 := Lib.hid (below_apt HB2.out hA3 HF2.out HB2.out.size)
  have HF3 : Hid (∀ z, F3 z → w.heap.size ≤ z) := Lib.hid fun z hz => (hN3 z hz).elim (HF2.out z) fun h => Nat.le_trans HB2.out.size h
  have hC := HK.out.push (x := 2) hP3 HR.out (HL.out _ _) (by simp) trivial (by simp) (by omega)
  clear hP3 hA3 hN3 HB2 HF2
  go_wp2_with fail
  refine hC.mono ?_
  rintro e w4 ⟨rfl, F4, hP4, hA4, hN4⟩
  have HB4 := Lib.hid (below_apt HB3.out hA4 HF3.out HB3.out.size)
  have HF4 : Hid (∀ z, F4 z → w.heap.size ≤ z) := Lib.hid fun z hz => (hN4 z hz).elim (HF3.out z) fun h => Nat.le_trans HB3.out.size h
  have hC := HK.out.pop hP4 HR.out (HL.out _ _) (by simp) upFirst3 (by simp)
  clear hP4 hA4 hN4 HB3 HF3
  go_wp2_with fail
  refine hC.mono ?_
  rintro e w5 ⟨rfl, F5, hP5, hA5, hN5⟩
  have HB5 := Lib.hid (below_apt HB4.out hA5 HF4.out HB4.out.size)
  have HF5 : Hid (∀ z, F5 z → w.heap.size ≤ z) := Lib.hid fun z hz => (hN5 z hz).elim (HF4.out z) fun h => Nat.le_trans HB4.out.size h
  have hC := HK.out.peek hP5 HR.out (HL.out _ _) (by simp) upFirst2 (by simp)
  clear hP5 hA5 hN5 HB4 HF4
  rw [show vI 1 = .int .i64 1 from rfl]
  go_wp2_with fail
  refine hC.mono ?_
  rintro e w6 ⟨rfl, F6, hP6, hA6, hN6⟩
  have HB6 := Lib.hid (below_apt HB5.out hA6 HF5.out HB5.out.size)
  have HF6 : Hid (∀ z, F6 z → w.heap.size ≤ z) := Lib.hid fun z hz => (hN6 z hz).elim (HF5.out z) fun h => Nat.le_trans HB5.out.size h
  have hC := HK.out.len hP6 (by simp)
  clear hP6 hA6 hN6 HB5 HF5
  rw [show vI 2 = .int .i64 2 from rfl]
  go_wp2_with fail
  refine hC.mono ?_
  rintro e w7 ⟨rfl, F7, _, hA7, _⟩
  have HB7 := Lib.hid (below_apt HB6.out hA7 HF6.out HB6.out.size)
  go_wp2_with fail
  go_ret
  exact ⟨rfl, HB7.out⟩
end Go.Proofs.Ytpcaecnkdcobmaa
