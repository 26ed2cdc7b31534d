/-
  CONTRACTS of both Readers' Word and Text, at whatever stands next: one statement each.
-/
import Derived.Test.YtkhdlcoappkgkaaDoorWordA
namespace Go.Proofs.YtkhdlcoappkgkaaDoor
open Go.RowKit

/-- what Word tells, and how far it has read then -/
def wOut (l : List UInt8) (p : Nat) (bad : Bool) (k : Int) : Nat := if wordOk l p bad k then num ((l.drop p).take k.toNat) else 0
def wNext (l : List UInt8) (p : Nat) (bad : Bool) (k : Int) : Nat := if wordOk l p bad k then p + k.toNat else p
/-- what Text tells, and how far it has read then -/
def tOut (l : List UInt8) (p : Nat) (bad : Bool) (most : Int) : List UInt8 := if textOk l p bad most then (l.drop (p + 2)).take (tsize l p) else []
def tNext (l : List UInt8) (p : Nat) (bad : Bool) (most : Int) : Nat := if textOk l p bad most then p + 2 + tsize l p else p

theorem word_all (g : Nat) (v : Value) (l : List UInt8) (p : Nat) (bad : Bool) (k : Int) (w : World) (h : WR w g v l p bad) :
    Calls Tryd.prog 33 #[.pointer (some ⟨g, 0, none⟩), .int .i64 k] w fun e w' => e = .returned (.int .u64 (wOut l p bad k)) ∧ WR w' g v l (wNext l p bad k) (!wordOk l p bad k) ∧ w.grownBy w' (some g) := by
  cases hk : wordOk l p bad k with
  | false =>
    have h1 : wOut l p bad k = 0 := by simp [wOut, hk]
    have h2 : wNext l p bad k = p := by simp [wNext, hk]
    rw [h1, h2]
    exact word_no g v l p bad k w h hk
  | true =>
    have h1 : wOut l p bad k = num ((l.drop p).take k.toNat) := by simp [wOut, hk]
    have h2 : wNext l p bad k = p + k.toNat := by simp [wNext, hk]
    rw [h1, h2]
    exact word_yes g v l p bad k w h hk

theorem Word_all (g : Nat) (v : Value) (l : List UInt8) (p : Nat) (bad : Bool) (k : Int) (w : World) (h : RR w g v l p bad) :
    Calls Tryd.prog 53 #[.pointer (some ⟨g, 0, none⟩), .int .i64 k] w fun e w' => e = .returned (.int .u64 (wOut l p bad k)) ∧ RR w' g v l (wNext l p bad k) (!wordOk l p bad k) ∧ w.grownBy w' (some g) := by
  cases hk : wordOk l p bad k with
  | false =>
    have h1 : wOut l p bad k = 0 := by simp [wOut, hk]
    have h2 : wNext l p bad k = p := by simp [wNext, hk]
    rw [h1, h2]
    cases bad with
    | false => exact Word_no g v l p k w h hk
    | true => exact (Word_bad g v l p k w h).mono fun e w' ⟨he, hw⟩ => by subst hw; exact ⟨he, h, World.grownBy.refl _ _⟩
  | true =>
    have h1 : wOut l p bad k = num ((l.drop p).take k.toNat) := by simp [wOut, hk]
    have h2 : wNext l p bad k = p + k.toNat := by simp [wNext, hk]
    rw [h1, h2]
    obtain rfl : bad = false := by cases bad <;> simp_all [wordOk]
    exact Word_yes g v l p k w h hk

theorem bad_all (g : Nat) (v : Value) (l : List UInt8) (p : Nat) (bad : Bool) (w : World) (h : WR w g v l p bad) :
    Calls Tryd.prog 52 #[.pointer (some ⟨g, 0, none⟩)] w fun e w' => e = .returned (.int .i64 (badAt bad p)) ∧ w = w' := bad_any g v l p bad w h

/-- the document's reader over these bytes, at the first -/
theorem RR.new {w : World} {A : Option Addr} {c : Nat} {b : List UInt8} (h : Bs w (.slice A b.length c) b) (hbl : b.length ≤ 140737488355328) :
    RR (w.alloc (.cells #[.slice A b.length c, .int .i64 0, .int .i64 (-1)] 90)) w.heap.size (.slice A b.length c) b 0 false :=
  ⟨Blk.new _ _ _, h.alloc _, Nat.zero_le _, fun hb e => by
    obtain ⟨k, hk, hk'⟩ := h.block hb
    rw [e] at hk
    injection hk
    omega, hbl⟩

end Go.Proofs.YtkhdlcoappkgkaaDoor
