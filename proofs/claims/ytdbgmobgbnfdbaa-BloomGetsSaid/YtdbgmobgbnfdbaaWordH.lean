/-
  CONTRACTS of both Readers' Word and Text, at whatever stands next: one statement each.
-/
import Derived.Test.YtdbgmobgbnfdbaaWordA
namespace Go.Proofs.Ytdbgmobgbnfdbaa
open Go.RowKit

/-- what Word tells, and how far it has read then -/
def wOut (l : List UInt8) (p : Nat) (bad : Bool) (k : Int) : Nat := if wordOk l p bad k then num ((l.drop p).take k.toNat) else 0
def wNext (l : List UInt8) (p : Nat) (bad : Bool) (k : Int) : Nat := if wordOk l p bad k then p + k.toNat else p
/-- what Text tells, and how far it has read then -/
def tOut (l : List UInt8) (p : Nat) (bad : Bool) (most : Int) : List UInt8 := if textOk l p bad most then (l.drop (p + 2)).take (tsize l p) else []
def tNext (l : List UInt8) (p : Nat) (bad : Bool) (most : Int) : Nat := if textOk l p bad most then p + 2 + tsize l p else p

theorem word_all (g : Nat) (v : Value) (l : List UInt8) (p : Nat) (bad : Bool) (k : Int) (w : World) (h : WR w g v l p bad) :
    Calls Try.prog 30 #[.pointer (some ⟨g, 0, none⟩), .int .i64 k] w fun e w' => e = .returned (.int .u64 (wOut l p bad k)) ∧ WR w' g v l (wNext l p bad k) (!wordOk l p bad k) ∧ w.grownBy w' (some g) := by
  cases hk : wordOk l p bad k with
  | false =>
    have h1 : wOut l p bad k = 0 := by simp [wOut, hk]
    have h2 : wNext l p bad k = p := by simp [wNext, hk]
    rw [h1, h2]
    exact word_no g v l p bad k w h hk
  | true =>
    have h1 : wOut l p bad k = num ((l.drop p).take k.toNat) := by simp [wOut, hk]
    have h2 : wNext l p bad k = p + k.toNat := by simp [wNext, hk]
    rw [h1, h2]
    exact word_yes g v l p bad k w h hk

end Go.Proofs.Ytdbgmobgbnfdbaa
