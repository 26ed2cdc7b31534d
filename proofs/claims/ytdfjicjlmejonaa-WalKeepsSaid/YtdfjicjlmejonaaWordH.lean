/-
  CONTRACTS of both Readers' Word and Text, at whatever stands next: one statement each.
-/
import Derived.Test.YtdfjicjlmejonaaWordG
namespace Go.Proofs.Ytdfjicjlmejonaa
open Go.RowKit

/-- what Word tells, and how far it has read then -/
def wOut (l : List UInt8) (p : Nat) (bad : Bool) (k : Int) : Nat := if wordOk l p bad k then num ((l.drop p).take k.toNat) else 0
def wNext (l : List UInt8) (p : Nat) (bad : Bool) (k : Int) : Nat := if wordOk l p bad k then p + k.toNat else p
/-- what Text tells, and how far it has read then -/
def tOut (l : List UInt8) (p : Nat) (bad : Bool) (most : Int) : List UInt8 := if textOk l p bad most then (l.drop (p + 2)).take (tsize l p) else []
def tNext (l : List UInt8) (p : Nat) (bad : Bool) (most : Int) : Nat := if textOk l p bad most then p + 2 + tsize l p else p

theorem word_all (g : Nat) (v : Value) (l : List UInt8) (p : Nat) (bad : Bool) (k : Int) (w : World) (h : WR w g v l p bad) :
    Calls Try.prog 43 #[.pointer (some ⟨g, 0, none⟩), .int .i64 k] w fun e w' => e = .returned (.int .u64 (wOut l p bad k)) ∧ WR w' g v l (wNext l p bad k) (!wordOk l p bad k) ∧ w.grownBy w' (some g) := by
  cases hk : wordOk l p bad k with
  | false =>
    have h1 : wOut l p bad k = 0 := by simp [wOut, hk]
    have h2 : wNext l p bad k = p := by simp [wNext, hk]
    rw [h1, h2]
    exact word_no g v l p bad k w h hk
  | true =>
    have h1 : wOut l p bad k = num ((l.drop p).take k.toNat) := by simp [wOut, hk]
    have h2 : wNext l p bad k = p + k.toNat := by simp [wNext, hk]
    rw [h1, h2]
    exact word_yes g v l p bad k w h hk

theorem Word_all (g : Nat) (v : Value) (l : List UInt8) (p : Nat) (bad : Bool) (k : Int) (w : World) (h : RR w g v l p bad) :
    Calls Try.prog 45 #[.pointer (some ⟨g, 0, none⟩), .int .i64 k] w fun e w' => e = .returned (.int .u64 (wOut l p bad k)) ∧ RR w' g v l (wNext l p bad k) (!wordOk l p bad k) ∧ w.grownBy w' (some g) := by
  cases hk : wordOk l p bad k with
  | false =>
    have h1 : wOut l p bad k = 0 := by simp [wOut, hk]
    have h2 : wNext l p bad k = p := by simp [wNext, hk]
    rw [h1, h2]
    cases bad with
    | false => exact Word_no g v l p k w h hk
    | true => exact (Word_bad g v l p k w h).mono fun e w' ⟨he, hw⟩ => by subst hw; exact ⟨he, h, World.grownBy.refl _ _⟩
  | true =>
    have h1 : wOut l p bad k = num ((l.drop p).take k.toNat) := by simp [wOut, hk]
    have h2 : wNext l p bad k = p + k.toNat := by simp [wNext, hk]
    rw [h1, h2]
    obtain rfl : bad = false := by cases bad <;> simp_all [wordOk]
    exact Word_yes g v l p k w h hk

theorem Text_all (g : Nat) (v : Value) (l : List UInt8) (p : Nat) (bad : Bool) (most : Int) (w : World) (h : RR w g v l p bad) :
    Calls Try.prog 27 #[.pointer (some ⟨g, 0, none⟩), .int .i64 most] w fun e w' =>
      ∃ v', e = .returned v' ∧ Own w' w.heap.size 5 v' (tOut l p bad most) ∧ RR w' g v l (tNext l p bad most) (!textOk l p bad most) ∧ w.grownBy w' (some g) := by
  cases hk : textOk l p bad most with
  | false =>
    have h1 : tOut l p bad most = [] := by simp [tOut, hk]
    have h2 : tNext l p bad most = p := by simp [tNext, hk]
    rw [h1, h2]
    cases bad with
    | false => exact (Text_no g v l p most w h hk).mono fun e w' ⟨he, h1, h2⟩ => ⟨_, he, Own.nil _ _ _, h1, h2⟩
    | true => exact (Text_bad g v l p most w h).mono fun e w' ⟨he, hw⟩ => by subst hw; exact ⟨_, he, Own.nil _ _ _, h, World.grownBy.refl _ _⟩
  | true =>
    have h1 : tOut l p bad most = (l.drop (p + 2)).take (tsize l p) := by simp [tOut, hk]
    have h2 : tNext l p bad most = p + 2 + tsize l p := by simp [tNext, hk]
    rw [h1, h2]
    obtain rfl : bad = false := by cases bad <;> simp_all [textOk]
    exact Text_yes g v l p most w h hk

end Go.Proofs.Ytdfjicjlmejonaa
