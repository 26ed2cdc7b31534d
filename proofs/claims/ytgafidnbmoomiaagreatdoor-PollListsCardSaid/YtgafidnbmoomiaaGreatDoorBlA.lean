/-
  A FILTER OF TRACES, PLAINLY: its bits, an Id's places, what is added, its bytes, and what bytes are one's. No condition but what each theorem says.
  WHAT A FILTER OF THE PROGRAM IS TO KEEP ('BloomK', over the plain Bl); the head of layer 11's statements, walked over it. No condition but what each theorem says.
  THE PROGRAM's FILTER in memory ('PBt'), and CONTRACTS of what its calls call. Conditions: what each says.
  THE PROGRAM's FILTER: its places (a closure sees them), New, Add, Has. Conditions: what each says.
  THE PROGRAM's FILTER: CONTRACTS of New, Add, Has. Conditions: what each says.
  THE PROGRAM's FILTER: CONTRACTS of New, Add, Has. Conditions: what each says.
  THE PROGRAM's FILTER: CONTRACTS of New, Bytes. Conditions: what each says.
  THE PROGRAM's FILTER: the CONTRACT of Bytes; what three words of bytes are. Conditions: what each says.
  THE PROGRAM's FILTER: the CONTRACT of Get. Conditions: what each says.
-/
import Derived.Test.YtgafidnbmoomiaaGreatDoorCrcA
import Derived.Test.YtgafidnbmoomiaaGreatDoorMore
import Derived.Lib.Hide
import Derived.Test.YtgafidnbmoomiaaGreatDoorKee
import Derived.Test.YtgafidnbmoomiaaGreatDoorMix
import Derived.Outline
import Derived.Deep.QuietTactic
import Derived.BigQuiet
import Derived.WalkSpells
import Derived.Laws.ShiftsVarLaws
import Derived.Deep.DeepCutAuto
import Derived.Laws.BitsAllLaws
import Derived.StillTailTactics
namespace Go.Proofs.YtgafidnbmoomiaaGreatDoor
open Go.RowKit

def bitAt (l : List UInt8) (p : Nat) : Bool := decide ((l.getD (p / 8) 0).toNat / 2 ^ (p % 8) % 2 = 1)

def orBit (x : UInt8) (i : Nat) : UInt8 := UInt8.ofNat (x.toNat ||| 2 ^ i)

def setBit (l : List UInt8) (p : Nat) : List UInt8 := l.set (p / 8) (orBit (l.getD (p / 8) 0) (p % 8))

theorem setBit_length (l : List UInt8) (p : Nat) : (setBit l p).length = l.length := by simp [setBit]

structure Bl where
  sh : Nat
  bits : Nat
  hs : Nat
  set : List UInt8

def rightI (s b h : Int) : Bool := decide (1 ≤ s ∧ s ≤ 16 ∧ 8 ≤ b ∧ b ≤ 4096 ∧ b % 8 = 0 ∧ 1 ≤ h ∧ h ≤ 8)

theorem rightI_iff {s b h : Int} : rightI s b h = true ↔ (1 ≤ s ∧ s ≤ 16 ∧ 8 ≤ b ∧ b ≤ 4096 ∧ b % 8 = 0 ∧ 1 ≤ h ∧ h ≤ 8) := by simp [rightI]

structure Bl.Ok (b : Bl) : Prop where
  s1 : 1 ≤ b.sh
  s2 : b.sh ≤ 16
  b1 : 8 ≤ b.bits
  b2 : b.bits ≤ 4096
  b8 : b.bits % 8 = 0
  h1 : 1 ≤ b.hs
  h2 : b.hs ≤ 8
  len : b.set.length = b.sh * b.bits / 8

theorem Bl.Ok.right {b : Bl} (h : b.Ok) : rightI b.sh b.bits b.hs = true := rightI_iff.2 ⟨by have := h.s1; omega, by have := h.s2; omega, by have := h.b1; omega, by have := h.b2; omega, by have := h.b8; omega, by have := h.h1; omega, by have := h.h2; omega⟩

theorem Bl.Ok.most {b : Bl} (h : b.Ok) : b.sh * b.bits ≤ 65536 := by
  have := Nat.mul_le_mul h.s2 h.b2
  omega

def Bl.new (s b h : Nat) : Bl := ⟨s, b, h, List.replicate (s * b / 8) 0⟩

def sumA (id : Nat) : Nat := crcOf (bet id 8)

def sumB (id : Nat) : Nat := crcOf (bet id 8 ++ [1])

def Bl.spot (b : Bl) (id i : Nat) : Nat := (sumA id + i * sumB id) % b.bits

def Bl.place (b : Bl) (id i : Nat) : Nat := id % b.sh * b.bits + b.spot id i

def Bl.addK (b : Bl) (id : Nat) : Nat → List UInt8
  | 0 => b.set
  | k + 1 => setBit (b.addK id k) (b.place id k)

theorem Bl.addK_length (b : Bl) (id k : Nat) : (b.addK id k).length = b.set.length := by
  induction k with
  | zero => rfl
  | succ k ih => rw [Bl.addK, setBit_length, ih]

def Bl.add (b : Bl) (id : Nat) : Bl := { b with set := b.addK id b.hs }

theorem Bl.Ok.add {b : Bl} (h : b.Ok) (id : Nat) : (b.add id).Ok := ⟨h.s1, h.s2, h.b1, h.b2, h.b8, h.h1, h.h2, (b.addK_length id _).trans h.len⟩

def Bl.hasK (b : Bl) (id : Nat) : Nat → Bool
  | 0 => true
  | k + 1 => b.hasK id k && bitAt b.set (b.place id k)

def Bl.has (b : Bl) (id : Nat) : Bool := b.hasK id b.hs

def Bl.adds (b : Bl) (l : List Nat) : Bl := l.foldl Bl.add b

theorem Bl.Ok.adds {b : Bl} (h : b.Ok) (l : List Nat) : (b.adds l).Ok := by
  induction l generalizing b with
  | nil => exact h
  | cons x l ih => exact ih (h.add x)

def Bl.head (b : Bl) : List UInt8 := bet b.sh 1 ++ bet b.hs 1 ++ bet b.bits 2

def Bl.body (b : Bl) : List UInt8 := b.head ++ b.set

def Bl.bytes (b : Bl) : List UInt8 := sealedOf b.body

def getB (c : List UInt8) : Option Bl :=
  if c.length < 4 then none else
    let b : Bl := ⟨num (c.take 1), num ((c.drop 2).take 2), num ((c.drop 1).take 1), c.drop 4⟩
    if rightI b.sh b.bits b.hs && decide (c.length = 4 + b.sh * b.bits / 8) then some b else none

theorem Bl.Ok.get {b : Bl} (h : b.Ok) : getB b.body = some b := by
  have hs1 : num (bet b.sh 1) = b.sh := num_bet 1 _ (by have := h.s2; omega)
  have hs2 : num (bet b.hs 1) = b.hs := num_bet 1 _ (by have := h.h2; omega)
  have hs3 : num (bet b.bits 2) = b.bits := num_bet 2 _ (by have := h.b2; omega)
  obtain ⟨x, hx⟩ : ∃ x, bet b.sh 1 = [x] := List.length_eq_one_iff.1 (bet_length _ _)
  obtain ⟨y, hy⟩ : ∃ y, bet b.hs 1 = [y] := List.length_eq_one_iff.1 (bet_length _ _)
  obtain ⟨z0, z1, hz⟩ : ∃ z0 z1, bet b.bits 2 = [z0, z1] := by
    have hh := bet_length b.bits 2
    generalize bet b.bits 2 = m at hh
    match m, hh with
    | [a, c], _ => exact ⟨a, c, rfl⟩
  have e : b.body = x :: y :: z0 :: z1 :: b.set := by simp [Bl.body, Bl.head, hx, hy, hz]
  have hl := h.len
  have hr := h.right
  rw [hx] at hs1
  rw [hy] at hs2
  rw [hz] at hs3
  unfold getB
  rw [e]
  simp only [List.length_cons, List.take_succ_cons, List.take_zero, List.drop_succ_cons, List.drop_zero, hs1, hs2, hs3, hr, Bool.true_and]
  rw [if_neg (by omega), if_pos (by simp; omega)]

set_option maxRecDepth 100000

theorem Bs.lit1 (w : World) (z : UInt8) (u : Value) (e : TypeId) (h : u = .int .u8 (z.toNat : Int)) : Bs (w.alloc (.cells #[u] e)) (.slice (some ⟨w.heap.size, 0, none⟩) 1 1) [z] :=
  ⟨_, 1, rfl, Nat.le_refl _, by omega, Rd.one w u e h⟩

section
variable {PB : World → (Nat → Prop) → Nat → Bl → Prop}
end

section
variable {w w' : World} {F : Nat → Prop} {g q c : Nat} {b : Bl}
end


section
variable {w w' u : World} {F : Nat → Prop} {g q c : Nat} {b : Bl}
end

def Bl.upto (b : Bl) (id k : Nat) : Bl := { b with set := b.addK id k }



end Go.Proofs.YtgafidnbmoomiaaGreatDoor
