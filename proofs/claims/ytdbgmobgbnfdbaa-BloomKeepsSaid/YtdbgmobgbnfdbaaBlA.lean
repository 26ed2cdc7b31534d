/-
  A FILTER OF TRACES, PLAINLY: its bits, an Id's places, what is added, its bytes, and what bytes are one's. No condition but what each theorem says.
-/
import Derived.Test.YtdbgmobgbnfdbaaCrcE
import Derived.Test.YtdbgmobgbnfdbaaMore
import Derived.Lib.Hide
namespace Go.Proofs.Ytdbgmobgbnfdbaa
open Go.RowKit

/-- a bit of bytes, eight a byte, the first one the lowest -/
def bitAt (l : List UInt8) (p : Nat) : Bool := decide ((l.getD (p / 8) 0).toNat / 2 ^ (p % 8) % 2 = 1)
theorem bitAt_test (l : List UInt8) (p : Nat) : bitAt l p = (l.getD (p / 8) 0).toNat.testBit (p % 8) := by
  rw [Nat.testBit_eq_decide_div_mod_eq]
  rfl
def orBit (x : UInt8) (i : Nat) : UInt8 := UInt8.ofNat (x.toNat ||| 2 ^ i)
theorem orBit_toNat (x : UInt8) (i : Nat) (hi : i < 8) : (orBit x i).toNat = x.toNat ||| 2 ^ i := by
  have h1 : x.toNat < 2 ^ 8 := x.toNat_lt
  have h2 : 2 ^ i < 2 ^ 8 := Nat.pow_lt_pow_right (by omega) hi
  have h3 := Nat.or_lt_two_pow h1 h2
  unfold orBit
  rw [UInt8.toNat_ofNat']
  exact Nat.mod_eq_of_lt h3
/-- one bit more -/
def setBit (l : List UInt8) (p : Nat) : List UInt8 := l.set (p / 8) (orBit (l.getD (p / 8) 0) (p % 8))
theorem setBit_length (l : List UInt8) (p : Nat) : (setBit l p).length = l.length := by simp [setBit]
theorem bitAt_setBit (l : List UInt8) (p q : Nat) (hp : p / 8 < l.length) : bitAt (setBit l p) q = (decide (q = p) || bitAt l q) := by
  rw [bitAt_test, bitAt_test]
  unfold setBit
  by_cases he : q / 8 = p / 8
  · rw [he, List.getD_eq_getElem?_getD, List.getElem?_set_self hp, Option.getD_some, orBit_toNat _ _ (Nat.mod_lt _ (by omega)), Nat.testBit_or, Nat.testBit_two_pow]
    by_cases hm : q % 8 = p % 8
    · have : q = p := by omega
      subst this
      simp
    · have h1 : ¬ q = p := fun e => hm (by rw [e])
      have h2 : ¬ p % 8 = q % 8 := fun e => hm e.symm
      simp [h1, h2]
  · have h1 : ¬ q = p := fun e => he (by rw [e])
    rw [List.getD_eq_getElem?_getD, List.getElem?_set_ne (fun e => he e.symm), ← List.getD_eq_getElem?_getD]
    simp [h1]

/-- a filter: shards, the bits of each, hashes, and all bits, eight a byte -/
structure Bl where
  sh : Nat
  bits : Nat
  hs : Nat
  set : List UInt8

def rightI (s b h : Int) : Bool := decide (1 ≤ s ∧ s ≤ 16 ∧ 8 ≤ b ∧ b ≤ 4096 ∧ b % 8 = 0 ∧ 1 ≤ h ∧ h ≤ 8)
theorem rightI_iff {s b h : Int} : rightI s b h = true ↔ (1 ≤ s ∧ s ≤ 16 ∧ 8 ≤ b ∧ b ≤ 4096 ∧ b % 8 = 0 ∧ 1 ≤ h ∧ h ≤ 8) := by simp [rightI]
theorem rightI_not {s b h : Int} (e : rightI s b h = false) : ¬ (1 ≤ s ∧ s ≤ 16 ∧ 8 ≤ b ∧ b ≤ 4096 ∧ b % 8 = 0 ∧ 1 ≤ h ∧ h ≤ 8) := fun h' => by
  rw [rightI_iff.2 h'] at e
  cases e

structure Bl.Ok (b : Bl) : Prop where
  s1 : 1 ≤ b.sh
  s2 : b.sh ≤ 16
  b1 : 8 ≤ b.bits
  b2 : b.bits ≤ 4096
  b8 : b.bits % 8 = 0
  h1 : 1 ≤ b.hs
  h2 : b.hs ≤ 8
  len : b.set.length = b.sh * b.bits / 8
theorem Bl.Ok.right {b : Bl} (h : b.Ok) : rightI b.sh b.bits b.hs = true := rightI_iff.2 ⟨by have := h.s1; omega, by have := h.s2; omega, by have := h.b1; omega, by have := h.b2; omega, by have := h.b8; omega, by have := h.h1; omega, by have := h.h2; omega⟩
theorem mul8 {n m : Nat} (h : m % 8 = 0) : n * m % 8 = 0 := by rw [Nat.mul_mod, h]; simp
theorem Bl.Ok.eight {b : Bl} (h : b.Ok) : 8 * b.set.length = b.sh * b.bits := by
  have h1 := h.len
  have h2 : b.sh * b.bits % 8 = 0 := mul8 h.b8
  omega
theorem Bl.Ok.most {b : Bl} (h : b.Ok) : b.sh * b.bits ≤ 65536 := by
  have := Nat.mul_le_mul h.s2 h.b2
  omega
theorem Bl.Ok.len_le {b : Bl} (h : b.Ok) : b.set.length ≤ 8192 := by
  have h1 := h.eight
  have h2 := h.most
  omega

/-- a new one -/
def Bl.new (s b h : Nat) : Bl := ⟨s, b, h, List.replicate (s * b / 8) 0⟩
theorem Bl.new_ok {s b h : Nat} (hr : rightI s b h = true) : (Bl.new s b h).Ok := by
  have := rightI_iff.1 hr
  exact ⟨by show 1 ≤ s; omega, by show s ≤ 16; omega, by show 8 ≤ b; omega, by show b ≤ 4096; omega, by show b % 8 = 0; omega, by show 1 ≤ h; omega, by show h ≤ 8; omega, by simp [Bl.new]⟩
theorem bitAt_zeros (n p : Nat) : bitAt (List.replicate n 0) p = false := by
  have : (List.replicate n (0 : UInt8)).getD (p / 8) 0 = 0 := by
    rw [List.getD_eq_getElem?_getD, List.getElem?_replicate]
    split <;> rfl
  unfold bitAt
  rw [this]
  simp

/-- an Id's two sums -/
def sumA (id : Nat) : Nat := crcOf (bet id 8)
def sumB (id : Nat) : Nat := crcOf (bet id 8 ++ [1])
theorem sumA_lt (id : Nat) : sumA id < 4294967296 := crcOf_lt _
theorem sumB_lt (id : Nat) : sumB id < 4294967296 := crcOf_lt _
/-- its i-th place in its shard; and that place in all bits -/
def Bl.spot (b : Bl) (id i : Nat) : Nat := (sumA id + i * sumB id) % b.bits
def Bl.place (b : Bl) (id i : Nat) : Nat := id % b.sh * b.bits + b.spot id i
theorem Bl.Ok.spot_lt {b : Bl} (h : b.Ok) (id i : Nat) : b.spot id i < b.bits := Nat.mod_lt _ (by have := h.b1; omega)
theorem shard_lt {s b i p : Nat} (hi : i < s) (hp : p < b) : i * b + p < s * b := by
  have := Nat.mul_le_mul_right b (show i + 1 ≤ s by omega)
  rw [Nat.succ_mul] at this
  omega
theorem Bl.Ok.place_lt {b : Bl} (h : b.Ok) (id i : Nat) : b.place id i < b.sh * b.bits :=
  shard_lt (Nat.mod_lt _ (by have := h.s1; omega)) (h.spot_lt id i)
theorem Bl.Ok.place_byte {b : Bl} (h : b.Ok) (id i : Nat) : b.place id i / 8 < b.set.length := by
  have h1 := h.place_lt id i
  have h2 := h.eight
  omega

/-- with the first k places of an Id -/
def Bl.addK (b : Bl) (id : Nat) : Nat → List UInt8
  | 0 => b.set
  | k + 1 => setBit (b.addK id k) (b.place id k)
theorem Bl.addK_length (b : Bl) (id k : Nat) : (b.addK id k).length = b.set.length := by
  induction k with
  | zero => rfl
  | succ k ih => rw [Bl.addK, setBit_length, ih]
def Bl.add (b : Bl) (id : Nat) : Bl := { b with set := b.addK id b.hs }
theorem Bl.Ok.add {b : Bl} (h : b.Ok) (id : Nat) : (b.add id).Ok := ⟨h.s1, h.s2, h.b1, h.b2, h.b8, h.h1, h.h2, (b.addK_length id _).trans h.len⟩
theorem Bl.Ok.bit_addK {b : Bl} (h : b.Ok) (id k q : Nat) : bitAt (b.addK id k) q = ((List.range k).any (fun i => decide (q = b.place id i)) || bitAt b.set q) := by
  induction k with
  | zero => simp [Bl.addK]
  | succ k ih =>
    rw [Bl.addK, bitAt_setBit _ _ _ (by rw [Bl.addK_length]; exact h.place_byte id k), ih, List.range_succ, List.any_append, List.any_cons, List.any_nil]
    cases decide (q = b.place id k) <;> simp
/-- has it the first k places of an Id? -/
def Bl.hasK (b : Bl) (id : Nat) : Nat → Bool
  | 0 => true
  | k + 1 => b.hasK id k && bitAt b.set (b.place id k)
def Bl.has (b : Bl) (id : Nat) : Bool := b.hasK id b.hs
theorem Bl.hasK_iff (b : Bl) (id k : Nat) : b.hasK id k = true ↔ ∀ i, i < k → bitAt b.set (b.place id i) = true := by
  induction k with
  | zero => simp [Bl.hasK]
  | succ k ih =>
    rw [Bl.hasK, Bool.and_eq_true, ih]
    constructor
    · rintro ⟨h1, h2⟩ i hi
      rcases Nat.lt_or_ge i k with h | h
      · exact h1 i h
      · rw [show i = k by omega]
        exact h2
    · exact fun h => ⟨fun i hi => h i (by omega), h k (by omega)⟩
theorem Bl.Ok.has_add {b : Bl} (h : b.Ok) (id : Nat) : (b.add id).has id = true :=
  (Bl.hasK_iff _ _ _).2 fun i (hi : i < b.hs) => by
    show bitAt (b.addK id b.hs) (b.place id i) = true
    rw [h.bit_addK, Bool.or_eq_true]
    exact .inl (List.any_eq_true.2 ⟨i, List.mem_range.2 hi, by simp⟩)
theorem Bl.Ok.has_keep {b : Bl} (h : b.Ok) (x id : Nat) (hx : b.has x = true) : (b.add id).has x = true :=
  (Bl.hasK_iff _ _ _).2 fun i (hi : i < b.hs) => by
    show bitAt (b.addK id b.hs) (b.place x i) = true
    rw [h.bit_addK, (Bl.hasK_iff _ _ _).1 hx i hi, Bool.or_true]
theorem Bl.new_has (s b h id : Nat) (hh : 1 ≤ h) : (Bl.new s b h).has id = false := by
  rw [Bool.eq_false_iff]
  intro e
  have h1 : bitAt (List.replicate (s * b / 8) 0) _ = true := (Bl.hasK_iff _ _ _).1 e 0 hh
  rw [bitAt_zeros] at h1
  cases h1
/-- with a row of Ids -/
def Bl.adds (b : Bl) (l : List Nat) : Bl := l.foldl Bl.add b
theorem Bl.adds_snoc (b : Bl) (l : List Nat) (x : Nat) : b.adds (l ++ [x]) = (b.adds l).add x := by simp [Bl.adds]
theorem Bl.Ok.adds {b : Bl} (h : b.Ok) (l : List Nat) : (b.adds l).Ok := by
  induction l generalizing b with
  | nil => exact h
  | cons x l ih => exact ih (h.add x)
theorem Bl.Ok.adds_keep {b : Bl} (h : b.Ok) (l : List Nat) (x : Nat) (hx : b.has x = true) : (b.adds l).has x = true := by
  induction l generalizing b with
  | nil => exact hx
  | cons y l ih => exact ih (h.add y) (h.has_keep x y hx)
theorem Bl.Ok.adds_has {b : Bl} (h : b.Ok) (l : List Nat) (x : Nat) (hx : x ∈ l) : (b.adds l).has x = true := by
  induction l generalizing b with
  | nil => cases hx
  | cons y l ih =>
    rcases List.mem_cons.1 hx with rfl | hx
    · exact (h.add x).adds_keep l x (h.has_add x)
    · exact ih (h.add y) hx

/-- its bytes -/
def Bl.head (b : Bl) : List UInt8 := bet b.sh 1 ++ bet b.hs 1 ++ bet b.bits 2
def Bl.body (b : Bl) : List UInt8 := b.head ++ b.set
def Bl.bytes (b : Bl) : List UInt8 := sealedOf b.body
theorem Bl.head_length (b : Bl) : b.head.length = 4 := by simp [Bl.head, bet_length]
theorem Bl.body_length (b : Bl) : b.body.length = b.set.length + 4 := by rw [Bl.body, List.length_append, Bl.head_length]; omega

/-- what bytes are the filter of -/
def getB (c : List UInt8) : Option Bl :=
  if c.length < 4 then none else
    let b : Bl := ⟨num (c.take 1), num ((c.drop 2).take 2), num ((c.drop 1).take 1), c.drop 4⟩
    if rightI b.sh b.bits b.hs && decide (c.length = 4 + b.sh * b.bits / 8) then some b else none
theorem getB_some {c : List UInt8} {b : Bl} (h : getB c = some b) : 4 ≤ c.length ∧ b = ⟨num (c.take 1), num ((c.drop 2).take 2), num ((c.drop 1).take 1), c.drop 4⟩ ∧ b.Ok ∧ b.body = c := by
  unfold getB at h
  split at h
  · cases h
  rename_i hc
  simp only at h
  split at h
  · rename_i hr
    injection h with h
    rw [Bool.and_eq_true, decide_eq_true_eq] at hr
    obtain ⟨h1, h2⟩ := hr
    have h3 := rightI_iff.1 h1
    subst h
    refine ⟨by omega, rfl, ⟨?_, ?_, ?_, ?_, ?_, ?_, ?_, ?_⟩, ?_⟩
    · show 1 ≤ num (c.take 1); omega
    · show num (c.take 1) ≤ 16; omega
    · show 8 ≤ num ((c.drop 2).take 2); omega
    · show num ((c.drop 2).take 2) ≤ 4096; omega
    · show num ((c.drop 2).take 2) % 8 = 0; omega
    · show 1 ≤ num ((c.drop 1).take 1); omega
    · show num ((c.drop 1).take 1) ≤ 8; omega
    · show (c.drop 4).length = num (c.take 1) * num ((c.drop 2).take 2) / 8
      rw [List.length_drop]
      have h2' : c.length = 4 + num (c.take 1) * num ((c.drop 2).take 2) / 8 := h2
      omega
    · show bet (num (c.take 1)) 1 ++ bet (num ((c.drop 1).take 1)) 1 ++ bet (num ((c.drop 2).take 2)) 2 ++ c.drop 4 = c
      rw [bet_num_at 1 _ (by simp; omega), bet_num_at 1 _ (by simp; omega), bet_num_at 2 _ (by simp; omega)]
      match c, hc with
      | x0 :: x1 :: x2 :: x3 :: r, _ => rfl
      | [], h => simp at h
      | [_], h => simp at h
      | [_, _], h => simp at h
      | [_, _, _], h => simp at h
  · cases h
theorem Bl.Ok.get {b : Bl} (h : b.Ok) : getB b.body = some b := by
  have hs1 : num (bet b.sh 1) = b.sh := num_bet 1 _ (by have := h.s2; omega)
  have hs2 : num (bet b.hs 1) = b.hs := num_bet 1 _ (by have := h.h2; omega)
  have hs3 : num (bet b.bits 2) = b.bits := num_bet 2 _ (by have := h.b2; omega)
  obtain ⟨x, hx⟩ : ∃ x, bet b.sh 1 = [x] := List.length_eq_one_iff.1 (bet_length _ _)
  obtain ⟨y, hy⟩ : ∃ y, bet b.hs 1 = [y] := List.length_eq_one_iff.1 (bet_length _ _)
  obtain ⟨z0, z1, hz⟩ : ∃ z0 z1, bet b.bits 2 = [z0, z1] := by
    have hh := bet_length b.bits 2
    generalize bet b.bits 2 = m at hh
    match m, hh with
    | [a, c], _ => exact ⟨a, c, rfl⟩
  have e : b.body = x :: y :: z0 :: z1 :: b.set := by simp [Bl.body, Bl.head, hx, hy, hz]
  have hl := h.len
  have hr := h.right
  rw [hx] at hs1
  rw [hy] at hs2
  rw [hz] at hs3
  unfold getB
  rw [e]
  simp only [List.length_cons, List.take_succ_cons, List.take_zero, List.drop_succ_cons, List.drop_zero, hs1, hs2, hs3, hr, Bool.true_and]
  rw [if_neg (by omega), if_pos (by simp; omega)]

/-- what Get tells: an error's number, or a filter -/
def getX (x : List UInt8) : Except Nat Bl :=
  if x.length < 4 then .error 2 else if tailOf x ≠ crcOf (bodyOf x) then .error 7 else
    match getB (bodyOf x) with
    | none => .error 2
    | some b => .ok b
theorem getX_short {x : List UInt8} (h : x.length < 4) : getX x = .error 2 := by unfold getX; rw [if_pos h]
theorem getX_sum {x : List UInt8} (h : 4 ≤ x.length) (hs : tailOf x ≠ crcOf (bodyOf x)) : getX x = .error 7 := by unfold getX; rw [if_neg (by omega), if_pos hs]
theorem getX_form {x : List UInt8} (h : 4 ≤ x.length) (hs : tailOf x = crcOf (bodyOf x)) (hg : getB (bodyOf x) = none) : getX x = .error 2 := by
  unfold getX
  rw [if_neg (by omega), if_neg (fun h => h hs), hg]
theorem getX_ok {x : List UInt8} {b : Bl} (h : 4 ≤ x.length) (hs : tailOf x = crcOf (bodyOf x)) (hg : getB (bodyOf x) = some b) : getX x = .ok b := by
  unfold getX
  rw [if_neg (by omega), if_neg (fun h => h hs), hg]
theorem getX_some {x : List UInt8} {b : Bl} (h : getX x = .ok b) : b.Ok ∧ b.bytes = x := by
  unfold getX at h
  split at h
  · cases h
  rename_i h4
  split at h
  · cases h
  rename_i hs
  split at h
  · cases h
  rename_i b' hg
  injection h with h
  subst h
  obtain ⟨_, _, h1, h2⟩ := getB_some hg
  refine ⟨h1, ?_⟩
  rw [Bl.bytes, h2]
  exact (sealed_iff x (by omega)).2 (Classical.not_not.1 hs)
theorem Bl.Ok.getX {b : Bl} (h : b.Ok) : getX b.bytes = .ok b := by
  have hl := sealedOf_length b.body
  refine getX_ok (by rw [Bl.bytes, hl]; omega) (tail_sealed b.body) ?_
  rw [Bl.bytes, body_sealed]
  exact h.get
end Go.Proofs.Ytdbgmobgbnfdbaa
