/-
  A FILTER OF TRACES, PLAINLY: its bits, an Id's places, what is added, its bytes, and what bytes are one's. No condition but what each theorem says.
  WHAT A FILTER OF THE PROGRAM IS TO KEEP ('BloomK', over the plain Bl); the head of layer 11's statements, walked over it. No condition but what each theorem says.
  THE PROGRAM's FILTER in memory ('PBt'), and CONTRACTS of what its calls call. Conditions: what each says.
  THE PROGRAM's FILTER: its places (a closure sees them), New, Add, Has. Conditions: what each says.
  THE PROGRAM's FILTER: CONTRACTS of New, Add, Has. Conditions: what each says.
  THE PROGRAM's FILTER: CONTRACTS of New, Add, Has. Conditions: what each says.
  THE PROGRAM's FILTER: CONTRACTS of New, Bytes. Conditions: what each says.
  THE PROGRAM's FILTER: the CONTRACT of Bytes; what three words of bytes are. Conditions: what each says.
  THE PROGRAM's FILTER: the CONTRACT of Get. Conditions: what each says.
-/
import Derived.Test.YtfaefacefdkjdaaGreatDoorCrcA
import Derived.Test.YtfaefacefdkjdaaGreatDoorMore
import Derived.Lib.Hide
import Derived.Test.YtfaefacefdkjdaaGreatDoorKee
import Derived.Test.YtfaefacefdkjdaaGreatDoorMix
import Derived.Outline
import Derived.Deep.QuietTactic
import Derived.BigQuiet
import Derived.WalkSpells
import Derived.Laws.ShiftsVarLaws
import Derived.Deep.DeepCutAuto
import Derived.Laws.BitsAllLaws
import Derived.StillTailTactics
namespace Go.Proofs.YtfaefacefdkjdaaGreatDoor
open Go.RowKit

def bitAt (l : List UInt8) (p : Nat) : Bool := decide ((l.getD (p / 8) 0).toNat / 2 ^ (p % 8) % 2 = 1)
theorem bitAt_test (l : List UInt8) (p : Nat) : bitAt l p = (l.getD (p / 8) 0).toNat.testBit (p % 8) := by
  rw [Nat.testBit_eq_decide_div_mod_eq]
  rfl
def orBit (x : UInt8) (i : Nat) : UInt8 := UInt8.ofNat (x.toNat ||| 2 ^ i)
theorem orBit_toNat (x : UInt8) (i : Nat) (hi : i < 8) : (orBit x i).toNat = x.toNat ||| 2 ^ i := by
  have h1 : x.toNat < 2 ^ 8 := x.toNat_lt
  have h2 : 2 ^ i < 2 ^ 8 := Nat.pow_lt_pow_right (by omega) hi
  have h3 := Nat.or_lt_two_pow h1 h2
  unfold orBit
  rw [UInt8.toNat_ofNat']
  exact Nat.mod_eq_of_lt h3
def setBit (l : List UInt8) (p : Nat) : List UInt8 := l.set (p / 8) (orBit (l.getD (p / 8) 0) (p % 8))
theorem setBit_length (l : List UInt8) (p : Nat) : (setBit l p).length = l.length := by simp [setBit]
theorem bitAt_setBit (l : List UInt8) (p q : Nat) (hp : p / 8 < l.length) : bitAt (setBit l p) q = (decide (q = p) || bitAt l q) := by
  rw [bitAt_test, bitAt_test]
  unfold setBit
  by_cases he : q / 8 = p / 8
  · rw [he, List.getD_eq_getElem?_getD, List.getElem?_set_self hp, Option.getD_some, orBit_toNat _ _ (Nat.mod_lt _ (by omega)), Nat.testBit_or, Nat.testBit_two_pow]
    by_cases hm : q % 8 = p % 8
    · have : q = p := by omega
      subst this
      simp
    · have h1 : ¬ q = p := fun e => hm (by rw [e])
      have h2 : ¬ p % 8 = q % 8 := fun e => hm e.symm
      simp [h1, h2]
  · have h1 : ¬ q = p := fun e => he (by rw [e])
    rw [List.getD_eq_getElem?_getD, List.getElem?_set_ne (fun e => he e.symm), ← List.getD_eq_getElem?_getD]
    simp [h1]

structure Bl where
  sh : Nat
  bits : Nat
  hs : Nat
  set : List UInt8

def rightI (s b h : Int) : Bool := decide (1 ≤ s ∧ s ≤ 16 ∧ 8 ≤ b ∧ b ≤ 4096 ∧ b % 8 = 0 ∧ 1 ≤ h ∧ h ≤ 8)
theorem rightI_iff {s b h : Int} : rightI s b h = true ↔ (1 ≤ s ∧ s ≤ 16 ∧ 8 ≤ b ∧ b ≤ 4096 ∧ b % 8 = 0 ∧ 1 ≤ h ∧ h ≤ 8) := by simp [rightI]
theorem rightI_not {s b h : Int} (e : rightI s b h = false) : ¬ (1 ≤ s ∧ s ≤ 16 ∧ 8 ≤ b ∧ b ≤ 4096 ∧ b % 8 = 0 ∧ 1 ≤ h ∧ h ≤ 8) := fun h' => by
  rw [rightI_iff.2 h'] at e
  cases e

structure Bl.Ok (b : Bl) : Prop where
  s1 : 1 ≤ b.sh
  s2 : b.sh ≤ 16
  b1 : 8 ≤ b.bits
  b2 : b.bits ≤ 4096
  b8 : b.bits % 8 = 0
  h1 : 1 ≤ b.hs
  h2 : b.hs ≤ 8
  len : b.set.length = b.sh * b.bits / 8
theorem Bl.Ok.right {b : Bl} (h : b.Ok) : rightI b.sh b.bits b.hs = true := rightI_iff.2 ⟨by have := h.s1; omega, by have := h.s2; omega, by have := h.b1; omega, by have := h.b2; omega, by have := h.b8; omega, by have := h.h1; omega, by have := h.h2; omega⟩
theorem mul8 {n m : Nat} (h : m % 8 = 0) : n * m % 8 = 0 := by rw [Nat.mul_mod, h]; simp
theorem Bl.Ok.eight {b : Bl} (h : b.Ok) : 8 * b.set.length = b.sh * b.bits := by
  have h1 := h.len
  have h2 : b.sh * b.bits % 8 = 0 := mul8 h.b8
  omega
theorem Bl.Ok.most {b : Bl} (h : b.Ok) : b.sh * b.bits ≤ 65536 := by
  have := Nat.mul_le_mul h.s2 h.b2
  omega
theorem Bl.Ok.len_le {b : Bl} (h : b.Ok) : b.set.length ≤ 8192 := by
  have h1 := h.eight
  have h2 := h.most
  omega

def Bl.new (s b h : Nat) : Bl := ⟨s, b, h, List.replicate (s * b / 8) 0⟩
theorem Bl.new_ok {s b h : Nat} (hr : rightI s b h = true) : (Bl.new s b h).Ok := by
  have := rightI_iff.1 hr
  exact ⟨by show 1 ≤ s; omega, by show s ≤ 16; omega, by show 8 ≤ b; omega, by show b ≤ 4096; omega, by show b % 8 = 0; omega, by show 1 ≤ h; omega, by show h ≤ 8; omega, by simp [Bl.new]⟩
def sumA (id : Nat) : Nat := crcOf (bet id 8)
def sumB (id : Nat) : Nat := crcOf (bet id 8 ++ [1])
theorem sumA_lt (id : Nat) : sumA id < 4294967296 := crcOf_lt _
theorem sumB_lt (id : Nat) : sumB id < 4294967296 := crcOf_lt _
def Bl.spot (b : Bl) (id i : Nat) : Nat := (sumA id + i * sumB id) % b.bits
def Bl.place (b : Bl) (id i : Nat) : Nat := id % b.sh * b.bits + b.spot id i
theorem Bl.Ok.spot_lt {b : Bl} (h : b.Ok) (id i : Nat) : b.spot id i < b.bits := Nat.mod_lt _ (by have := h.b1; omega)
theorem shard_lt {s b i p : Nat} (hi : i < s) (hp : p < b) : i * b + p < s * b := by
  have := Nat.mul_le_mul_right b (show i + 1 ≤ s by omega)
  rw [Nat.succ_mul] at this
  omega
theorem Bl.Ok.place_lt {b : Bl} (h : b.Ok) (id i : Nat) : b.place id i < b.sh * b.bits :=
  shard_lt (Nat.mod_lt _ (by have := h.s1; omega)) (h.spot_lt id i)
theorem Bl.Ok.place_byte {b : Bl} (h : b.Ok) (id i : Nat) : b.place id i / 8 < b.set.length := by
  have h1 := h.place_lt id i
  have h2 := h.eight
  omega

def Bl.addK (b : Bl) (id : Nat) : Nat → List UInt8
  | 0 => b.set
  | k + 1 => setBit (b.addK id k) (b.place id k)
theorem Bl.addK_length (b : Bl) (id k : Nat) : (b.addK id k).length = b.set.length := by
  induction k with
  | zero => rfl
  | succ k ih => rw [Bl.addK, setBit_length, ih]
def Bl.add (b : Bl) (id : Nat) : Bl := { b with set := b.addK id b.hs }
theorem Bl.Ok.add {b : Bl} (h : b.Ok) (id : Nat) : (b.add id).Ok := ⟨h.s1, h.s2, h.b1, h.b2, h.b8, h.h1, h.h2, (b.addK_length id _).trans h.len⟩
theorem Bl.Ok.bit_addK {b : Bl} (h : b.Ok) (id k q : Nat) : bitAt (b.addK id k) q = ((List.range k).any (fun i => decide (q = b.place id i)) || bitAt b.set q) := by
  induction k with
  | zero => simp [Bl.addK]
  | succ k ih =>
    rw [Bl.addK, bitAt_setBit _ _ _ (by rw [Bl.addK_length]; exact h.place_byte id k), ih, List.range_succ, List.any_append, List.any_cons, List.any_nil]
    cases decide (q = b.place id k) <;> simp
def Bl.hasK (b : Bl) (id : Nat) : Nat → Bool
  | 0 => true
  | k + 1 => b.hasK id k && bitAt b.set (b.place id k)
def Bl.has (b : Bl) (id : Nat) : Bool := b.hasK id b.hs
theorem Bl.hasK_iff (b : Bl) (id k : Nat) : b.hasK id k = true ↔ ∀ i, i < k → bitAt b.set (b.place id i) = true := by
  induction k with
  | zero => simp [Bl.hasK]
  | succ k ih =>
    rw [Bl.hasK, Bool.and_eq_true, ih]
    constructor
    · rintro ⟨h1, h2⟩ i hi
      rcases Nat.lt_or_ge i k with h | h
      · exact h1 i h
      · rw [show i = k by omega]
        exact h2
    · exact fun h => ⟨fun i hi => h i (by omega), h k (by omega)⟩
theorem Bl.Ok.has_add {b : Bl} (h : b.Ok) (id : Nat) : (b.add id).has id = true :=
  (Bl.hasK_iff _ _ _).2 fun i (hi : i < b.hs) => by
    show bitAt (b.addK id b.hs) (b.place id i) = true
    rw [h.bit_addK, Bool.or_eq_true]
    exact .inl (List.any_eq_true.2 ⟨i, List.mem_range.2 hi, by simp⟩)
theorem Bl.Ok.has_keep {b : Bl} (h : b.Ok) (x id : Nat) (hx : b.has x = true) : (b.add id).has x = true :=
  (Bl.hasK_iff _ _ _).2 fun i (hi : i < b.hs) => by
    show bitAt (b.addK id b.hs) (b.place x i) = true
    rw [h.bit_addK, (Bl.hasK_iff _ _ _).1 hx i hi, Bool.or_true]
def Bl.adds (b : Bl) (l : List Nat) : Bl := l.foldl Bl.add b
theorem Bl.adds_snoc (b : Bl) (l : List Nat) (x : Nat) : b.adds (l ++ [x]) = (b.adds l).add x := by simp [Bl.adds]
theorem Bl.Ok.adds {b : Bl} (h : b.Ok) (l : List Nat) : (b.adds l).Ok := by
  induction l generalizing b with
  | nil => exact h
  | cons x l ih => exact ih (h.add x)
theorem Bl.Ok.adds_keep {b : Bl} (h : b.Ok) (l : List Nat) (x : Nat) (hx : b.has x = true) : (b.adds l).has x = true := by
  induction l generalizing b with
  | nil => exact hx
  | cons y l ih => exact ih (h.add y) (h.has_keep x y hx)
theorem Bl.Ok.adds_has {b : Bl} (h : b.Ok) (l : List Nat) (x : Nat) (hx : x ∈ l) : (b.adds l).has x = true := by
  induction l generalizing b with
  | nil => cases hx
  | cons y l ih =>
    rcases List.mem_cons.1 hx with rfl | hx
    · exact (h.add x).adds_keep l x (h.has_add x)
    · exact ih (h.add y) hx

def Bl.head (b : Bl) : List UInt8 := bet b.sh 1 ++ bet b.hs 1 ++ bet b.bits 2
def Bl.body (b : Bl) : List UInt8 := b.head ++ b.set
def Bl.bytes (b : Bl) : List UInt8 := sealedOf b.body
theorem Bl.head_length (b : Bl) : b.head.length = 4 := by simp [Bl.head, bet_length]
theorem Bl.body_length (b : Bl) : b.body.length = b.set.length + 4 := by rw [Bl.body, List.length_append, Bl.head_length]; omega

def getB (c : List UInt8) : Option Bl :=
  if c.length < 4 then none else
    let b : Bl := ⟨num (c.take 1), num ((c.drop 2).take 2), num ((c.drop 1).take 1), c.drop 4⟩
    if rightI b.sh b.bits b.hs && decide (c.length = 4 + b.sh * b.bits / 8) then some b else none
theorem Bl.Ok.get {b : Bl} (h : b.Ok) : getB b.body = some b := by
  have hs1 : num (bet b.sh 1) = b.sh := num_bet 1 _ (by have := h.s2; omega)
  have hs2 : num (bet b.hs 1) = b.hs := num_bet 1 _ (by have := h.h2; omega)
  have hs3 : num (bet b.bits 2) = b.bits := num_bet 2 _ (by have := h.b2; omega)
  obtain ⟨x, hx⟩ : ∃ x, bet b.sh 1 = [x] := List.length_eq_one_iff.1 (bet_length _ _)
  obtain ⟨y, hy⟩ : ∃ y, bet b.hs 1 = [y] := List.length_eq_one_iff.1 (bet_length _ _)
  obtain ⟨z0, z1, hz⟩ : ∃ z0 z1, bet b.bits 2 = [z0, z1] := by
    have hh := bet_length b.bits 2
    generalize bet b.bits 2 = m at hh
    match m, hh with
    | [a, c], _ => exact ⟨a, c, rfl⟩
  have e : b.body = x :: y :: z0 :: z1 :: b.set := by simp [Bl.body, Bl.head, hx, hy, hz]
  have hl := h.len
  have hr := h.right
  rw [hx] at hs1
  rw [hy] at hs2
  rw [hz] at hs3
  unfold getB
  rw [e]
  simp only [List.length_cons, List.take_succ_cons, List.take_zero, List.drop_succ_cons, List.drop_zero, hs1, hs2, hs3, hr, Bool.true_and]
  rw [if_neg (by omega), if_pos (by simp; omega)]

def getX (x : List UInt8) : Except Nat Bl :=
  if x.length < 4 then .error 2 else if tailOf x ≠ crcOf (bodyOf x) then .error 7 else
    match getB (bodyOf x) with
    | none => .error 2
    | some b => .ok b
theorem getX_short {x : List UInt8} (h : x.length < 4) : getX x = .error 2 := by unfold getX; rw [if_pos h]
theorem getX_sum {x : List UInt8} (h : 4 ≤ x.length) (hs : tailOf x ≠ crcOf (bodyOf x)) : getX x = .error 7 := by unfold getX; rw [if_neg (by omega), if_pos hs]
theorem getX_form {x : List UInt8} (h : 4 ≤ x.length) (hs : tailOf x = crcOf (bodyOf x)) (hg : getB (bodyOf x) = none) : getX x = .error 2 := by
  unfold getX
  rw [if_neg (by omega), if_neg (fun h => h hs), hg]
theorem getX_ok {x : List UInt8} {b : Bl} (h : 4 ≤ x.length) (hs : tailOf x = crcOf (bodyOf x)) (hg : getB (bodyOf x) = some b) : getX x = .ok b := by
  unfold getX
  rw [if_neg (by omega), if_neg (fun h => h hs), hg]
theorem Bl.Ok.getX {b : Bl} (h : b.Ok) : getX b.bytes = .ok b := by
  have hl := sealedOf_length b.body
  refine getX_ok (by rw [Bl.bytes, hl]; omega) (tail_sealed b.body) ?_
  rw [Bl.bytes, body_sealed]
  exact h.get

end Go.Proofs.YtfaefacefdkjdaaGreatDoor

namespace Go.Proofs.YtfaefacefdkjdaaGreatDoor
open Go.RowKit
set_option maxRecDepth 100000

theorem Bs.lit1 (w : World) (z : UInt8) (u : Value) (e : TypeId) (h : u = .int .u8 (z.toNat : Int)) : Bs (w.alloc (.cells #[u] e)) (.slice (some ⟨w.heap.size, 0, none⟩) 1 1) [z] :=
  ⟨_, 1, rfl, Nat.le_refl _, by omega, Rd.one w u e h⟩

structure BloomK (PB : World → (Nat → Prop) → Nat → Bl → Prop) : Prop where
  thing : ∀ (g : Nat) (b : Bl), Thing fun w F => PB w F g b
  ok : ∀ {w : World} {F : Nat → Prop} {g : Nat} {b : Bl}, PB w F g b → b.Ok
  new_bad : ∀ {s bi h : Int} (w : World), rightI s bi h = false → Calls Tryz.prog 74 #[.int .i64 s, .int .i64 bi, .int .i64 h] w fun e w' => e = .returned (.tuple #[.pointer none, code 1]) ∧ Below w.heap.size w w'
  new_ok : ∀ {s bi h : Nat} (w : World), rightI s bi h = true → Calls Tryz.prog 74 #[.int .i64 (s : Int), .int .i64 (bi : Int), .int .i64 (h : Int)] w fun e w' => ∃ (g : Nat) (F : Nat → Prop), e = .returned (.tuple #[.pointer (some ⟨g, 0, none⟩), .nilIface]) ∧ PB w' F g (Bl.new s bi h) ∧ Below w.heap.size w w' ∧ ∀ q, F q → w.heap.size ≤ q
  add : ∀ {w : World} {F : Nat → Prop} {g : Nat} {b : Bl} (id : Nat), PB w F g b → id < 18446744073709551616 →
    Calls Tryz.prog 150 #[.pointer (some ⟨g, 0, none⟩), .int .u64 (id : Int)] w fun e w' => e = .returned (.tuple #[]) ∧ ∃ F', PB w' F' g (b.add id) ∧ Goes w F w' F'
  has : ∀ {w : World} {F : Nat → Prop} {g : Nat} {b : Bl} (id : Nat), PB w F g b → id < 18446744073709551616 →
    Calls Tryz.prog 38 #[.pointer (some ⟨g, 0, none⟩), .int .u64 (id : Int)] w fun e w' => e = .returned (.bool (b.has id)) ∧ Below w.heap.size w w'
  bytes : ∀ {w : World} {F : Nat → Prop} {g : Nat} {b : Bl}, PB w F g b →
    Calls Tryz.prog 151 #[.pointer (some ⟨g, 0, none⟩)] w fun e w' => ∃ v, e = .returned v ∧ Own w' w.heap.size 5 v b.bytes ∧ Below w.heap.size w w'
  get : ∀ {x : List UInt8} {v : Value} (w : World), Bs w v x → x.length ≤ 140737488355320 →
    Calls Tryz.prog 37 #[v] w fun e w' => Below w.heap.size w w' ∧ ((∃ n : Nat, getX x = .error n ∧ e = .returned (.tuple #[.pointer none, code n])) ∨
      ∃ (g : Nat) (F : Nat → Prop) (b : Bl), getX x = .ok b ∧ e = .returned (.tuple #[.pointer (some ⟨g, 0, none⟩), .nilIface]) ∧ PB w' F g b ∧ ∀ q, F q → w.heap.size ≤ q)

section
variable {PB : World → (Nat → Prop) → Nat → Bl → Prop}
theorem BloomK.later (hK : BloomK PB) {w w' : World} {F : Nat → Prop} {g : Nat} {b : Bl} (h : PB w F g b) (hb : Below w.heap.size w w') : PB w' F g b := (hK.thing g b).keep h (Apt.of_below hb)
end

end Go.Proofs.YtfaefacefdkjdaaGreatDoor

namespace Go.Proofs.YtfaefacefdkjdaaGreatDoor
open Go.RowKit
set_option maxRecDepth 100000

structure PBq (w : World) (F : Nat → Prop) (g q c : Nat) (b : Bl) : Prop where
  ok : b.Ok
  blk : Blk w g 138 #[.int .u64 (b.sh : Int), .int .u64 (b.bits : Int), .int .u64 (b.hs : Int), .slice (some ⟨q, 0, none⟩) b.set.length c]
  own : Own w 0 5 (.slice (some ⟨q, 0, none⟩) b.set.length c) b.set
  ne : q ≠ g
  F : ∀ z, F z ↔ z = g ∨ z = q
def PBt (w : World) (F : Nat → Prop) (g : Nat) (b : Bl) : Prop := ∃ q c, PBq w F g q c b
section
variable {w w' : World} {F : Nat → Prop} {g q c : Nat} {b : Bl}
theorem PBq.keep (h : PBq w F g q c b) (ha : Apt (fun z => ¬ F z) w w') : PBq w' F g q c b :=
  ⟨h.ok, (ha.block g h.blk.lt fun hn => hn ((h.F g).2 (.inl rfl))).trans h.blk, h.own.apt ha fun z hz hn => hn ((h.F z).2 (.inr (by simpa [Value.ownBlock] using hz.symm))), h.ne, h.F⟩
theorem PBq.later (h : PBq w F g q c b) (hb : Below w.heap.size w w') : PBq w' F g q c b := h.keep (Apt.of_below hb)
theorem PBq.qlt (h : PBq w F g q c b) : q < w.heap.size := h.own.blk_lt q rfl
theorem PBt.thing (g : Nat) (b : Bl) : Thing fun w F => PBt w F g b where
  keep := fun ⟨q, c, h⟩ ha => ⟨q, c, h.keep ha⟩
  lt := fun ⟨_, _, h⟩ z hz => ((h.F z).1 hz).elim (fun e => e ▸ h.blk.lt) fun e => e ▸ h.qlt
end

theorem isAmong_any (n a m : Int) (w : World) : Calls Tryz.prog 115 #[.int .i64 n, .int .i64 a, .int .i64 m] w fun e w' => e = .returned (.bool (decide (a ≤ n) && decide (n ≤ m))) ∧ w = w' := by
  by_cases h1 : a ≤ n
  · by_cases h2 : n ≤ m
    · go_enter Tryz.func115, Tryz.ntmps115
      go_wp2_with fail
      go_ret
      exact ⟨ret_bool (by simp [h1, h2]), rfl⟩
    · go_enter Tryz.func115, Tryz.ntmps115
      go_wp2_with fail
      go_ret
      exact ⟨ret_bool (by simp [h2]), rfl⟩
  · have HN : Hid ((decide (a ≤ n) && decide (n ≤ m)) = false) := Lib.hid (by rw [decide_eq_false h1, Bool.false_and])
    go_enter Tryz.func115, Tryz.ntmps115
    go_wp2_with fail
    go_ret
    exact ⟨ret_bool HN.out.symm, rfl⟩

set_option maxHeartbeats 800000 in
theorem bsums_any (id : Nat) (w : World) (hid : id < 18446744073709551616) : Calls Tryz.prog 116 #[.int .u64 (id : Int)] w fun e w' => e = .returned (.tuple #[.int .u64 (sumA id : Int), .int .u64 (sumB id : Int)]) ∧ Below w.heap.size w w' := by
  have hA := sumA_lt id
  have hB := sumB_lt id
  have hput : putOk 8 (id : Int) = true := by simp [putOk, isW]; omega
  have hP := put_ok [] (.slice none 0 0) 8 (id : Int) w (by omega) hput (by simp) (Bs.nil w)
  rw [List.nil_append, Int.toNat_natCast, show Int.toNat 8 = 8 from rfl] at hP
  have HE : Hid (crcOn (crcOf (bet id 8)) [1] = sumB id) := Lib.hid (crcOn_of _ _)
  have HA : Hid (crcOf (bet id 8) = sumA id) := Lib.hid rfl
  clear hput
  go_enter Tryz.func116, Tryz.ntmps116
  go_wp2_with fail
  refine hP.mono ?_
  rintro e w1 ⟨v1, rfl, hown1, hb1⟩
  have HB1 := Lib.hid hb1
  have hS := sum_any (bet id 8) v1 w1 hown1.bs
  rw [HA.out] at hS
  clear hP hown1 hb1
  go_wp2_with fail
  refine hS.mono ?_
  rintro e w2 ⟨rfl, rfl⟩
  clear hS
  go_wp2_with fail
  refine (on_any (sumA id : Int) [1] _ _ (by omega) (by omega) (Bs.lit1 _ 1 _ _ rfl)).mono ?_
  rintro e w2 ⟨rfl, rfl⟩
  rw [Int.toNat_natCast, ← HA.out, HE.out, HA.out]
  go_wp2_with fail
  go_ret2
  exact ⟨rfl, HB1.out.alloc HB1.out.size _⟩

end Go.Proofs.YtfaefacefdkjdaaGreatDoor

namespace Go.Proofs.YtfaefacefdkjdaaGreatDoor
open Go.RowKit
set_option maxRecDepth 100000

theorem shl_bit' (p : Nat) : (2 : Int) ^ (p % 8) % 256 = ((2 ^ (p % 8) : Nat) : Int) := by
  have h2 : 2 ^ (p % 8) < 2 ^ 8 := Nat.pow_lt_pow_right (by omega) (by omega)
  have h3 : ((2 : Int) ^ (p % 8)) = ((2 ^ (p % 8) : Nat) : Int) := by simp
  rw [h3]
  generalize 2 ^ (p % 8) = z at h2 ⊢
  omega

set_option maxHeartbeats 1600000 in
theorem places_any {w : World} {g : Nat} {b : Bl} (hok : b.Ok) (id : Nat) (hid : id < 18446744073709551616) (fn : FuncId) (cap : Array Value) (heg : ∀ args v, (callFunc fn args).run Tryz.prog v = .ok (.enter fn args) v) (Inv : Nat → World → Prop)
    (hrow : ∀ k u, Inv k u → ∃ v, Blk u g 138 #[.int .u64 (b.sh : Int), .int .u64 (b.bits : Int), .int .u64 (b.hs : Int), v])
    (h0 : ∀ u, Below w.heap.size w u → Inv 0 u)
    (hstep : ∀ k u, k < b.hs → Inv k u → Calls Tryz.prog fn (#[.int .u64 ((b.place id k / 8 : Nat) : Int), .int .u8 ((2 ^ (b.place id k % 8) : Nat) : Int)] ++ cap) u fun e u' => e = .returned (.tuple #[]) ∧ Inv (k + 1) u') :
    Calls Tryz.prog 76 #[.pointer (some ⟨g, 0, none⟩), .int .u64 (id : Int), .func (.func fn) #[] cap] w fun e w' => e = .returned (.tuple #[]) ∧ Inv b.hs w' := by
  have hA := sumA_lt id
  have hB := sumB_lt id
  have hs1 := hok.s1
  have hs2 := hok.s2
  have hb1 := hok.b1
  have hb2 := hok.b2
  have hh2 := hok.h2
  obtain ⟨x, hx⟩ : ∃ x, id % b.sh = x := ⟨_, rfl⟩
  have hxl : x < b.sh := hx ▸ Nat.mod_lt _ (by omega)
  obtain ⟨y, hy⟩ : ∃ y, x * b.bits = y := ⟨_, rfl⟩
  have hyl : y ≤ 65536 := by
    have := Nat.mul_le_mul (show x ≤ 16 by omega) hb2
    omega
  have hx' : (id : Int) % (b.sh : Int) = (x : Int) := by rw [← hx]; omega
  have hy' : (x : Int) * (b.bits : Int) = (y : Int) := by rw [← hy]; simp
  have HR := Lib.hid hrow
  have H0 := Lib.hid h0
  have HS := Lib.hid hstep
  have HX : Hid (∀ k, b.place id k = y + (sumA id + k * sumB id) % b.bits) := Lib.hid fun k => by rw [Bl.place, Bl.spot, hx, hy]
  clear hrow h0 hstep hok hx hy
  generalize b.place id = pl at *
  go_enter Tryz.func76, Tryz.ntmps76
  go_wp2_with fail
  refine (bsums_any id _ hid).mono ?_
  rintro e w1 ⟨rfl, hb1'⟩
  have HB := Lib.hid hb1'
  obtain ⟨v, hv⟩ := HR.out 0 w1 (H0.out w1 hb1')
  have k0 := hv.cell 0
  have k1 := hv.cell 1
  have k2 := hv.cell 2
  simp at k0 k1 k2
  clear hb1' hv
  go_wp2_with fail
  go_quiet (fail)
  have hb2' := below_drewN (Below.refl w1.heap.size w1) nq
  generalize w1.drewN nq = w2 at *
  have HI0 := Lib.hid (H0.out w2 (HB.out.trans (hb2'.mono HB.out.size)))
  clear hb2' k0 k1 k2
  obtain ⟨v', hv⟩ := HR.out 0 w2 HI0.out
  have k2 := hv.cell 2
  simp at k2
  clear hv
  go_wp2_with fail
  clear hx' hy'
  go_loopg [6, 30] b.hs (fun gk av iv wr => ∃ k a : Nat, k + gk = b.hs ∧ a ≤ 4294967296 * (k + 1) ∧ av = .int .u64 (a : Int) ∧ iv = .int .u64 (k : Int) ∧ Hid (a = sumA id + k * sumB id ∧ Inv k wr))
  case atStart => exact ⟨0, sumA id, by omega, by omega, rfl, rfl, Lib.hid ⟨by omega, HI0.out⟩⟩
  case round =>
    obtain ⟨k, a, hk, ha, rfl, rfl, HM⟩ := hrel
    clear k2
    by_cases hlt : k < b.hs
    · obtain ⟨gk1, hgk1⟩ : ∃ x, gk = x + 1 := ⟨gk - 1, by omega⟩
      obtain ⟨v2, hv2⟩ := HR.out k wr HM.out.2
      have k1 := hv2.cell 1
      simp at k1
      obtain ⟨s, hs⟩ : ∃ s, a % b.bits = s := ⟨_, rfl⟩
      have hsl : s < b.bits := hs ▸ Nat.mod_lt _ (by omega)
      have hs' : (a : Int) % (b.bits : Int) = (s : Int) := by rw [← hs]; omega
      have HP : Hid (pl k = y + s) := Lib.hid (by rw [HX.out, ← HM.out.1, hs])
      have hS := HS.out k wr hlt HM.out.2
      rw [HP.out, show (((y + s) / 8 : Nat) : Int) = ((y : Int) + (s : Int)) / 8 by omega] at hS
      have HSH := Lib.hid (shl_bit' (y + s))
      clear hv2 hs
      go_wp2_with fail
      rw [HSH.out]
      refine hS.mono ?_
      rintro e w3 ⟨rfl, hI3⟩
      have HI3 := Lib.hid hI3
      clear hS hI3 hs' k1
      go_wp2_with fail
      go_roundg gk1
      case measure => omega
      case rel => exact ⟨k + 1, a + sumB id, by omega, by omega, by go_num, by go_num, Lib.hid ⟨by rw [Nat.succ_mul]; have := HM.out.1; omega, HI3.out⟩⟩
    · have hkn : k = b.hs := by omega
      subst hkn
      clear hlt
      obtain ⟨v2, hv2⟩ := HR.out _ wr HM.out.2
      go_wp2_with fail
      refine bodyPost_end (results_none rfl _ _ _) rfl ?_
      exact ⟨rfl, HM.out.2⟩

end Go.Proofs.YtfaefacefdkjdaaGreatDoor

namespace Go.Proofs.YtfaefacefdkjdaaGreatDoor
open Go.RowKit
set_option maxRecDepth 100000

theorem and_bit (y i : Nat) : (((y &&& 2 ^ i : Nat) : Int) != 0) = y.testBit i := by
  cases hb : y.testBit i with
  | false =>
    have h0 : y &&& 2 ^ i = 0 := Nat.eq_of_testBit_eq fun j => by
      rw [Nat.testBit_and, Nat.testBit_two_pow, Nat.zero_testBit]
      by_cases hj : i = j
      · subst hj
        simp [hb]
      · simp [hj]
    rw [h0]
    rfl
  | true =>
    have h0 : y &&& 2 ^ i ≠ 0 := fun h => by
      have h1 := congrArg (fun n => Nat.testBit n i) h
      simp only [Nat.testBit_and, Nat.testBit_two_pow, hb, Nat.zero_testBit] at h1
      simp at h1
    rw [bne_iff_ne]
    omega
theorem bit_lt (p m : Nat) (hm : m = 2 ^ (p % 8)) : m < 256 := by
  have h2 : 2 ^ (p % 8) < 2 ^ 8 := Nat.pow_lt_pow_right (by omega) (Nat.mod_lt _ (by omega))
  omega
theorem and_bit_ne (l : List UInt8) (p m : Nat) (hm : m = 2 ^ (p % 8)) : (bits .and .u8 ((l.getD (p / 8) 0).toNat : Int) (m : Int) != 0) = bitAt l p := by
  rw [u8_and_nat _ _ (UInt8.toNat_lt _) (bit_lt p m hm), bitAt_test, ← and_bit, hm]
theorem or_bit (l : List UInt8) (p m : Nat) (hm : m = 2 ^ (p % 8)) : bits .or .u8 ((l.getD (p / 8) 0).toNat : Int) (m : Int) = ((orBit (l.getD (p / 8) 0) (p % 8)).toNat : Int) := by
  rw [u8_or_nat _ _ (UInt8.toNat_lt _) (bit_lt p m hm), orBit_toNat _ _ (Nat.mod_lt _ (by omega)), hm]

section
variable {w w' u : World} {F : Nat → Prop} {g q c : Nat} {b : Bl}
theorem PBq.byte (h : PBq u F g q c b) {j : Nat} (hj : j < b.set.length) : u.cell? ⟨q, j, none⟩ = some (.int .u8 ((b.set.getD j 0).toNat : Int)) ∧ u.frozen? ⟨q, j, none⟩ = false := by
  obtain ⟨q', yn, e, _, _, _, hf⟩ := h.own.byte hj
  injection e with e
  injection e with e
  subst e
  refine ⟨?_, hf⟩
  have h1 := h.own.rd.cells j (.int .u8 ((b.set.getD j 0).toNat : Int)) (by rw [BV_getElem?, List.getElem?_eq_getElem hj, List.getD_eq_getElem?_getD, List.getElem?_eq_getElem hj]; rfl)
  rw [Addr.add_lit, Nat.zero_add] at h1
  exact h1
theorem PBq.put_ (h : PBq u F g q c b) (j : Nat) (z : UInt8) (b' : Bl) (hb : b' = { b with set := b.set.set j z }) : PBq (u.setCell ⟨q, j, none⟩ (.int .u8 (z.toNat : Int))) F g q c b' ∧ u.grownBy (u.setCell ⟨q, j, none⟩ (.int .u8 (z.toNat : Int))) (some q) := by
  subst hb
  obtain ⟨h1, h2⟩ := h.own.put_ j z
  have hl : (b.set.set j z).length = b.set.length := List.length_set ..
  refine ⟨⟨⟨h.ok.s1, h.ok.s2, h.ok.b1, h.ok.b2, h.ok.b8, h.ok.h1, h.ok.h2, hl.trans h.ok.len⟩, ?_, ?_, h.ne, h.F⟩, h2⟩
  · show Blk _ g _ #[_, _, _, .slice (some ⟨q, 0, none⟩) (b.set.set j z).length c]
    rw [hl]
    exact h.blk.far (fun e => h.ne e.symm) _
  · show Own _ 0 _ (.slice (some ⟨q, 0, none⟩) (b.set.set j z).length c) (b.set.set j z)
    rw [hl]
    exact h1
end

set_option maxHeartbeats 800000 in
theorem addSee_any {u : World} {F : Nat → Prop} {g q c n p m : Nat} {b : Bl} (h : PBq u F g q c b) (hn : u.cell? ⟨n, 0, none⟩ = some (.pointer (some ⟨g, 0, none⟩))) (hp : p / 8 < b.set.length) (hm : m = 2 ^ (p % 8)) :
    Calls Tryz.prog 174 #[.int .u64 ((p / 8 : Nat) : Int), .int .u8 (m : Int), .pointer (some ⟨n, 0, none⟩)] u fun e u' => e = .returned (.tuple #[]) ∧ PBq u' F g q c { b with set := setBit b.set p } ∧ u.grownBy u' (some q) := by
  have k3 := h.blk.cell 3
  simp at k3
  obtain ⟨kb, fb⟩ := h.byte hp
  have hor := or_bit b.set p m hm
  have HP : Hid (PBq (u.setCell ⟨q, p / 8, none⟩ (.int .u8 ((orBit (b.set.getD (p / 8) 0) (p % 8)).toNat : Int))) F g q c { b with set := setBit b.set p } ∧ u.grownBy (u.setCell ⟨q, p / 8, none⟩ (.int .u8 ((orBit (b.set.getD (p / 8) 0) (p % 8)).toNat : Int))) (some q)) := Lib.hid (h.put_ _ _ _ rfl)
  have hm8 := bit_lt p m hm
  have hz := (orBit (b.set.getD (p / 8) 0) (p % 8)).toNat_lt
  have hy := (b.set.getD (p / 8) 0).toNat_lt
  have hlen := h.ok.len_le
  generalize hzz : (orBit (b.set.getD (p / 8) 0) (p % 8)).toNat = z at *
  generalize (b.set.getD (p / 8) 0).toNat = y at *
  generalize hjj : p / 8 = j at *
  clear h hm hzz
  go_enter Tryz.func174, Tryz.ntmps174
  go_wp2_with fail
  refine bodyPost_end (results_none rfl _ _ _) rfl ?_
  exact ⟨rfl, HP.out⟩

set_option maxHeartbeats 800000 in
theorem hasSee_any {u : World} {F : Nat → Prop} {g q c n r p m : Nat} {b : Bl} {t : TypeId} (h : PBq u F g q c b) (a : Bool) (hr : Blk u r t #[.bool a]) (hn : u.cell? ⟨n, 0, none⟩ = some (.pointer (some ⟨g, 0, none⟩))) (hp : p / 8 < b.set.length) (hm : m = 2 ^ (p % 8)) :
    Calls Tryz.prog 77 #[.int .u64 ((p / 8 : Nat) : Int), .int .u8 (m : Int), .pointer (some ⟨r, 0, none⟩), .pointer (some ⟨n, 0, none⟩)] u fun e u' => e = .returned (.tuple #[]) ∧ u' = u.setCell ⟨r, 0, none⟩ (.bool (a && bitAt b.set p)) := by
  have k0 := hr.cell 0
  have f0 := hr.frozen 0
  simp at k0
  cases a with
  | false =>
    go_enter Tryz.func77, Tryz.ntmps77
    go_wp2_with fail
    refine bodyPost_end (results_none rfl _ _ _) rfl ?_
    exact ⟨rfl, rfl⟩
  | true =>
    have k3 := h.blk.cell 3
    simp at k3
    obtain ⟨kb, fb⟩ := h.byte hp
    have hand := and_bit_ne b.set p m hm
    have hm8 := bit_lt p m hm
    have hy := (b.set.getD (p / 8) 0).toNat_lt
    have hlen := h.ok.len_le
    generalize bitAt b.set p = z at *
    generalize (b.set.getD (p / 8) 0).toNat = y at *
    generalize hjj : p / 8 = j at *
    clear h hm
    go_enter Tryz.func77, Tryz.ntmps77
    go_wp2_with fail
    refine bodyPost_end (results_none rfl _ _ _) rfl ?_
    exact ⟨rfl, rfl⟩

end Go.Proofs.YtfaefacefdkjdaaGreatDoor

namespace Go.Proofs.YtfaefacefdkjdaaGreatDoor
open Go.RowKit
set_option maxRecDepth 100000

theorem enters_addSee (args : Array Value) (w : World) : (callFunc 174 args).run Tryz.prog w = .ok (.enter 174 args) w := rfl

theorem enters_hasSee (args : Array Value) (w : World) : (callFunc 77 args).run Tryz.prog w = .ok (.enter 77 args) w := rfl

def Bl.upto (b : Bl) (id k : Nat) : Bl := { b with set := b.addK id k }
theorem Bl.upto_place (b : Bl) (id k : Nat) : (b.upto id k).place id k = b.place id k := rfl

structure AddI (w : World) (F : Nat → Prop) (g q c n : Nat) (b : Bl) (id k : Nat) (u : World) : Prop where
  pb : PBq u F g q c (b.upto id k)
  box : u.cell? ⟨n, 0, none⟩ = some (.pointer (some ⟨g, 0, none⟩))
  goes : Goes w F u F
  lt : n < u.heap.size
  ne : n ≠ q

set_option maxHeartbeats 800000 in
theorem badd_any {w : World} {F : Nat → Prop} {g : Nat} {b : Bl} (id : Nat) (hp : PBt w F g b) (hid : id < 18446744073709551616) :
    Calls Tryz.prog 150 #[.pointer (some ⟨g, 0, none⟩), .int .u64 (id : Int)] w fun e w' => e = .returned (.tuple #[]) ∧ ∃ F', PBt w' F' g (b.add id) ∧ Goes w F w' F' := by
  obtain ⟨q, c, h⟩ := hp
  have hql := h.qlt
  have hb1 : Below w.heap.size w (w.alloc (.cells #[.pointer (some ⟨g, 0, none⟩)] 85)) := (Below.refl _ w).alloc (Nat.le_refl _) _
  have hk1 : (w.alloc (.cells #[.pointer (some ⟨g, 0, none⟩)] 85)).cell? ⟨w.heap.size, 0, none⟩ = some (.pointer (some ⟨g, 0, none⟩)) := (Blk.new w 85 #[.pointer (some ⟨g, 0, none⟩)]).cell 0
  have HP := places_any (w := w.alloc (.cells #[.pointer (some ⟨g, 0, none⟩)] 85)) (g := g) h.ok id hid 174 #[.pointer (some ⟨w.heap.size, 0, none⟩)] enters_addSee (AddI w F g q c w.heap.size b id)
    (fun k u hI => ⟨_, hI.pb.blk⟩)
    (fun u hu => ⟨(h.later hb1).later hu, (hu.cell (p := ⟨w.heap.size, 0, none⟩) (by simp)).trans hk1, Goes.of_below (hb1.trans (hu.mono (by simp))), by have := hu.size; simp at this; omega, by omega⟩)
    (fun k u hk hI => (addSee_any hI.pb hI.box (by rw [← Bl.upto_place]; exact hI.pb.ok.place_byte id k) rfl).mono fun e u' ⟨he, h1, h2⟩ => ⟨he, ⟨h1, (World.cell?_of_block (h2.block _ hI.lt (by simpa using hI.ne))).trans hI.box, hI.goes.own h2 ((h.F q).2 (.inr rfl)), Nat.lt_of_lt_of_le hI.lt h2.size, hI.ne⟩⟩)
  have HH := Lib.hid HP
  have hmf : ∀ (fn : Fn) (first cap : Array Value) (w : World), (Instr.makeFunc fn first cap).run Tryz.prog w = .ok (.func fn first cap) w := fun _ _ _ _ => rfl
  clear HP hb1
  go_enter Tryz.func150, Tryz.ntmps150
  go_wp2_with fail
  refine HH.out.mono ?_
  rintro e w1 ⟨rfl, hI⟩
  have HI := Lib.hid hI
  clear hI
  go_wp2_with fail
  refine bodyPost_end (results_none rfl _ _ _) rfl ?_
  exact ⟨rfl, F, ⟨q, c, HI.out.pb⟩, HI.out.goes⟩

structure HasI (w : World) (F : Nat → Prop) (g q c n r : Nat) (b : Bl) (id k : Nat) (u : World) : Prop where
  pb : PBq u F g q c b
  box : u.cell? ⟨n, 0, none⟩ = some (.pointer (some ⟨g, 0, none⟩))
  all : Blk u r 4 #[.bool (b.hasK id k)]
  below : Below w.heap.size w u
  lt : n < u.heap.size
  ne : n ≠ r
  ge : w.heap.size ≤ r

set_option maxHeartbeats 800000 in
theorem bhas_any {w : World} {F : Nat → Prop} {g : Nat} {b : Bl} (id : Nat) (hp : PBt w F g b) (hid : id < 18446744073709551616) :
    Calls Tryz.prog 38 #[.pointer (some ⟨g, 0, none⟩), .int .u64 (id : Int)] w fun e w' => e = .returned (.bool (b.has id)) ∧ Below w.heap.size w w' := by
  obtain ⟨q, c, h⟩ := hp
  have hql := h.qlt
  have hgl := h.blk.lt
  obtain ⟨w0, hw0⟩ : ∃ w0, w0 = w.alloc (.cells #[.pointer (some ⟨g, 0, none⟩)] 85) := ⟨_, rfl⟩
  have hz0 : w0.heap.size = w.heap.size + 1 := by rw [hw0]; simp
  have hb0 : Below w.heap.size w w0 := hw0 ▸ (Below.refl _ w).alloc (Nat.le_refl _) _
  have hk0 : w0.cell? ⟨w.heap.size, 0, none⟩ = some (.pointer (some ⟨g, 0, none⟩)) := by
    rw [hw0]
    exact (Blk.new w 85 #[.pointer (some ⟨g, 0, none⟩)]).cell 0
  obtain ⟨w1, hw1⟩ : ∃ w1, w1 = w0.alloc (.cells #[.bool true] 4) := ⟨_, rfl⟩
  have hz1 : w1.heap.size = w.heap.size + 2 := by rw [hw1]; simp [hz0]
  have hb01 : Below w0.heap.size w0 w1 := hw1 ▸ (Below.refl _ w0).alloc (Nat.le_refl _) _
  have hb1 : Below w.heap.size w w1 := hb0.trans (hb01.mono hb0.size)
  have ha1 : Blk w1 w0.heap.size 4 #[.bool true] := by
    rw [hw1]
    exact Blk.new w0 4 #[.bool true]
  have hk1 : w1.cell? ⟨w.heap.size, 0, none⟩ = some (.pointer (some ⟨g, 0, none⟩)) := (hb01.cell (p := ⟨w.heap.size, 0, none⟩) (by show w.heap.size < _; omega)).trans hk0
  have HP := places_any (w := w1) (g := g) h.ok id hid 77 #[.pointer (some ⟨w0.heap.size, 0, none⟩), .pointer (some ⟨w.heap.size, 0, none⟩)] enters_hasSee (HasI w F g q c w.heap.size w0.heap.size b id)
    (fun k u hI => ⟨_, hI.pb.blk⟩)
    (fun u hu => ⟨(h.later hb1).later hu, (hu.cell (p := ⟨w.heap.size, 0, none⟩) (by show w.heap.size < _; omega)).trans hk1, ha1.below hu (by omega), hb1.trans (hu.mono (by omega)), by have := hu.size; omega, by omega, by omega⟩)
    (fun k u hk hI => (hasSee_any hI.pb _ hI.all hI.box (h.ok.place_byte id k) rfl).mono fun e u' ⟨he, h1⟩ => by
      have h2 : u.grownBy u' (some w0.heap.size) := h1 ▸ grown_set u _ _ _
      have h3 : Blk u' w0.heap.size 4 #[.bool (b.hasK id k && bitAt b.set (b.place id k))] := by
        rw [h1]
        have := hI.all.set_ 0 (.bool (b.hasK id k && bitAt b.set (b.place id k)))
        simpa using this
      exact ⟨he, ⟨hI.pb.keep (Apt.of_grown h2 fun z hz hF => by
        injection hz with hz
        subst hz
        rcases (h.F _).1 hF with e | e <;> omega), (World.cell?_of_block (h2.block _ hI.lt (by simpa using hI.ne))).trans hI.box, h3, hI.below.grown h2 hI.below.size (by intro k hk; injection hk with hk; have := hI.ge; omega), Nat.lt_of_lt_of_le hI.lt h2.size, hI.ne, hI.ge⟩⟩)
  rw [hw1, hw0] at HP
  have HH := Lib.hid HP
  have hmf : ∀ (fn : Fn) (first cap : Array Value) (w : World), (Instr.makeFunc fn first cap).run Tryz.prog w = .ok (.func fn first cap) w := fun _ _ _ _ => rfl
  clear HP ha1 hk1 hb01 hb1 hk0 hb0 hz1 hw1 hz0 hw0 hgl hql
  simp at HH
  go_enter Tryz.func38, Tryz.ntmps38
  go_wp2_with fail
  refine HH.out.mono ?_
  rintro e w2 ⟨rfl, hI⟩
  have k0 := hI.all.cell 0
  simp at k0
  have HI := Lib.hid hI
  clear hI
  go_wp2_with fail
  go_ret
  exact ⟨rfl, HI.out.below⟩

end Go.Proofs.YtfaefacefdkjdaaGreatDoor

namespace Go.Proofs.YtfaefacefdkjdaaGreatDoor
open Go.RowKit
set_option maxRecDepth 100000

set_option maxHeartbeats 800000 in
theorem bnew_bad {s bi h : Int} (w : World) (hr : rightI s bi h = false) : Calls Tryz.prog 74 #[.int .i64 s, .int .i64 bi, .int .i64 h] w fun e w' => e = .returned (.tuple #[.pointer none, code 1]) ∧ Below w.heap.size w w' := by
  have hn := rightI_not hr
  clear hr
  cases hA : (decide (1 ≤ s) && decide (s ≤ 16)) with
  | false =>
    have HA := Lib.hid hA
    clear hA hn
    go_enter Tryz.func74, Tryz.ntmps74
    go_wp2_with fail
    refine (isAmong_any s 1 16 _).mono ?_
    rintro e w1 ⟨rfl, rfl⟩
    rw [HA.out]
    go_wp2_with fail
    go_ret2
    exact ⟨rfl, Below.refl _ _⟩
  | true =>
    have HA := Lib.hid hA
    have hA' : 1 ≤ s ∧ s ≤ 16 := by simpa using hA
    clear hA
    cases hH : (decide (1 ≤ h) && decide (h ≤ 8)) with
    | false =>
      have HH := Lib.hid hH
      clear hH hn
      go_enter Tryz.func74, Tryz.ntmps74
      go_wp2_with fail
      refine (isAmong_any s 1 16 _).mono ?_
      rintro e w1 ⟨rfl, rfl⟩
      rw [HA.out]
      go_wp2_with fail
      refine (isAmong_any h 1 8 _).mono ?_
      rintro e w1 ⟨rfl, rfl⟩
      rw [HH.out]
      go_wp2_with fail
      go_ret2
      exact ⟨rfl, Below.refl _ _⟩
    | true =>
      have HH := Lib.hid hH
      have hH' : 1 ≤ h ∧ h ≤ 8 := by simpa using hH
      clear hH
      cases hB : (decide (8 ≤ bi) && decide (bi ≤ 4096)) with
      | false =>
        have HB := Lib.hid hB
        clear hB hn
        go_enter Tryz.func74, Tryz.ntmps74
        go_wp2_with fail
        refine (isAmong_any s 1 16 _).mono ?_
        rintro e w1 ⟨rfl, rfl⟩
        rw [HA.out]
        go_wp2_with fail
        refine (isAmong_any h 1 8 _).mono ?_
        rintro e w1 ⟨rfl, rfl⟩
        rw [HH.out]
        go_wp2_with fail
        refine (isAmong_any bi 8 4096 _).mono ?_
        rintro e w1 ⟨rfl, rfl⟩
        rw [HB.out]
        go_wp2_with fail
        go_ret2
        exact ⟨rfl, Below.refl _ _⟩
      | true =>
        have HB := Lib.hid hB
        have hB' : 8 ≤ bi ∧ bi ≤ 4096 := by simpa using hB
        clear hB
        obtain ⟨hB1, hB2⟩ := hB'
        obtain ⟨r, hr⟩ : ∃ r, bi % 8 = r := ⟨_, rfl⟩
        have hr0 : r ≠ 0 := fun e => hn ⟨hA'.1, hA'.2, hB1, hB2, by omega, hH'⟩
        have hr1 : (r == 0) = false := by simpa using hr0
        clear hn hA' hH'
        go_enter Tryz.func74, Tryz.ntmps74
        go_wp2_with fail
        refine (isAmong_any s 1 16 _).mono ?_
        rintro e w1 ⟨rfl, rfl⟩
        rw [HA.out]
        go_wp2_with fail
        refine (isAmong_any h 1 8 _).mono ?_
        rintro e w1 ⟨rfl, rfl⟩
        rw [HH.out]
        go_wp2_with fail
        refine (isAmong_any bi 8 4096 _).mono ?_
        rintro e w1 ⟨rfl, rfl⟩
        rw [HB.out]
        go_wp2_with fail
        go_ret2
        exact ⟨rfl, Below.refl _ _⟩

set_option maxHeartbeats 800000 in
theorem bnew_ok {s bi h : Nat} (w : World) (hr : rightI s bi h = true) : Calls Tryz.prog 74 #[.int .i64 (s : Int), .int .i64 (bi : Int), .int .i64 (h : Int)] w fun e w' => ∃ (g : Nat) (F : Nat → Prop), e = .returned (.tuple #[.pointer (some ⟨g, 0, none⟩), .nilIface]) ∧ PBq w' F g (g + 1) (s * bi / 8) (Bl.new s bi h) ∧ Below w.heap.size w w' ∧ ∀ q, F q → w.heap.size ≤ q := by
  have HOk := Lib.hid (Bl.new_ok hr)
  have hm : s * bi ≤ 65536 := HOk.out.most
  obtain ⟨h1, h2, h3, h4, h5, h6, h7⟩ := rightI_iff.1 hr
  have HA : Hid ((decide (1 ≤ (s : Int)) && decide ((s : Int) ≤ 16)) = true) := Lib.hid (by simp; omega)
  have HH : Hid ((decide (1 ≤ (h : Int)) && decide ((h : Int) ≤ 8)) = true) := Lib.hid (by simp; omega)
  have HB : Hid ((decide (8 ≤ (bi : Int)) && decide ((bi : Int) ≤ 4096)) = true) := Lib.hid (by simp; omega)
  obtain ⟨m, hm0⟩ : ∃ m, s * bi = m := ⟨_, rfl⟩
  obtain ⟨n, hn0⟩ : ∃ n, m / 8 = n := ⟨_, rfl⟩
  have hmi : (s : Int) * (bi : Int) = (m : Int) := by rw [← hm0]; simp
  have hni : (m : Int) / 8 = (n : Int) := by omega
  have hmk := fun u : World => run_make_bytes (P := Tryz.prog) byteT .i64 .i64 n n (Nat.le_refl _) (by omega) u
  rw [hm0, hn0]
  have HN : Hid (Bl.new s bi h = ⟨s, bi, h, List.replicate n 0⟩) := Lib.hid (by rw [Bl.new, hm0, hn0])
  rw [hm0] at hm
  clear hr hm0 hn0
  go_enter Tryz.func74, Tryz.ntmps74
  go_wp2_with fail
  refine (isAmong_any s 1 16 _).mono ?_
  rintro e w1 ⟨rfl, rfl⟩
  rw [HA.out]
  go_wp2_with fail
  refine (isAmong_any h 1 8 _).mono ?_
  rintro e w1 ⟨rfl, rfl⟩
  rw [HH.out]
  go_wp2_with fail
  refine (isAmong_any bi 8 4096 _).mono ?_
  rintro e w1 ⟨rfl, rfl⟩
  rw [HB.out]
  go_wp2_with fail
  go_ret2
  have hz : (w.alloc (.cells #[.int .u64 (s : Int), .int .u64 (bi : Int), .int .u64 (h : Int), .slice (some ⟨w.heap.size + 1, 0, none⟩) n n] 138)).heap.size = w.heap.size + 1 := by simp
  have ho := Own.zeros (w.alloc (.cells #[.int .u64 (s : Int), .int .u64 (bi : Int), .int .u64 (h : Int), .slice (some ⟨w.heap.size + 1, 0, none⟩) n n] 138)) 0 5 n (Nat.zero_le _) (by omega)
  rw [hz] at ho
  refine ⟨w.heap.size, fun z => z = w.heap.size ∨ z = w.heap.size + 1, rfl, ?_, ((Below.refl _ w).alloc (Nat.le_refl _) _).alloc (by simp) _, fun z hz => by omega⟩
  have hok := HOk.out
  rw [HN.out] at hok ⊢
  have hl : (List.replicate n (0 : UInt8)).length = n := List.length_replicate
  refine ⟨hok, ?_, ?_, by omega, fun z => Iff.rfl⟩
  · rw [hl]
    exact (Blk.new w _ _).alloc _
  · rw [hl]
    exact ho

end Go.Proofs.YtfaefacefdkjdaaGreatDoor

namespace Go.Proofs.YtfaefacefdkjdaaGreatDoor
open Go.RowKit
set_option maxRecDepth 100000

set_option maxHeartbeats 1600000 in
theorem bbytes_any {w : World} {F : Nat → Prop} {g : Nat} {b : Bl} (hp : PBt w F g b) :
    Calls Tryz.prog 151 #[.pointer (some ⟨g, 0, none⟩)] w fun e w' => ∃ v, e = .returned v ∧ Own w' w.heap.size 5 v b.bytes ∧ Below w.heap.size w w' := by
  obtain ⟨q, c, h⟩ := hp
  have H := Lib.hid h
  have h1 := h.ok.s2
  have h2 := h.ok.h2
  have h3 := h.ok.b2
  have hlen := h.ok.len_le
  have hp1 : putOk 1 (b.sh : Int) = true := by simp [putOk, isW]; omega
  have hp2 : putOk 1 (b.hs : Int) = true := by simp [putOk, isW]; omega
  have hp3 : putOk 2 (b.bits : Int) = true := by simp [putOk, isW]; omega
  have hP1 := put_ok [] (.slice none 0 0) 1 (b.sh : Int) w (by omega) hp1 (by simp) (Bs.nil w)
  rw [List.nil_append, Int.toNat_natCast, show Int.toNat 1 = 1 from rfl] at hP1
  have HP2 := Lib.hid hp2
  have HP3 := Lib.hid hp3
  have k0 := h.blk.cell 0
  simp at k0
  clear h hp1 hp2 hp3
  go_enter Tryz.func151, Tryz.ntmps151
  go_wp2_with fail
  refine hP1.mono ?_
  rintro e w1 ⟨v1, rfl, ho1, hb1⟩
  have hl1 := bet_length b.sh 1
  have HB1 := Lib.hid hb1
  have H1 := Lib.hid (H.out.later hb1)
  have k2 := H1.out.blk.cell 2
  simp at k2
  have hP2 := put_ok (bet b.sh 1) v1 1 (b.hs : Int) w1 (by omega) HP2.out (by omega) ho1.bs
  rw [Int.toNat_natCast, show Int.toNat 1 = 1 from rfl] at hP2
  clear hP1 ho1 hb1 k0 hl1
  go_wp2_with fail
  refine hP2.mono ?_
  rintro e w2 ⟨v2, rfl, ho2, hb2⟩
  have hl2 : (bet b.sh 1 ++ bet b.hs 1).length = 2 := by simp [bet_length]
  have HB2 := Lib.hid (HB1.out.trans (hb2.mono HB1.out.size))
  have H2 := Lib.hid (H1.out.later hb2)
  have k1 := H2.out.blk.cell 1
  simp at k1
  have hP3 := put_ok (bet b.sh 1 ++ bet b.hs 1) v2 2 (b.bits : Int) w2 (by omega) HP3.out (by omega) ho2.bs
  rw [Int.toNat_natCast, show Int.toNat 2 = 2 from rfl] at hP3
  clear hP2 ho2 hb2 k2 hl2
  go_wp2_with fail
  refine hP3.mono ?_
  rintro e w3 ⟨v3, rfl, ho3, hb3⟩
  have HB3 := Lib.hid (HB2.out.trans (hb3.mono HB2.out.size))
  have H3 := Lib.hid (H2.out.later hb3)
  have hl3 : (bet b.sh 1 ++ bet b.hs 1 ++ bet b.bits 2).length = 4 := by simp [bet_length]
  have k3 := H3.out.blk.cell 3
  simp at k3
  have HO3 := Lib.hid (ho3.lower (base' := w.heap.size) HB2.out.size)
  clear hP3 ho3 hb3 k1
  go_wp2_with (at_builtin; refine wpList_append_v _ byteT rfl _ _ rfl w.heap.size v3 _ rfl HO3.out _ b.set rfl H3.out.own.bs (by omega) HB3.out.size ?_)
  intro v4 w4 ho4 hg4 _
  have HB4 := Lib.hid (HB3.out.grown hg4 HB3.out.size HO3.out.ge)
  have hS := seal_any (bet b.sh 1 ++ bet b.hs 1 ++ bet b.bits 2 ++ b.set) v4 w4 (by rw [List.length_append]; omega) ho4.bs
  clear ho4 hg4 k3
  go_wp2_with fail
  refine hS.mono ?_
  rintro e w5 ⟨v5, rfl, ho5, hb5⟩
  have HB5 := Lib.hid (HB4.out.trans (hb5.mono HB4.out.size))
  have HO5 := Lib.hid (ho5.lower (base' := w.heap.size) HB4.out.size)
  clear hS ho5 hb5
  go_wp2_with fail
  go_ret
  exact ⟨_, rfl, HO5.out, HB5.out⟩

theorem words3 (c : List UInt8) (p1 p2 : Nat) (b1 b2 : Bool) (h1 : p1 = wNext c 0 false 1) (h2 : b1 = !wordOk c 0 false 1) (h3 : p2 = wNext c p1 b1 1) (h4 : b2 = !wordOk c p1 b1 1) :
    (c.length < 4 → wOut c p2 b2 2 = 0) ∧ (4 ≤ c.length → wOut c 0 false 1 = num (c.take 1) ∧ wOut c p1 b1 1 = num ((c.drop 1).take 1) ∧ wOut c p2 b2 2 = num ((c.drop 2).take 2) ∧ wNext c p2 b2 2 = 4) ∧
      wOut c 0 false 1 < 256 ∧ wOut c p1 b1 1 < 256 ∧ wOut c p2 b2 2 < 65536 := by
  have hn : ∀ (m : List UInt8) (k : Nat), num (m.take k) < 256 ^ k := fun m k => Nat.lt_of_lt_of_le (num_lt _) (Nat.pow_le_pow_right (by omega) (by simp; omega))
  refine ⟨fun h => ?_, fun h => ?_, ?_, ?_, ?_⟩
  · rcases Nat.lt_or_ge c.length 1 with hc | hc
    · have e1 : wordOk c 0 false 1 = false := by simp [wordOk, isW]; omega
      have e3 : wordOk c p1 b1 1 = false := by rw [h2, e1]; rfl
      have e5 : b2 = true := by rw [h4, e3]; rfl
      simp [wOut, wordOk, e5]
    · have e1 : wordOk c 0 false 1 = true := by simp [wordOk, isW]; omega
      have e2 : p1 = 1 := by rw [h1, wNext, e1]; rfl
      have e3 : b1 = false := by rw [h2, e1]; rfl
      subst e2 e3
      rcases Nat.lt_or_ge c.length 2 with hc | hc
      · have e4 : wordOk c 1 false 1 = false := by simp [wordOk, isW]; omega
        have e5 : b2 = true := by rw [h4, e4]; rfl
        simp [wOut, wordOk, e5]
      · have e4 : wordOk c 1 false 1 = true := by simp [wordOk, isW]; omega
        have e5 : p2 = 2 := by rw [h3, wNext, e4]; rfl
        have e6 : wordOk c p2 b2 2 = false := by simp [wordOk, isW, e5]; omega
        rw [wOut, e6]
        rfl
  · have e1 : wordOk c 0 false 1 = true := by simp [wordOk, isW]; omega
    have e2 : p1 = 1 := by rw [h1, wNext, e1]; rfl
    have e3 : b1 = false := by rw [h2, e1]; rfl
    subst e2 e3
    have e4 : wordOk c 1 false 1 = true := by simp [wordOk, isW]; omega
    have e5 : p2 = 2 := by rw [h3, wNext, e4]; rfl
    have e6 : b2 = false := by rw [h4, e4]; rfl
    subst e5 e6
    have e7 : wordOk c 2 false 2 = true := by simp [wordOk, isW]; omega
    refine ⟨by rw [wOut, e1]; rfl, by rw [wOut, e4]; rfl, by rw [wOut, e7]; rfl, by rw [wNext, e7]; rfl⟩
  · unfold wOut
    split
    · exact hn _ 1
    · omega
  · unfold wOut
    split
    · exact hn _ 1
    · omega
  · unfold wOut
    split
    · exact hn _ 2
    · omega

end Go.Proofs.YtfaefacefdkjdaaGreatDoor

namespace Go.Proofs.YtfaefacefdkjdaaGreatDoor
open Go.RowKit
set_option maxRecDepth 100000

theorem fill_all (l : List UInt8) (n : Nat) (h : l.length = n) : l.take (List.replicate n (0 : UInt8)).length ++ (List.replicate n (0 : UInt8)).drop l.length = l := by
  subst h
  simp

theorem bget_short {x : List UInt8} {v : Value} (w : World) (hv : Bs w v x) (hl : x.length < 4) :
    Calls Tryz.prog 37 #[v] w fun e w' => e = .returned (.tuple #[.pointer none, code 2]) ∧ Below w.heap.size w w' := by
  go_enter Tryz.func37, Tryz.ntmps37
  go_wp2_with fail
  refine (open_short x v w hl hv).mono ?_
  rintro e w1 ⟨rfl, rfl⟩
  go_wp2_with fail
  go_ret2
  exact ⟨rfl, Below.refl _ _⟩

set_option maxHeartbeats 800000 in
theorem bget_sum {x : List UInt8} {v : Value} (w : World) (hv : Bs w v x) (h4 : 4 ≤ x.length) (hl : x.length ≤ 140737488355320) (hs : tailOf x ≠ crcOf (bodyOf x)) :
    Calls Tryz.prog 37 #[v] w fun e w' => e = .returned (.tuple #[.pointer none, code 7]) ∧ Below w.heap.size w w' := by
  have HS := Lib.hid hs
  have hO := open_long x v w h4 (by omega) hv
  clear hs hl h4
  go_enter Tryz.func37, Tryz.ntmps37
  go_wp2_with fail
  refine hO.mono ?_
  rintro e w1 ⟨y, f, rfl, hOp, hb1⟩
  obtain ⟨rfl, rfl⟩ := hOp.no HS.out
  have HB1 := Lib.hid hb1
  clear hO hOp hb1
  go_wp2_with fail
  go_ret2
  exact ⟨rfl, HB1.out⟩

set_option maxHeartbeats 1600000 in
theorem bget_body {x : List UInt8} {v : Value} (w : World) (hv : Bs w v x) (h4 : 4 ≤ x.length) (hl : x.length ≤ 140737488355320) (hs : tailOf x = crcOf (bodyOf x)) :
    Calls Tryz.prog 37 #[v] w fun e w' => Below w.heap.size w w' ∧ ((getB (bodyOf x) = none ∧ e = .returned (.tuple #[.pointer none, code 2])) ∨
      ∃ (g : Nat) (F : Nat → Prop) (b : Bl), getB (bodyOf x) = some b ∧ e = .returned (.tuple #[.pointer (some ⟨g, 0, none⟩), .nilIface]) ∧ PBt w' F g b ∧ ∀ q, F q → w.heap.size ≤ q) := by
  have HS := Lib.hid hs
  have hO := open_long x v w h4 (by omega) hv
  have hcl := bodyOf_length x
  clear hs
  obtain ⟨c, hcb⟩ : ∃ c, bodyOf x = c := ⟨_, rfl⟩
  have HC := Lib.hid hcb
  rw [hcb] at hcl ⊢
  have hcle : c.length ≤ 140737488355320 := by omega
  clear hcb h4 hcl
  obtain ⟨p1, hp1⟩ : ∃ p, p = wNext c 0 false 1 := ⟨_, rfl⟩
  obtain ⟨b1, hb1⟩ : ∃ b, b = !wordOk c 0 false 1 := ⟨_, rfl⟩
  obtain ⟨p2, hp2⟩ : ∃ p, p = wNext c p1 b1 1 := ⟨_, rfl⟩
  obtain ⟨b2, hb2⟩ : ∃ b, b = !wordOk c p1 b1 1 := ⟨_, rfl⟩
  obtain ⟨p3, hp3⟩ : ∃ p, p = wNext c p2 b2 2 := ⟨_, rfl⟩
  obtain ⟨b3, hb3⟩ : ∃ b, b = !wordOk c p2 b2 2 := ⟨_, rfl⟩
  have hw := words3 c p1 p2 b1 b2 hp1 hb1 hp2 hb2
  have hW1 := fun (g : Nat) (y : Value) (u : World) (h : WR u g y c 0 false) => word_all g y c 0 false 1 u h
  have hW2 := fun (g : Nat) (y : Value) (u : World) (h : WR u g y c p1 b1) => word_all g y c p1 b1 1 u h
  have hW3 := fun (g : Nat) (y : Value) (u : World) (h : WR u g y c p2 b2) => word_all g y c p2 b2 2 u h
  rw [← hp1, ← hb1] at hW1
  rw [← hp2, ← hb2] at hW2
  rw [← hp3, ← hb3] at hW3
  rw [← hp3] at hw
  generalize wOut c 0 false 1 = o1 at *
  generalize wOut c p1 b1 1 = o2 at *
  generalize wOut c p2 b2 2 = o3 at *
  obtain ⟨hshort, hlong, ho1, ho2, ho3⟩ := hw
  have HW1 := Lib.hid hW1
  have HW2 := Lib.hid hW2
  have HW3 := Lib.hid hW3
  have HSh := Lib.hid hshort
  have HLo := Lib.hid hlong
  clear hW1 hW2 hW3 hp1 hp2 hp3 hb1 hb2 hb3 hshort hlong
  go_enter Tryz.func37, Tryz.ntmps37
  go_wp2_with fail
  refine hO.mono ?_
  rintro e w1 ⟨y, f, rfl, hOp, hb1⟩
  obtain ⟨rfl, hoy⟩ := hOp.yes HS.out
  rw [HC.out] at hoy
  have HB1 := Lib.hid hb1
  have HOy := Lib.hid hoy
  have hbs := hoy.bs
  clear hO hOp hb1 hoy
  go_wp2_with fail
  refine (read_any y c w1 hbs).mono ?_
  rintro e w2 ⟨rfl, hR2, hb2⟩
  have HB2 := Lib.hid (HB1.out.trans (hb2.mono HB1.out.size))
  have HOy2 := Lib.hid (HOy.out.below hb2)
  have HZ := Lib.hid HB1.out.size
  generalize hr : w1.heap.size = r at *
  have HR : Hid (w.heap.size ≤ r) := Lib.hid (hr ▸ HB1.out.size)
  have HRne : Hid (∀ z, y.ownBlock = some z → z ≠ r) := Lib.hid fun z hz e => by
    have := HOy.out.blk_lt z hz
    omega
  clear hr HB1 HOy hb2 HZ hbs
  have hC := HW1.out r y w2 hR2
  clear hR2
  go_wp2_with fail
  refine hC.mono ?_
  rintro e w3 ⟨rfl, hR3, hg3⟩
  have HB3 := Lib.hid (HB2.out.grown hg3 HB2.out.size (by intro k hk; injection hk with hk; rw [← hk]; exact HR.out))
  have HOy3 := Lib.hid (HOy2.out.kept hg3 (.inr fun e => HRne.out r e rfl))
  clear hC hg3 HB2 HOy2
  have hC := HW2.out r y w3 hR3
  clear hR3
  go_wp2_with fail
  refine hC.mono ?_
  rintro e w4 ⟨rfl, hR4, hg4⟩
  have HB4 := Lib.hid (HB3.out.grown hg4 HB3.out.size (by intro k hk; injection hk with hk; rw [← hk]; exact HR.out))
  have HOy4 := Lib.hid (HOy3.out.kept hg4 (.inr fun e => HRne.out r e rfl))
  clear hC hg4 HB3 HOy3
  have hC := HW3.out r y w4 hR4
  clear hR4
  go_wp2_with fail
  refine hC.mono ?_
  rintro e w5 ⟨rfl, hR5, hg5⟩
  have HB5 := Lib.hid (HB4.out.grown hg5 HB4.out.size (by intro k hk; injection hk with hk; rw [← hk]; exact HR.out))
  have HOy5 := Lib.hid (HOy4.out.kept hg5 (.inr fun e => HRne.out r e rfl))
  have HR5 := Lib.hid hR5
  clear hC hg5 HB4 HOy4 hR5
  cases hr : rightI o1 o3 o2 with
  | false =>
    have HN : Hid (getB c = none) := Lib.hid (by
      unfold getB
      split
      · rfl
      · rename_i h
        obtain ⟨e1, e2, e3, _⟩ := HLo.out (by omega)
        simp only
        rw [← e1, ← e2, ← e3, hr]
        rfl)
    have hC := bnew_bad w5 hr
    clear hr
    go_wp2_with fail
    refine hC.mono ?_
    rintro e w6 ⟨rfl, hb6⟩
    have HB6 := Lib.hid (HB5.out.trans (hb6.mono HB5.out.size))
    clear hC hb6
    go_wp2_with fail
    go_quiet (fail)
    go_wp2_with fail
    go_ret2
    exact ⟨below_drewN HB6.out _, .inl ⟨HN.out, rfl⟩⟩
  | true =>
    have h4 : 4 ≤ c.length := by
      rcases Nat.lt_or_ge c.length 4 with h | h
      · have h1 := HSh.out h
        have h2 := rightI_iff.1 hr
        omega
      · exact h
    obtain ⟨e1, e2, e3, e4⟩ := HLo.out h4
    subst e4
    have HE := Lib.hid (And.intro e1 (And.intro e2 e3))
    have hC := bnew_ok w5 hr
    have HRt := Lib.hid hr
    have hm : o1 * o3 ≤ 65536 := (Bl.new_ok hr).most
    obtain ⟨m, hm0⟩ : ∃ m, o1 * o3 = m := ⟨_, rfl⟩
    obtain ⟨n, hn0⟩ : ∃ n, m / 8 = n := ⟨_, rfl⟩
    have HN : Hid (Bl.new o1 o3 o2 = ⟨o1, o3, o2, List.replicate n 0⟩) := Lib.hid (by rw [Bl.new, hm0, hn0])
    have HMN := Lib.hid (And.intro hm0 hn0)
    rw [hm0] at hm hC
    rw [hn0] at hC
    clear e1 e2 e3 hr hn0 hm0
    go_wp2_with fail
    refine hC.mono ?_
    rintro e w6 ⟨g, F, rfl, hP6, hb6, hF6⟩
    rw [HN.out] at hP6
    have HB6 := Lib.hid (HB5.out.trans (hb6.mono HB5.out.size))
    have HF := Lib.hid hF6
    have HP6 := Lib.hid hP6
    have hR6 := HR5.out.below hb6
    have HOy6 := Lib.hid (HOy5.out.below hb6)
    have k3 := hP6.blk.cell 3
    have hl3 : (List.replicate n (0 : UInt8)).length = n := List.length_replicate
    simp only [hl3] at k3
    simp at k3
    clear hC hb6 hF6 hP6
    by_cases hln : c.length = 4 + n
    · have HG : Hid (getB c = some ⟨o1, o3, o2, c.drop 4⟩) := Lib.hid (by
        unfold getB
        obtain ⟨e1, e2, e3⟩ := HE.out
        obtain ⟨m1, m2⟩ := HMN.out
        rw [if_neg (by omega)]
        simp only
        rw [← e1, ← e2, ← e3, HRt.out, m1, m2, hln]
        simp)
      obtain ⟨A, cy, rfl, hc1, hc2, hr, _⟩ := HOy6.out.form
      obtain ⟨V, hsl, hV, hVb⟩ := slice_bytes_from (P := Tryz.prog) w6 byteT elemB hr hc1 hc2 4 (by omega) 4 rfl
      have hne : ((c.length : Int) - ((4 : Nat) : Int) != (n : Int)) = false := by
        rw [bne_eq_false_iff_eq]
        omega
      have HLN := Lib.hid hln
      clear hln
      go_wp2_with fail
      go_quiet ((go_at_call 75; exact Calls.quiet_of (left_any _ _ _ _ _ _ (hR6.drewN _))))
      have hb7 := below_drewN (Below.refl w6.heap.size w6) nq
      have hV7 := hV.below hb7
      generalize w6.drewN nq = w7 at *
      have HB7 := Lib.hid (HB6.out.trans (hb7.mono HB6.out.size))
      have HP7 := Lib.hid (HP6.out.later hb7)
      have k3' := HP7.out.blk.cell 3
      simp only [hl3] at k3'
      simp at k3'
      have HV := Lib.hid hV7
      clear hb7 hV hV7 k3 hR6 hr hVb
      go_wp2_with fail
      clear hne
      go_still_tail 6, (by kernel_rfl)
      change wpList _ _ _ _ _ w7.drew
      have ho7 : Own w7.drew 0 5 (.slice (some ⟨g + 1, 0, none⟩) n n) (List.replicate n 0) := by
        have := HP7.out.own
        simp only [hl3] at this
        exact this
      refine wpList_copy_bytes _ byteT rfl _ _ rfl 0 (.slice (some ⟨g + 1, 0, none⟩) n n) _ rfl ho7 V _ rfl (show Bs w7.drew _ _ from HV.out) ?_
      intro nv w8 hown8 hg8
      have hdl : (c.drop 4).length = n := by rw [List.length_drop]; have := HLN.out; omega
      have he := fill_all (c.drop 4) n hdl
      rw [he] at hown8
      have hg8' : w7.grownBy w8 (some (g + 1)) := grown_drew_left hg8
      have hB8 : Below w.heap.size w w8 := HB7.out.grown hg8' HB7.out.size (by
        intro k hk
        injection hk with hk
        have := HF.out (g + 1) ((HP7.out.F _).2 (.inr rfl))
        have := HB5.out.size
        omega)
      have hP8 : PBq w8 F g (g + 1) n ⟨o1, o3, o2, c.drop 4⟩ := by
        have hok := HP7.out.ok
        refine ⟨⟨hok.s1, hok.s2, hok.b1, hok.b2, hok.b8, hok.h1, hok.h2, hdl.trans (hl3.symm.trans hok.len)⟩, ?_, ?_, HP7.out.ne, HP7.out.F⟩
        · have hk := HP7.out.blk
          simp only [hl3] at hk
          simp only [hdl]
          exact hk.grown hg8' (fun e => by injection e with e; omega)
        · simp only [hdl]
          exact hown8
      have HB8 := Lib.hid hB8
      have HP8 := Lib.hid hP8
      clear hg8 hg8' hown8 ho7 hB8 hP8 he hdl
      go_wp2_with fail
      go_ret2
      exact ⟨HB8.out, .inr ⟨g, F, _, HG.out, rfl, ⟨_, _, HP8.out⟩, fun q hq => Nat.le_trans HB5.out.size (HF.out q hq)⟩⟩
    · have HG : Hid (getB c = none) := Lib.hid (by
        unfold getB
        obtain ⟨e1, e2, e3⟩ := HE.out
        obtain ⟨m1, m2⟩ := HMN.out
        rw [if_neg (by omega)]
        simp only
        rw [← e1, ← e2, ← e3, m1, m2, decide_eq_false hln, Bool.and_false]
        rfl)
      have hne : ((c.length : Int) - ((4 : Nat) : Int) != (n : Int)) = true := by
        rw [bne_iff_ne]
        omega
      go_wp2_with fail
      go_quiet ((go_at_call 75; exact Calls.quiet_of (left_any _ _ _ _ _ _ (hR6.drewN _))))
      go_wp2_with fail
      go_ret2
      exact ⟨below_drewN HB6.out _, .inl ⟨HG.out, rfl⟩⟩

theorem bget_any {x : List UInt8} {v : Value} (w : World) (hv : Bs w v x) (hl : x.length ≤ 140737488355320) :
    Calls Tryz.prog 37 #[v] w fun e w' => Below w.heap.size w w' ∧ ((∃ n : Nat, getX x = .error n ∧ e = .returned (.tuple #[.pointer none, code n])) ∨
      ∃ (g : Nat) (F : Nat → Prop) (b : Bl), getX x = .ok b ∧ e = .returned (.tuple #[.pointer (some ⟨g, 0, none⟩), .nilIface]) ∧ PBt w' F g b ∧ ∀ q, F q → w.heap.size ≤ q) := by
  rcases Nat.lt_or_ge x.length 4 with h4 | h4
  · exact (bget_short w hv h4).mono fun e w' h => ⟨h.2, .inl ⟨2, getX_short h4, h.1⟩⟩
  · by_cases hs : tailOf x = crcOf (bodyOf x)
    · refine (bget_body w hv h4 hl hs).mono ?_
      rintro e w' ⟨hb, ⟨hg, he⟩ | ⟨g, F, b, hg, he, hp, hF⟩⟩
      · exact ⟨hb, .inl ⟨2, getX_form h4 hs hg, he⟩⟩
      · exact ⟨hb, .inr ⟨g, F, b, getX_ok h4 hs hg, he, hp, hF⟩⟩
    · exact (bget_sum w hv h4 hl hs).mono fun e w' h => ⟨h.2, .inl ⟨7, getX_sum h4 hs, h.1⟩⟩

end Go.Proofs.YtfaefacefdkjdaaGreatDoor
