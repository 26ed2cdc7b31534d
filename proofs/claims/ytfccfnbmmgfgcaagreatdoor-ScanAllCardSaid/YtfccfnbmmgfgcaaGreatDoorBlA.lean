/-
  A FILTER OF TRACES, PLAINLY: its bits, an Id's places, what is added, its bytes, and what bytes are one's. No condition but what each theorem says.
  WHAT A FILTER OF THE PROGRAM IS TO KEEP ('BloomK', over the plain Bl); the head of layer 11's statements, walked over it. No condition but what each theorem says.
  THE PROGRAM's FILTER in memory ('PBt'), and CONTRACTS of what its calls call. Conditions: what each says.
  THE PROGRAM's FILTER: its places (a closure sees them), New, Add, Has. Conditions: what each says.
  THE PROGRAM's FILTER: CONTRACTS of New, Add, Has. Conditions: what each says.
  THE PROGRAM's FILTER: CONTRACTS of New, Add, Has. Conditions: what each says.
  THE PROGRAM's FILTER: CONTRACTS of New, Bytes. Conditions: what each says.
  THE PROGRAM's FILTER: the CONTRACT of Bytes; what three words of bytes are. Conditions: what each says.
  THE PROGRAM's FILTER: the CONTRACT of Get. Conditions: what each says.
-/
import Derived.Test.YtfccfnbmmgfgcaaGreatDoorCrcA
import Derived.Test.YtfccfnbmmgfgcaaGreatDoorMore
import Derived.Lib.Hide
import Derived.Test.YtfccfnbmmgfgcaaGreatDoorKee
import Derived.Test.YtfccfnbmmgfgcaaGreatDoorMix
import Derived.Outline
import Derived.Deep.QuietTactic
import Derived.BigQuiet
import Derived.WalkSpells
import Derived.Laws.ShiftsVarLaws
import Derived.Deep.DeepCutAuto
import Derived.Laws.BitsAllLaws
import Derived.StillTailTactics
namespace Go.Proofs.YtfccfnbmmgfgcaaGreatDoor
open Go.RowKit

def bitAt (l : List UInt8) (p : Nat) : Bool := decide ((l.getD (p / 8) 0).toNat / 2 ^ (p % 8) % 2 = 1)
theorem bitAt_test (l : List UInt8) (p : Nat) : bitAt l p = (l.getD (p / 8) 0).toNat.testBit (p % 8) := by
  rw [Nat.testBit_eq_decide_div_mod_eq]
  rfl
def orBit (x : UInt8) (i : Nat) : UInt8 := UInt8.ofNat (x.toNat ||| 2 ^ i)
theorem orBit_toNat (x : UInt8) (i : Nat) (hi : i < 8) : (orBit x i).toNat = x.toNat ||| 2 ^ i := by
  have h1 : x.toNat < 2 ^ 8 := x.toNat_lt
  have h2 : 2 ^ i < 2 ^ 8 := Nat.pow_lt_pow_right (by omega) hi
  have h3 := Nat.or_lt_two_pow h1 h2
  unfold orBit
  rw [UInt8.toNat_ofNat']
  exact Nat.mod_eq_of_lt h3
def setBit (l : List UInt8) (p : Nat) : List UInt8 := l.set (p / 8) (orBit (l.getD (p / 8) 0) (p % 8))
theorem setBit_length (l : List UInt8) (p : Nat) : (setBit l p).length = l.length := by simp [setBit]
theorem bitAt_setBit (l : List UInt8) (p q : Nat) (hp : p / 8 < l.length) : bitAt (setBit l p) q = (decide (q = p) || bitAt l q) := by
  rw [bitAt_test, bitAt_test]
  unfold setBit
  by_cases he : q / 8 = p / 8
  · rw [he, List.getD_eq_getElem?_getD, List.getElem?_set_self hp, Option.getD_some, orBit_toNat _ _ (Nat.mod_lt _ (by omega)), Nat.testBit_or, Nat.testBit_two_pow]
    by_cases hm : q % 8 = p % 8
    · have : q = p := by omega
      subst this
      simp
    · have h1 : ¬ q = p := fun e => hm (by rw [e])
      have h2 : ¬ p % 8 = q % 8 := fun e => hm e.symm
      simp [h1, h2]
  · have h1 : ¬ q = p := fun e => he (by rw [e])
    rw [List.getD_eq_getElem?_getD, List.getElem?_set_ne (fun e => he e.symm), ← List.getD_eq_getElem?_getD]
    simp [h1]

structure Bl where
  sh : Nat
  bits : Nat
  hs : Nat
  set : List UInt8

def rightI (s b h : Int) : Bool := decide (1 ≤ s ∧ s ≤ 16 ∧ 8 ≤ b ∧ b ≤ 4096 ∧ b % 8 = 0 ∧ 1 ≤ h ∧ h ≤ 8)
theorem rightI_iff {s b h : Int} : rightI s b h = true ↔ (1 ≤ s ∧ s ≤ 16 ∧ 8 ≤ b ∧ b ≤ 4096 ∧ b % 8 = 0 ∧ 1 ≤ h ∧ h ≤ 8) := by simp [rightI]
theorem rightI_not {s b h : Int} (e : rightI s b h = false) : ¬ (1 ≤ s ∧ s ≤ 16 ∧ 8 ≤ b ∧ b ≤ 4096 ∧ b % 8 = 0 ∧ 1 ≤ h ∧ h ≤ 8) := fun h' => by
  rw [rightI_iff.2 h'] at e
  cases e

structure Bl.Ok (b : Bl) : Prop where
  s1 : 1 ≤ b.sh
  s2 : b.sh ≤ 16
  b1 : 8 ≤ b.bits
  b2 : b.bits ≤ 4096
  b8 : b.bits % 8 = 0
  h1 : 1 ≤ b.hs
  h2 : b.hs ≤ 8
  len : b.set.length = b.sh * b.bits / 8
theorem Bl.Ok.right {b : Bl} (h : b.Ok) : rightI b.sh b.bits b.hs = true := rightI_iff.2 ⟨by have := h.s1; omega, by have := h.s2; omega, by have := h.b1; omega, by have := h.b2; omega, by have := h.b8; omega, by have := h.h1; omega, by have := h.h2; omega⟩
theorem mul8 {n m : Nat} (h : m % 8 = 0) : n * m % 8 = 0 := by rw [Nat.mul_mod, h]; simp
theorem Bl.Ok.eight {b : Bl} (h : b.Ok) : 8 * b.set.length = b.sh * b.bits := by
  have h1 := h.len
  have h2 : b.sh * b.bits % 8 = 0 := mul8 h.b8
  omega
theorem Bl.Ok.most {b : Bl} (h : b.Ok) : b.sh * b.bits ≤ 65536 := by
  have := Nat.mul_le_mul h.s2 h.b2
  omega
theorem Bl.Ok.len_le {b : Bl} (h : b.Ok) : b.set.length ≤ 8192 := by
  have h1 := h.eight
  have h2 := h.most
  omega

def Bl.new (s b h : Nat) : Bl := ⟨s, b, h, List.replicate (s * b / 8) 0⟩
theorem Bl.new_ok {s b h : Nat} (hr : rightI s b h = true) : (Bl.new s b h).Ok := by
  have := rightI_iff.1 hr
  exact ⟨by show 1 ≤ s; omega, by show s ≤ 16; omega, by show 8 ≤ b; omega, by show b ≤ 4096; omega, by show b % 8 = 0; omega, by show 1 ≤ h; omega, by show h ≤ 8; omega, by simp [Bl.new]⟩
theorem bitAt_zeros (n p : Nat) : bitAt (List.replicate n 0) p = false := by
  have : (List.replicate n (0 : UInt8)).getD (p / 8) 0 = 0 := by
    rw [List.getD_eq_getElem?_getD, List.getElem?_replicate]
    split <;> rfl
  unfold bitAt
  rw [this]
  simp

def sumA (id : Nat) : Nat := crcOf (bet id 8)
def sumB (id : Nat) : Nat := crcOf (bet id 8 ++ [1])
theorem sumA_lt (id : Nat) : sumA id < 4294967296 := crcOf_lt _
theorem sumB_lt (id : Nat) : sumB id < 4294967296 := crcOf_lt _
def Bl.spot (b : Bl) (id i : Nat) : Nat := (sumA id + i * sumB id) % b.bits
def Bl.place (b : Bl) (id i : Nat) : Nat := id % b.sh * b.bits + b.spot id i
theorem Bl.Ok.spot_lt {b : Bl} (h : b.Ok) (id i : Nat) : b.spot id i < b.bits := Nat.mod_lt _ (by have := h.b1; omega)
theorem shard_lt {s b i p : Nat} (hi : i < s) (hp : p < b) : i * b + p < s * b := by
  have := Nat.mul_le_mul_right b (show i + 1 ≤ s by omega)
  rw [Nat.succ_mul] at this
  omega
theorem Bl.Ok.place_lt {b : Bl} (h : b.Ok) (id i : Nat) : b.place id i < b.sh * b.bits :=
  shard_lt (Nat.mod_lt _ (by have := h.s1; omega)) (h.spot_lt id i)
theorem Bl.Ok.place_byte {b : Bl} (h : b.Ok) (id i : Nat) : b.place id i / 8 < b.set.length := by
  have h1 := h.place_lt id i
  have h2 := h.eight
  omega

def Bl.addK (b : Bl) (id : Nat) : Nat → List UInt8
  | 0 => b.set
  | k + 1 => setBit (b.addK id k) (b.place id k)
theorem Bl.addK_length (b : Bl) (id k : Nat) : (b.addK id k).length = b.set.length := by
  induction k with
  | zero => rfl
  | succ k ih => rw [Bl.addK, setBit_length, ih]
def Bl.add (b : Bl) (id : Nat) : Bl := { b with set := b.addK id b.hs }
theorem Bl.Ok.add {b : Bl} (h : b.Ok) (id : Nat) : (b.add id).Ok := ⟨h.s1, h.s2, h.b1, h.b2, h.b8, h.h1, h.h2, (b.addK_length id _).trans h.len⟩
theorem Bl.Ok.bit_addK {b : Bl} (h : b.Ok) (id k q : Nat) : bitAt (b.addK id k) q = ((List.range k).any (fun i => decide (q = b.place id i)) || bitAt b.set q) := by
  induction k with
  | zero => simp [Bl.addK]
  | succ k ih =>
    rw [Bl.addK, bitAt_setBit _ _ _ (by rw [Bl.addK_length]; exact h.place_byte id k), ih, List.range_succ, List.any_append, List.any_cons, List.any_nil]
    cases decide (q = b.place id k) <;> simp
def Bl.hasK (b : Bl) (id : Nat) : Nat → Bool
  | 0 => true
  | k + 1 => b.hasK id k && bitAt b.set (b.place id k)
def Bl.has (b : Bl) (id : Nat) : Bool := b.hasK id b.hs
theorem Bl.hasK_iff (b : Bl) (id k : Nat) : b.hasK id k = true ↔ ∀ i, i < k → bitAt b.set (b.place id i) = true := by
  induction k with
  | zero => simp [Bl.hasK]
  | succ k ih =>
    rw [Bl.hasK, Bool.and_eq_true, ih]
    constructor
    · rintro ⟨h1, h2⟩ i hi
      rcases Nat.lt_or_ge i k with h | h
      · exact h1 i h
      · rw [show i = k by omega]
        exact h2
    · exact fun h => ⟨fun i hi => h i (by omega), h k (by omega)⟩
theorem Bl.Ok.has_add {b : Bl} (h : b.Ok) (id : Nat) : (b.add id).has id = true :=
  (Bl.hasK_iff _ _ _).2 fun i (hi : i < b.hs) => by
    show bitAt (b.addK id b.hs) (b.place id i) = true
    rw [h.bit_addK, Bool.or_eq_true]
    exact .inl (List.any_eq_true.2 ⟨i, List.mem_range.2 hi, by simp⟩)
def Bl.adds (b : Bl) (l : List Nat) : Bl := l.foldl Bl.add b
theorem Bl.adds_snoc (b : Bl) (l : List Nat) (x : Nat) : b.adds (l ++ [x]) = (b.adds l).add x := by simp [Bl.adds]
theorem Bl.Ok.adds {b : Bl} (h : b.Ok) (l : List Nat) : (b.adds l).Ok := by
  induction l generalizing b with
  | nil => exact h
  | cons x l ih => exact ih (h.add x)
def Bl.head (b : Bl) : List UInt8 := bet b.sh 1 ++ bet b.hs 1 ++ bet b.bits 2
def Bl.body (b : Bl) : List UInt8 := b.head ++ b.set
def Bl.bytes (b : Bl) : List UInt8 := sealedOf b.body
theorem Bl.head_length (b : Bl) : b.head.length = 4 := by simp [Bl.head, bet_length]
theorem Bl.body_length (b : Bl) : b.body.length = b.set.length + 4 := by rw [Bl.body, List.length_append, Bl.head_length]; omega

def getB (c : List UInt8) : Option Bl :=
  if c.length < 4 then none else
    let b : Bl := ⟨num (c.take 1), num ((c.drop 2).take 2), num ((c.drop 1).take 1), c.drop 4⟩
    if rightI b.sh b.bits b.hs && decide (c.length = 4 + b.sh * b.bits / 8) then some b else none
theorem Bl.Ok.get {b : Bl} (h : b.Ok) : getB b.body = some b := by
  have hs1 : num (bet b.sh 1) = b.sh := num_bet 1 _ (by have := h.s2; omega)
  have hs2 : num (bet b.hs 1) = b.hs := num_bet 1 _ (by have := h.h2; omega)
  have hs3 : num (bet b.bits 2) = b.bits := num_bet 2 _ (by have := h.b2; omega)
  obtain ⟨x, hx⟩ : ∃ x, bet b.sh 1 = [x] := List.length_eq_one_iff.1 (bet_length _ _)
  obtain ⟨y, hy⟩ : ∃ y, bet b.hs 1 = [y] := List.length_eq_one_iff.1 (bet_length _ _)
  obtain ⟨z0, z1, hz⟩ : ∃ z0 z1, bet b.bits 2 = [z0, z1] := by
    have hh := bet_length b.bits 2
    generalize bet b.bits 2 = m at hh
    match m, hh with
    | [a, c], _ => exact ⟨a, c, rfl⟩
  have e : b.body = x :: y :: z0 :: z1 :: b.set := by simp [Bl.body, Bl.head, hx, hy, hz]
  have hl := h.len
  have hr := h.right
  rw [hx] at hs1
  rw [hy] at hs2
  rw [hz] at hs3
  unfold getB
  rw [e]
  simp only [List.length_cons, List.take_succ_cons, List.take_zero, List.drop_succ_cons, List.drop_zero, hs1, hs2, hs3, hr, Bool.true_and]
  rw [if_neg (by omega), if_pos (by simp; omega)]

set_option maxRecDepth 100000

theorem Bs.lit1 (w : World) (z : UInt8) (u : Value) (e : TypeId) (h : u = .int .u8 (z.toNat : Int)) : Bs (w.alloc (.cells #[u] e)) (.slice (some ⟨w.heap.size, 0, none⟩) 1 1) [z] :=
  ⟨_, 1, rfl, Nat.le_refl _, by omega, Rd.one w u e h⟩

structure PBq (w : World) (F : Nat → Prop) (g q c : Nat) (b : Bl) : Prop where
  ok : b.Ok
  blk : Blk w g 201 #[.int .u64 (b.sh : Int), .int .u64 (b.bits : Int), .int .u64 (b.hs : Int), .slice (some ⟨q, 0, none⟩) b.set.length c]
  own : Own w 0 5 (.slice (some ⟨q, 0, none⟩) b.set.length c) b.set
  ne : q ≠ g
  F : ∀ z, F z ↔ z = g ∨ z = q
def PBt (w : World) (F : Nat → Prop) (g : Nat) (b : Bl) : Prop := ∃ q c, PBq w F g q c b
section
variable {w w' : World} {F : Nat → Prop} {g q c : Nat} {b : Bl}
theorem PBq.keep (h : PBq w F g q c b) (ha : Apt (fun z => ¬ F z) w w') : PBq w' F g q c b :=
  ⟨h.ok, (ha.block g h.blk.lt fun hn => hn ((h.F g).2 (.inl rfl))).trans h.blk, h.own.apt ha fun z hz hn => hn ((h.F z).2 (.inr (by simpa [Value.ownBlock] using hz.symm))), h.ne, h.F⟩
theorem PBq.later (h : PBq w F g q c b) (hb : Below w.heap.size w w') : PBq w' F g q c b := h.keep (Apt.of_below hb)
theorem PBq.qlt (h : PBq w F g q c b) : q < w.heap.size := h.own.blk_lt q rfl
theorem PBt.thing (g : Nat) (b : Bl) : Thing fun w F => PBt w F g b where
  keep := fun ⟨q, c, h⟩ ha => ⟨q, c, h.keep ha⟩
  lt := fun ⟨_, _, h⟩ z hz => ((h.F z).1 hz).elim (fun e => e ▸ h.blk.lt) fun e => e ▸ h.qlt
end

theorem isAmong_any (n a m : Int) (w : World) : Calls Tryz.prog 125 #[.int .i64 n, .int .i64 a, .int .i64 m] w fun e w' => e = .returned (.bool (decide (a ≤ n) && decide (n ≤ m))) ∧ w = w' := by
  by_cases h1 : a ≤ n
  · by_cases h2 : n ≤ m
    · go_enter Tryz.func125, Tryz.ntmps125
      go_wp2_with fail
      go_ret
      exact ⟨ret_bool (by simp [h1, h2]), rfl⟩
    · go_enter Tryz.func125, Tryz.ntmps125
      go_wp2_with fail
      go_ret
      exact ⟨ret_bool (by simp [h2]), rfl⟩
  · have HN : Hid ((decide (a ≤ n) && decide (n ≤ m)) = false) := Lib.hid (by rw [decide_eq_false h1, Bool.false_and])
    go_enter Tryz.func125, Tryz.ntmps125
    go_wp2_with fail
    go_ret
    exact ⟨ret_bool HN.out.symm, rfl⟩

set_option maxHeartbeats 800000 in
theorem bsums_any (id : Nat) (w : World) (hid : id < 18446744073709551616) : Calls Tryz.prog 176 #[.int .u64 (id : Int)] w fun e w' => e = .returned (.tuple #[.int .u64 (sumA id : Int), .int .u64 (sumB id : Int)]) ∧ Below w.heap.size w w' := by
  have hA := sumA_lt id
  have hB := sumB_lt id
  have hput : putOk 8 (id : Int) = true := by simp [putOk, isW]; omega
  have hP := put_ok [] (.slice none 0 0) 8 (id : Int) w (by omega) hput (by simp) (Bs.nil w)
  rw [List.nil_append, Int.toNat_natCast, show Int.toNat 8 = 8 from rfl] at hP
  have HE : Hid (crcOn (crcOf (bet id 8)) [1] = sumB id) := Lib.hid (crcOn_of _ _)
  have HA : Hid (crcOf (bet id 8) = sumA id) := Lib.hid rfl
  clear hput
  go_enter Tryz.func176, Tryz.ntmps176
  go_wp2_with fail
  refine hP.mono ?_
  rintro e w1 ⟨v1, rfl, hown1, hb1⟩
  have HB1 := Lib.hid hb1
  have hS := sum_any (bet id 8) v1 w1 hown1.bs
  rw [HA.out] at hS
  clear hP hown1 hb1
  go_wp2_with fail
  refine hS.mono ?_
  rintro e w2 ⟨rfl, rfl⟩
  clear hS
  go_wp2_with fail
  refine (on_any (sumA id : Int) [1] _ _ (by omega) (by omega) (Bs.lit1 _ 1 _ _ rfl)).mono ?_
  rintro e w2 ⟨rfl, rfl⟩
  rw [Int.toNat_natCast, ← HA.out, HE.out, HA.out]
  go_wp2_with fail
  go_ret2
  exact ⟨rfl, HB1.out.alloc HB1.out.size _⟩

theorem shl_bit' (p : Nat) : (2 : Int) ^ (p % 8) % 256 = ((2 ^ (p % 8) : Nat) : Int) := by
  have h2 : 2 ^ (p % 8) < 2 ^ 8 := Nat.pow_lt_pow_right (by omega) (by omega)
  have h3 : ((2 : Int) ^ (p % 8)) = ((2 ^ (p % 8) : Nat) : Int) := by simp
  rw [h3]
  generalize 2 ^ (p % 8) = z at h2 ⊢
  omega

set_option maxHeartbeats 1600000 in
theorem places_any {w : World} {g : Nat} {b : Bl} (hok : b.Ok) (id : Nat) (hid : id < 18446744073709551616) (fn : FuncId) (cap : Array Value) (heg : ∀ args v, (callFunc fn args).run Tryz.prog v = .ok (.enter fn args) v) (Inv : Nat → World → Prop)
    (hrow : ∀ k u, Inv k u → ∃ v, Blk u g 201 #[.int .u64 (b.sh : Int), .int .u64 (b.bits : Int), .int .u64 (b.hs : Int), v])
    (h0 : ∀ u, Below w.heap.size w u → Inv 0 u)
    (hstep : ∀ k u, k < b.hs → Inv k u → Calls Tryz.prog fn (#[.int .u64 ((b.place id k / 8 : Nat) : Int), .int .u8 ((2 ^ (b.place id k % 8) : Nat) : Int)] ++ cap) u fun e u' => e = .returned (.tuple #[]) ∧ Inv (k + 1) u') :
    Calls Tryz.prog 159 #[.pointer (some ⟨g, 0, none⟩), .int .u64 (id : Int), .func (.func fn) #[] cap] w fun e w' => e = .returned (.tuple #[]) ∧ Inv b.hs w' := by
  have hA := sumA_lt id
  have hB := sumB_lt id
  have hs1 := hok.s1
  have hs2 := hok.s2
  have hb1 := hok.b1
  have hb2 := hok.b2
  have hh2 := hok.h2
  obtain ⟨x, hx⟩ : ∃ x, id % b.sh = x := ⟨_, rfl⟩
  have hxl : x < b.sh := hx ▸ Nat.mod_lt _ (by omega)
  obtain ⟨y, hy⟩ : ∃ y, x * b.bits = y := ⟨_, rfl⟩
  have hyl : y ≤ 65536 := by
    have := Nat.mul_le_mul (show x ≤ 16 by omega) hb2
    omega
  have hx' : (id : Int) % (b.sh : Int) = (x : Int) := by rw [← hx]; omega
  have hy' : (x : Int) * (b.bits : Int) = (y : Int) := by rw [← hy]; simp
  have HR := Lib.hid hrow
  have H0 := Lib.hid h0
  have HS := Lib.hid hstep
  have HX : Hid (∀ k, b.place id k = y + (sumA id + k * sumB id) % b.bits) := Lib.hid fun k => by rw [Bl.place, Bl.spot, hx, hy]
  clear hrow h0 hstep hok hx hy
  generalize b.place id = pl at *
  go_enter Tryz.func159, Tryz.ntmps159
  go_wp2_with fail
  refine (bsums_any id _ hid).mono ?_
  rintro e w1 ⟨rfl, hb1'⟩
  have HB := Lib.hid hb1'
  obtain ⟨v, hv⟩ := HR.out 0 w1 (H0.out w1 hb1')
  have k0 := hv.cell 0
  have k1 := hv.cell 1
  have k2 := hv.cell 2
  simp at k0 k1 k2
  clear hb1' hv
  go_wp2_with fail
  go_quiet (fail)
  have hb2' := below_drewN (Below.refl w1.heap.size w1) nq
  generalize w1.drewN nq = w2 at *
  have HI0 := Lib.hid (H0.out w2 (HB.out.trans (hb2'.mono HB.out.size)))
  clear hb2' k0 k1 k2
  obtain ⟨v', hv⟩ := HR.out 0 w2 HI0.out
  have k2 := hv.cell 2
  simp at k2
  clear hv
  go_wp2_with fail
  clear hx' hy'
  go_loopg [6, 30] b.hs (fun gk av iv wr => ∃ k a : Nat, k + gk = b.hs ∧ a ≤ 4294967296 * (k + 1) ∧ av = .int .u64 (a : Int) ∧ iv = .int .u64 (k : Int) ∧ Hid (a = sumA id + k * sumB id ∧ Inv k wr))
  case atStart => exact ⟨0, sumA id, by omega, by omega, rfl, rfl, Lib.hid ⟨by omega, HI0.out⟩⟩
  case round =>
    obtain ⟨k, a, hk, ha, rfl, rfl, HM⟩ := hrel
    clear k2
    by_cases hlt : k < b.hs
    · obtain ⟨gk1, hgk1⟩ : ∃ x, gk = x + 1 := ⟨gk - 1, by omega⟩
      obtain ⟨v2, hv2⟩ := HR.out k wr HM.out.2
      have k1 := hv2.cell 1
      simp at k1
      obtain ⟨s, hs⟩ : ∃ s, a % b.bits = s := ⟨_, rfl⟩
      have hsl : s < b.bits := hs ▸ Nat.mod_lt _ (by omega)
      have hs' : (a : Int) % (b.bits : Int) = (s : Int) := by rw [← hs]; omega
      have HP : Hid (pl k = y + s) := Lib.hid (by rw [HX.out, ← HM.out.1, hs])
      have hS := HS.out k wr hlt HM.out.2
      rw [HP.out, show (((y + s) / 8 : Nat) : Int) = ((y : Int) + (s : Int)) / 8 by omega] at hS
      have HSH := Lib.hid (shl_bit' (y + s))
      clear hv2 hs
      go_wp2_with fail
      rw [HSH.out]
      refine hS.mono ?_
      rintro e w3 ⟨rfl, hI3⟩
      have HI3 := Lib.hid hI3
      clear hS hI3 hs' k1
      go_wp2_with fail
      go_roundg gk1
      case measure => omega
      case rel => exact ⟨k + 1, a + sumB id, by omega, by omega, by go_num, by go_num, Lib.hid ⟨by rw [Nat.succ_mul]; have := HM.out.1; omega, HI3.out⟩⟩
    · have hkn : k = b.hs := by omega
      subst hkn
      clear hlt
      obtain ⟨v2, hv2⟩ := HR.out _ wr HM.out.2
      go_wp2_with fail
      refine bodyPost_end (results_none rfl _ _ _) rfl ?_
      exact ⟨rfl, HM.out.2⟩

theorem bit_lt (p m : Nat) (hm : m = 2 ^ (p % 8)) : m < 256 := by
  have h2 : 2 ^ (p % 8) < 2 ^ 8 := Nat.pow_lt_pow_right (by omega) (Nat.mod_lt _ (by omega))
  omega
theorem or_bit (l : List UInt8) (p m : Nat) (hm : m = 2 ^ (p % 8)) : bits .or .u8 ((l.getD (p / 8) 0).toNat : Int) (m : Int) = ((orBit (l.getD (p / 8) 0) (p % 8)).toNat : Int) := by
  rw [u8_or_nat _ _ (UInt8.toNat_lt _) (bit_lt p m hm), orBit_toNat _ _ (Nat.mod_lt _ (by omega)), hm]

section
variable {w w' u : World} {F : Nat → Prop} {g q c : Nat} {b : Bl}
theorem PBq.byte (h : PBq u F g q c b) {j : Nat} (hj : j < b.set.length) : u.cell? ⟨q, j, none⟩ = some (.int .u8 ((b.set.getD j 0).toNat : Int)) ∧ u.frozen? ⟨q, j, none⟩ = false := by
  obtain ⟨q', yn, e, _, _, _, hf⟩ := h.own.byte hj
  injection e with e
  injection e with e
  subst e
  refine ⟨?_, hf⟩
  have h1 := h.own.rd.cells j (.int .u8 ((b.set.getD j 0).toNat : Int)) (by rw [BV_getElem?, List.getElem?_eq_getElem hj, List.getD_eq_getElem?_getD, List.getElem?_eq_getElem hj]; rfl)
  rw [Addr.add_lit, Nat.zero_add] at h1
  exact h1
theorem PBq.put_ (h : PBq u F g q c b) (j : Nat) (z : UInt8) (b' : Bl) (hb : b' = { b with set := b.set.set j z }) : PBq (u.setCell ⟨q, j, none⟩ (.int .u8 (z.toNat : Int))) F g q c b' ∧ u.grownBy (u.setCell ⟨q, j, none⟩ (.int .u8 (z.toNat : Int))) (some q) := by
  subst hb
  obtain ⟨h1, h2⟩ := h.own.put_ j z
  have hl : (b.set.set j z).length = b.set.length := List.length_set ..
  refine ⟨⟨⟨h.ok.s1, h.ok.s2, h.ok.b1, h.ok.b2, h.ok.b8, h.ok.h1, h.ok.h2, hl.trans h.ok.len⟩, ?_, ?_, h.ne, h.F⟩, h2⟩
  · show Blk _ g _ #[_, _, _, .slice (some ⟨q, 0, none⟩) (b.set.set j z).length c]
    rw [hl]
    exact h.blk.far (fun e => h.ne e.symm) _
  · show Own _ 0 _ (.slice (some ⟨q, 0, none⟩) (b.set.set j z).length c) (b.set.set j z)
    rw [hl]
    exact h1
end

set_option maxHeartbeats 800000 in
theorem addSee_any {u : World} {F : Nat → Prop} {g q c n p m : Nat} {b : Bl} (h : PBq u F g q c b) (hn : u.cell? ⟨n, 0, none⟩ = some (.pointer (some ⟨g, 0, none⟩))) (hp : p / 8 < b.set.length) (hm : m = 2 ^ (p % 8)) :
    Calls Tryz.prog 160 #[.int .u64 ((p / 8 : Nat) : Int), .int .u8 (m : Int), .pointer (some ⟨n, 0, none⟩)] u fun e u' => e = .returned (.tuple #[]) ∧ PBq u' F g q c { b with set := setBit b.set p } ∧ u.grownBy u' (some q) := by
  have k3 := h.blk.cell 3
  simp at k3
  obtain ⟨kb, fb⟩ := h.byte hp
  have hor := or_bit b.set p m hm
  have HP : Hid (PBq (u.setCell ⟨q, p / 8, none⟩ (.int .u8 ((orBit (b.set.getD (p / 8) 0) (p % 8)).toNat : Int))) F g q c { b with set := setBit b.set p } ∧ u.grownBy (u.setCell ⟨q, p / 8, none⟩ (.int .u8 ((orBit (b.set.getD (p / 8) 0) (p % 8)).toNat : Int))) (some q)) := Lib.hid (h.put_ _ _ _ rfl)
  have hm8 := bit_lt p m hm
  have hz := (orBit (b.set.getD (p / 8) 0) (p % 8)).toNat_lt
  have hy := (b.set.getD (p / 8) 0).toNat_lt
  have hlen := h.ok.len_le
  generalize hzz : (orBit (b.set.getD (p / 8) 0) (p % 8)).toNat = z at *
  generalize (b.set.getD (p / 8) 0).toNat = y at *
  generalize hjj : p / 8 = j at *
  clear h hm hzz
  go_enter Tryz.func160, Tryz.ntmps160
  go_wp2_with fail
  refine bodyPost_end (results_none rfl _ _ _) rfl ?_
  exact ⟨rfl, HP.out⟩

theorem enters_addSee (args : Array Value) (w : World) : (callFunc 160 args).run Tryz.prog w = .ok (.enter 160 args) w := rfl

def Bl.upto (b : Bl) (id k : Nat) : Bl := { b with set := b.addK id k }
theorem Bl.upto_place (b : Bl) (id k : Nat) : (b.upto id k).place id k = b.place id k := rfl

structure AddI (w : World) (F : Nat → Prop) (g q c n : Nat) (b : Bl) (id k : Nat) (u : World) : Prop where
  pb : PBq u F g q c (b.upto id k)
  box : u.cell? ⟨n, 0, none⟩ = some (.pointer (some ⟨g, 0, none⟩))
  goes : Goes w F u F
  lt : n < u.heap.size
  ne : n ≠ q

set_option maxHeartbeats 800000 in
theorem badd_any {w : World} {F : Nat → Prop} {g : Nat} {b : Bl} (id : Nat) (hp : PBt w F g b) (hid : id < 18446744073709551616) :
    Calls Tryz.prog 132 #[.pointer (some ⟨g, 0, none⟩), .int .u64 (id : Int)] w fun e w' => e = .returned (.tuple #[]) ∧ ∃ F', PBt w' F' g (b.add id) ∧ Goes w F w' F' := by
  obtain ⟨q, c, h⟩ := hp
  have hql := h.qlt
  have hb1 : Below w.heap.size w (w.alloc (.cells #[.pointer (some ⟨g, 0, none⟩)] 161)) := (Below.refl _ w).alloc (Nat.le_refl _) _
  have hk1 : (w.alloc (.cells #[.pointer (some ⟨g, 0, none⟩)] 161)).cell? ⟨w.heap.size, 0, none⟩ = some (.pointer (some ⟨g, 0, none⟩)) := (Blk.new w 161 #[.pointer (some ⟨g, 0, none⟩)]).cell 0
  have HP := places_any (w := w.alloc (.cells #[.pointer (some ⟨g, 0, none⟩)] 161)) (g := g) h.ok id hid 160 #[.pointer (some ⟨w.heap.size, 0, none⟩)] enters_addSee (AddI w F g q c w.heap.size b id)
    (fun k u hI => ⟨_, hI.pb.blk⟩)
    (fun u hu => ⟨(h.later hb1).later hu, (hu.cell (p := ⟨w.heap.size, 0, none⟩) (by simp)).trans hk1, Goes.of_below (hb1.trans (hu.mono (by simp))), by have := hu.size; simp at this; omega, by omega⟩)
    (fun k u hk hI => (addSee_any hI.pb hI.box (by rw [← Bl.upto_place]; exact hI.pb.ok.place_byte id k) rfl).mono fun e u' ⟨he, h1, h2⟩ => ⟨he, ⟨h1, (World.cell?_of_block (h2.block _ hI.lt (by simpa using hI.ne))).trans hI.box, hI.goes.own h2 ((h.F q).2 (.inr rfl)), Nat.lt_of_lt_of_le hI.lt h2.size, hI.ne⟩⟩)
  have HH := Lib.hid HP
  have hmf : ∀ (fn : Fn) (first cap : Array Value) (w : World), (Instr.makeFunc fn first cap).run Tryz.prog w = .ok (.func fn first cap) w := fun _ _ _ _ => rfl
  clear HP hb1
  go_enter Tryz.func132, Tryz.ntmps132
  go_wp2_with fail
  refine HH.out.mono ?_
  rintro e w1 ⟨rfl, hI⟩
  have HI := Lib.hid hI
  clear hI
  go_wp2_with fail
  refine bodyPost_end (results_none rfl _ _ _) rfl ?_
  exact ⟨rfl, F, ⟨q, c, HI.out.pb⟩, HI.out.goes⟩

set_option maxHeartbeats 800000 in
theorem bnew_bad {s bi h : Int} (w : World) (hr : rightI s bi h = false) : Calls Tryz.prog 94 #[.int .i64 s, .int .i64 bi, .int .i64 h] w fun e w' => e = .returned (.tuple #[.pointer none, code 1]) ∧ Below w.heap.size w w' := by
  have hn := rightI_not hr
  clear hr
  cases hA : (decide (1 ≤ s) && decide (s ≤ 16)) with
  | false =>
    have HA := Lib.hid hA
    clear hA hn
    go_enter Tryz.func94, Tryz.ntmps94
    go_wp2_with fail
    refine (isAmong_any s 1 16 _).mono ?_
    rintro e w1 ⟨rfl, rfl⟩
    rw [HA.out]
    go_wp2_with fail
    go_ret2
    exact ⟨rfl, Below.refl _ _⟩
  | true =>
    have HA := Lib.hid hA
    have hA' : 1 ≤ s ∧ s ≤ 16 := by simpa using hA
    clear hA
    cases hH : (decide (1 ≤ h) && decide (h ≤ 8)) with
    | false =>
      have HH := Lib.hid hH
      clear hH hn
      go_enter Tryz.func94, Tryz.ntmps94
      go_wp2_with fail
      refine (isAmong_any s 1 16 _).mono ?_
      rintro e w1 ⟨rfl, rfl⟩
      rw [HA.out]
      go_wp2_with fail
      refine (isAmong_any h 1 8 _).mono ?_
      rintro e w1 ⟨rfl, rfl⟩
      rw [HH.out]
      go_wp2_with fail
      go_ret2
      exact ⟨rfl, Below.refl _ _⟩
    | true =>
      have HH := Lib.hid hH
      have hH' : 1 ≤ h ∧ h ≤ 8 := by simpa using hH
      clear hH
      cases hB : (decide (8 ≤ bi) && decide (bi ≤ 4096)) with
      | false =>
        have HB := Lib.hid hB
        clear hB hn
        go_enter Tryz.func94, Tryz.ntmps94
        go_wp2_with fail
        refine (isAmong_any s 1 16 _).mono ?_
        rintro e w1 ⟨rfl, rfl⟩
        rw [HA.out]
        go_wp2_with fail
        refine (isAmong_any h 1 8 _).mono ?_
        rintro e w1 ⟨rfl, rfl⟩
        rw [HH.out]
        go_wp2_with fail
        refine (isAmong_any bi 8 4096 _).mono ?_
        rintro e w1 ⟨rfl, rfl⟩
        rw [HB.out]
        go_wp2_with fail
        go_ret2
        exact ⟨rfl, Below.refl _ _⟩
      | true =>
        have HB := Lib.hid hB
        have hB' : 8 ≤ bi ∧ bi ≤ 4096 := by simpa using hB
        clear hB
        obtain ⟨hB1, hB2⟩ := hB'
        obtain ⟨r, hr⟩ : ∃ r, bi % 8 = r := ⟨_, rfl⟩
        have hr0 : r ≠ 0 := fun e => hn ⟨hA'.1, hA'.2, hB1, hB2, by omega, hH'⟩
        have hr1 : (r == 0) = false := by simpa using hr0
        clear hn hA' hH'
        go_enter Tryz.func94, Tryz.ntmps94
        go_wp2_with fail
        refine (isAmong_any s 1 16 _).mono ?_
        rintro e w1 ⟨rfl, rfl⟩
        rw [HA.out]
        go_wp2_with fail
        refine (isAmong_any h 1 8 _).mono ?_
        rintro e w1 ⟨rfl, rfl⟩
        rw [HH.out]
        go_wp2_with fail
        refine (isAmong_any bi 8 4096 _).mono ?_
        rintro e w1 ⟨rfl, rfl⟩
        rw [HB.out]
        go_wp2_with fail
        go_ret2
        exact ⟨rfl, Below.refl _ _⟩

set_option maxHeartbeats 800000 in
theorem bnew_ok {s bi h : Nat} (w : World) (hr : rightI s bi h = true) : Calls Tryz.prog 94 #[.int .i64 (s : Int), .int .i64 (bi : Int), .int .i64 (h : Int)] w fun e w' => ∃ (g : Nat) (F : Nat → Prop), e = .returned (.tuple #[.pointer (some ⟨g, 0, none⟩), .nilIface]) ∧ PBq w' F g (g + 1) (s * bi / 8) (Bl.new s bi h) ∧ Below w.heap.size w w' ∧ ∀ q, F q → w.heap.size ≤ q := by
  have HOk := Lib.hid (Bl.new_ok hr)
  have hm : s * bi ≤ 65536 := HOk.out.most
  obtain ⟨h1, h2, h3, h4, h5, h6, h7⟩ := rightI_iff.1 hr
  have HA : Hid ((decide (1 ≤ (s : Int)) && decide ((s : Int) ≤ 16)) = true) := Lib.hid (by simp; omega)
  have HH : Hid ((decide (1 ≤ (h : Int)) && decide ((h : Int) ≤ 8)) = true) := Lib.hid (by simp; omega)
  have HB : Hid ((decide (8 ≤ (bi : Int)) && decide ((bi : Int) ≤ 4096)) = true) := Lib.hid (by simp; omega)
  obtain ⟨m, hm0⟩ : ∃ m, s * bi = m := ⟨_, rfl⟩
  obtain ⟨n, hn0⟩ : ∃ n, m / 8 = n := ⟨_, rfl⟩
  have hmi : (s : Int) * (bi : Int) = (m : Int) := by rw [← hm0]; simp
  have hni : (m : Int) / 8 = (n : Int) := by omega
  have hmk := fun u : World => run_make_bytes (P := Tryz.prog) byteT .i64 .i64 n n (Nat.le_refl _) (by omega) u
  rw [hm0, hn0]
  have HN : Hid (Bl.new s bi h = ⟨s, bi, h, List.replicate n 0⟩) := Lib.hid (by rw [Bl.new, hm0, hn0])
  rw [hm0] at hm
  clear hr hm0 hn0
  go_enter Tryz.func94, Tryz.ntmps94
  go_wp2_with fail
  refine (isAmong_any s 1 16 _).mono ?_
  rintro e w1 ⟨rfl, rfl⟩
  rw [HA.out]
  go_wp2_with fail
  refine (isAmong_any h 1 8 _).mono ?_
  rintro e w1 ⟨rfl, rfl⟩
  rw [HH.out]
  go_wp2_with fail
  refine (isAmong_any bi 8 4096 _).mono ?_
  rintro e w1 ⟨rfl, rfl⟩
  rw [HB.out]
  go_wp2_with fail
  go_ret2
  have hz : (w.alloc (.cells #[.int .u64 (s : Int), .int .u64 (bi : Int), .int .u64 (h : Int), .slice (some ⟨w.heap.size + 1, 0, none⟩) n n] 201)).heap.size = w.heap.size + 1 := by simp
  have ho := Own.zeros (w.alloc (.cells #[.int .u64 (s : Int), .int .u64 (bi : Int), .int .u64 (h : Int), .slice (some ⟨w.heap.size + 1, 0, none⟩) n n] 201)) 0 5 n (Nat.zero_le _) (by omega)
  rw [hz] at ho
  refine ⟨w.heap.size, fun z => z = w.heap.size ∨ z = w.heap.size + 1, rfl, ?_, ((Below.refl _ w).alloc (Nat.le_refl _) _).alloc (by simp) _, fun z hz => by omega⟩
  have hok := HOk.out
  rw [HN.out] at hok ⊢
  have hl : (List.replicate n (0 : UInt8)).length = n := List.length_replicate
  refine ⟨hok, ?_, ?_, by omega, fun z => Iff.rfl⟩
  · rw [hl]
    exact (Blk.new w _ _).alloc _
  · rw [hl]
    exact ho

set_option maxHeartbeats 1600000 in
theorem bbytes_any {w : World} {F : Nat → Prop} {g : Nat} {b : Bl} (hp : PBt w F g b) :
    Calls Tryz.prog 133 #[.pointer (some ⟨g, 0, none⟩)] w fun e w' => ∃ v, e = .returned v ∧ Own w' w.heap.size 5 v b.bytes ∧ Below w.heap.size w w' := by
  obtain ⟨q, c, h⟩ := hp
  have H := Lib.hid h
  have h1 := h.ok.s2
  have h2 := h.ok.h2
  have h3 := h.ok.b2
  have hlen := h.ok.len_le
  have hp1 : putOk 1 (b.sh : Int) = true := by simp [putOk, isW]; omega
  have hp2 : putOk 1 (b.hs : Int) = true := by simp [putOk, isW]; omega
  have hp3 : putOk 2 (b.bits : Int) = true := by simp [putOk, isW]; omega
  have hP1 := put_ok [] (.slice none 0 0) 1 (b.sh : Int) w (by omega) hp1 (by simp) (Bs.nil w)
  rw [List.nil_append, Int.toNat_natCast, show Int.toNat 1 = 1 from rfl] at hP1
  have HP2 := Lib.hid hp2
  have HP3 := Lib.hid hp3
  have k0 := h.blk.cell 0
  simp at k0
  clear h hp1 hp2 hp3
  go_enter Tryz.func133, Tryz.ntmps133
  go_wp2_with fail
  refine hP1.mono ?_
  rintro e w1 ⟨v1, rfl, ho1, hb1⟩
  have hl1 := bet_length b.sh 1
  have HB1 := Lib.hid hb1
  have H1 := Lib.hid (H.out.later hb1)
  have k2 := H1.out.blk.cell 2
  simp at k2
  have hP2 := put_ok (bet b.sh 1) v1 1 (b.hs : Int) w1 (by omega) HP2.out (by omega) ho1.bs
  rw [Int.toNat_natCast, show Int.toNat 1 = 1 from rfl] at hP2
  clear hP1 ho1 hb1 k0 hl1
  go_wp2_with fail
  refine hP2.mono ?_
  rintro e w2 ⟨v2, rfl, ho2, hb2⟩
  have hl2 : (bet b.sh 1 ++ bet b.hs 1).length = 2 := by simp [bet_length]
  have HB2 := Lib.hid (HB1.out.trans (hb2.mono HB1.out.size))
  have H2 := Lib.hid (H1.out.later hb2)
  have k1 := H2.out.blk.cell 1
  simp at k1
  have hP3 := put_ok (bet b.sh 1 ++ bet b.hs 1) v2 2 (b.bits : Int) w2 (by omega) HP3.out (by omega) ho2.bs
  rw [Int.toNat_natCast, show Int.toNat 2 = 2 from rfl] at hP3
  clear hP2 ho2 hb2 k2 hl2
  go_wp2_with fail
  refine hP3.mono ?_
  rintro e w3 ⟨v3, rfl, ho3, hb3⟩
  have HB3 := Lib.hid (HB2.out.trans (hb3.mono HB2.out.size))
  have H3 := Lib.hid (H2.out.later hb3)
  have hl3 : (bet b.sh 1 ++ bet b.hs 1 ++ bet b.bits 2).length = 4 := by simp [bet_length]
  have k3 := H3.out.blk.cell 3
  simp at k3
  have HO3 := Lib.hid (ho3.lower (base' := w.heap.size) HB2.out.size)
  clear hP3 ho3 hb3 k1
  go_wp2_with (at_builtin; refine wpList_append_v _ byteT rfl _ _ rfl w.heap.size v3 _ rfl HO3.out _ b.set rfl H3.out.own.bs (by omega) HB3.out.size ?_)
  intro v4 w4 ho4 hg4 _
  have HB4 := Lib.hid (HB3.out.grown hg4 HB3.out.size HO3.out.ge)
  have hS := seal_any (bet b.sh 1 ++ bet b.hs 1 ++ bet b.bits 2 ++ b.set) v4 w4 (by rw [List.length_append]; omega) ho4.bs
  clear ho4 hg4 k3
  go_wp2_with fail
  refine hS.mono ?_
  rintro e w5 ⟨v5, rfl, ho5, hb5⟩
  have HB5 := Lib.hid (HB4.out.trans (hb5.mono HB4.out.size))
  have HO5 := Lib.hid (ho5.lower (base' := w.heap.size) HB4.out.size)
  clear hS ho5 hb5
  go_wp2_with fail
  go_ret
  exact ⟨_, rfl, HO5.out, HB5.out⟩

end Go.Proofs.YtfccfnbmmgfgcaaGreatDoor
