/-
  METAS, MARKERS AND NAMES, plain: which may be, their bytes, what any bytes are; digits to a base; an object's name, and what any name is of. Of no program. No condition but what each theorem says.
-/
import Derived.Test.YtkhdlcoappkgkaaDoorCrcE
namespace Go.Proofs.YtkhdlcoappkgkaaDoor
open Go.RowKit
set_option maxRecDepth 100000

/-- a meta -/
structure Me where
  id : Int
  lv : Int
  st : Int
  en : Int
  pg : Int
  tr : Int
/-- its numbers are such as its types have -/
structure Me.ok (m : Me) : Prop where
  id0 : 0 ≤ m.id
  id1 : m.id ≤ 18446744073709551615
  lv0 : -9223372036854775808 ≤ m.lv
  lv1 : m.lv ≤ 9223372036854775807
  st0 : -9223372036854775808 ≤ m.st
  st1 : m.st ≤ 9223372036854775807
  en0 : -9223372036854775808 ≤ m.en
  en1 : m.en ≤ 9223372036854775807
  pg0 : -9223372036854775808 ≤ m.pg
  pg1 : m.pg ≤ 9223372036854775807
  tr0 : -9223372036854775808 ≤ m.tr
  tr1 : m.tr ≤ 9223372036854775807
def Me.zero : Me := ⟨0, 0, 0, 0, 0, 0⟩
/-- as a value -/
def meV (m : Me) : Value := .agg #[.int .u64 m.id, .int .i64 m.lv, .int .i64 m.st, .int .i64 m.en, .int .i64 m.pg, .int .i64 m.tr]
def meC (m : Me) : Array Value := #[.int .u64 m.id, .int .i64 m.lv, .int .i64 m.st, .int .i64 m.en, .int .i64 m.pg, .int .i64 m.tr]

/-- may it be? -/
def meP (m : Me) : Prop := 1 ≤ m.id ∧ 0 ≤ m.lv ∧ m.lv ≤ 10 ∧ 0 ≤ m.st ∧ m.st ≤ m.en ∧ m.en ≤ 1099511627776 ∧ 1 ≤ m.pg ∧ m.pg ≤ 200 ∧ m.pg ≤ m.tr ∧ m.tr ≤ 64 * m.pg
instance (m : Me) : Decidable (meP m) := by unfold meP; infer_instance
def meB (m : Me) : Bool := decide (meP m)
theorem meB_zero : meB Me.zero = false := by decide
/-- its bytes, without their sum -/
def meRaw (m : Me) : List UInt8 := bet m.id.toNat 8 ++ bet m.st.toNat 8 ++ bet m.en.toNat 8 ++ bet m.lv.toNat 1 ++ bet m.pg.toNat 2 ++ bet m.tr.toNat 4
theorem meRaw_length (m : Me) : (meRaw m).length = 31 := by simp [meRaw, bet_length]
/-- the meta of 31 bytes -/
def meAt (b : List UInt8) : Me := ⟨(num ((b.drop 0).take 8) : Int), (num ((b.drop 24).take 1) : Int), wrap64 (num ((b.drop 8).take 8) : Int), wrap64 (num ((b.drop 16).take 8) : Int), (num ((b.drop 25).take 2) : Int), (num ((b.drop 27).take 4) : Int)⟩
/-- what bytes without a sum are -/
def meOf (b : List UInt8) : Int × Me := if b.length = 31 ∧ meB (meAt b) = true then (0, meAt b) else (2, Me.zero)
/-- what any bytes are: an error's number, and the meta -/
def meX (x : List UInt8) : Int × Me := if x.length < 4 then (2, Me.zero) else if tailOf x = crcOf (bodyOf x) then meOf (bodyOf x) else (7, Me.zero)
theorem meOf_code (b : List UInt8) : 0 ≤ (meOf b).1 ∧ (meOf b).1 ≤ 10 := by unfold meOf; split <;> simp
theorem meX_code (x : List UInt8) : 0 ≤ (meX x).1 ∧ (meX x).1 ≤ 10 := by
  unfold meX
  split
  · simp
  · split
    · exact meOf_code _
    · simp

/-- a marker -/
structure Mk where
  id : Int
  at_ : Int
  by_ : Int
structure Mk.ok (m : Mk) : Prop where
  id0 : 0 ≤ m.id
  id1 : m.id ≤ 18446744073709551615
  at0 : -9223372036854775808 ≤ m.at_
  at1 : m.at_ ≤ 9223372036854775807
  by0 : 0 ≤ m.by_
  by1 : m.by_ ≤ 18446744073709551615
def Mk.zero : Mk := ⟨0, 0, 0⟩
def mkV (m : Mk) : Value := .agg #[.int .u64 m.id, .int .i64 m.at_, .int .u64 m.by_]
def mkC (m : Mk) : Array Value := #[.int .u64 m.id, .int .i64 m.at_, .int .u64 m.by_]
def mkP (m : Mk) : Prop := 1 ≤ m.id ∧ 0 ≤ m.at_ ∧ m.at_ ≤ 1099511627776 ∧ m.by_ ≠ m.id
instance (m : Mk) : Decidable (mkP m) := by unfold mkP; infer_instance
def mkB (m : Mk) : Bool := decide (mkP m)
def mkRaw (m : Mk) : List UInt8 := bet m.id.toNat 8 ++ bet m.at_.toNat 8 ++ bet m.by_.toNat 8
theorem mkRaw_length (m : Mk) : (mkRaw m).length = 24 := by simp [mkRaw, bet_length]
def mkAt (b : List UInt8) : Mk := ⟨(num ((b.drop 0).take 8) : Int), wrap64 (num ((b.drop 8).take 8) : Int), (num ((b.drop 16).take 8) : Int)⟩
def mkOf (b : List UInt8) : Int × Mk := if b.length = 24 ∧ mkB (mkAt b) = true then (0, mkAt b) else (2, Mk.zero)
def mkX (x : List UInt8) : Int × Mk := if x.length < 4 then (2, Mk.zero) else if tailOf x = crcOf (bodyOf x) then mkOf (bodyOf x) else (7, Mk.zero)
theorem mkOf_code (b : List UInt8) : 0 ≤ (mkOf b).1 ∧ (mkOf b).1 ≤ 10 := by unfold mkOf; split <;> simp
theorem mkX_code (x : List UInt8) : 0 ≤ (mkX x).1 ∧ (mkX x).1 ≤ 10 := by
  unfold mkX
  split
  · simp
  · split
    · exact mkOf_code _
    · simp

theorem cutp {a b c l : List UInt8} {p k : Nat} (h : l = a ++ (b ++ c)) (ha : a.length = p) (hb : b.length = k) : (l.drop p).take k = b := by
  subst h ha hb
  simp
/-- what was put is got as it was -/
theorem meAt_raw (m : Me) (h : meB m = true) (ho : m.ok) : meAt (meRaw m) = m := by
  have hp : meP m := of_decide_eq_true h
  obtain ⟨i, l, s, e, p, t⟩ := m
  obtain ⟨h1, h2, h3, h4, h5, h6, h7, h8, h9, h10⟩ := hp
  have hi1 := ho.id1
  simp only at h1 h2 h3 h4 h5 h6 h7 h8 h9 h10 hi1
  obtain ⟨i, rfl⟩ := nat_of (n := i) (by omega)
  obtain ⟨l, rfl⟩ := nat_of (n := l) (by omega)
  obtain ⟨s, rfl⟩ := nat_of (n := s) (by omega)
  obtain ⟨e, rfl⟩ := nat_of (n := e) (by omega)
  obtain ⟨p, rfl⟩ := nat_of (n := p) (by omega)
  obtain ⟨t, rfl⟩ := nat_of (n := t) (by omega)
  simp only [meAt, meRaw, Int.toNat_natCast]
  have hl : ∀ n k, (bet n k).length = k := bet_length
  have c0 := cutp (a := []) (b := bet i 8) (c := bet s 8 ++ bet e 8 ++ bet l 1 ++ bet p 2 ++ bet t 4) (p := 0) (k := 8) (l := bet i 8 ++ bet s 8 ++ bet e 8 ++ bet l 1 ++ bet p 2 ++ bet t 4) (by simp) rfl (hl _ _)
  have c1 := cutp (a := bet i 8) (b := bet s 8) (c := bet e 8 ++ bet l 1 ++ bet p 2 ++ bet t 4) (p := 8) (k := 8) (l := bet i 8 ++ bet s 8 ++ bet e 8 ++ bet l 1 ++ bet p 2 ++ bet t 4) (by simp) (by simp [hl]) (hl _ _)
  have c2 := cutp (a := bet i 8 ++ bet s 8) (b := bet e 8) (c := bet l 1 ++ bet p 2 ++ bet t 4) (p := 16) (k := 8) (l := bet i 8 ++ bet s 8 ++ bet e 8 ++ bet l 1 ++ bet p 2 ++ bet t 4) (by simp) (by simp [hl]) (hl _ _)
  have c3 := cutp (a := bet i 8 ++ bet s 8 ++ bet e 8) (b := bet l 1) (c := bet p 2 ++ bet t 4) (p := 24) (k := 1) (l := bet i 8 ++ bet s 8 ++ bet e 8 ++ bet l 1 ++ bet p 2 ++ bet t 4) (by simp) (by simp [hl]) (hl _ _)
  have c4 := cutp (a := bet i 8 ++ bet s 8 ++ bet e 8 ++ bet l 1) (b := bet p 2) (c := bet t 4) (p := 25) (k := 2) (l := bet i 8 ++ bet s 8 ++ bet e 8 ++ bet l 1 ++ bet p 2 ++ bet t 4) (by simp) (by simp [hl]) (hl _ _)
  have c5 := cutp (a := bet i 8 ++ bet s 8 ++ bet e 8 ++ bet l 1 ++ bet p 2) (b := bet t 4) (c := []) (p := 27) (k := 4) (l := bet i 8 ++ bet s 8 ++ bet e 8 ++ bet l 1 ++ bet p 2 ++ bet t 4) (by simp) (by simp [hl]) (hl _ _)
  rw [c0, c1, c2, c3, c4, c5, num_bet 8 i (by omega), num_bet 8 s (by omega), num_bet 8 e (by omega), num_bet 1 l (by omega), num_bet 2 p (by omega), num_bet 4 t (by omega)]
  rw [IntWalk.wrap64_in (s : Int) ⟨by omega, by omega⟩, IntWalk.wrap64_in (e : Int) ⟨by omega, by omega⟩]
theorem meX_put (m : Me) (h : meB m = true) (ho : m.ok) : meX (sealedOf (meRaw m)) = (0, m) := by
  rw [meX, if_neg (by rw [sealedOf_length]; omega), if_pos (tail_sealed _), body_sealed, meOf, meAt_raw m h ho, if_pos ⟨meRaw_length m, h⟩]

/-- a digit -/
def dchar (d : Nat) : UInt8 := if d < 10 then UInt8.ofNat (48 + d) else UInt8.ofNat (87 + d)
/-- so many digits of a number, to a base -/
def digs (b n : Nat) : Nat → List UInt8
  | 0 => []
  | k + 1 => digs b (n / b) k ++ [dchar (n % b)]
theorem digs_length (b n k : Nat) : (digs b n k).length = k := by
  induction k generalizing n with
  | zero => rfl
  | succ k ih => simp [digs, ih]
theorem digs_zero (b : Nat) (k : Nat) : digs b 0 k = List.replicate k 48 := by
  induction k with
  | zero => rfl
  | succ k ih =>
    have h0 : dchar (0 % b) = 48 := by rw [Nat.zero_mod]; rfl
    rw [digs, Nat.zero_div, ih, h0, List.replicate_succ']
theorem digs_pad (b : Nat) (hb : 0 < b) : ∀ (k m n : Nat), n < b ^ k → digs b n (m + k) = List.replicate m 48 ++ digs b n k
  | 0, m, n, h => by
    have : n = 0 := by simp at h; exact h
    subst this
    rw [Nat.add_zero, digs_zero b]
    simp [digs]
  | k + 1, m, n, h => by
    have : n / b < b ^ k := by rw [Nat.div_lt_iff_lt_mul hb, ← Nat.pow_succ]; exact h
    rw [← Nat.add_assoc, digs, digs_pad b hb k m (n / b) this, digs, List.append_assoc]
/-- digits from the left -/
theorem digs_left (b : Nat) : ∀ (k n : Nat), digs b n (k + 1) = dchar (n / b ^ k % b) :: digs b n k
  | 0, n => by simp [digs]
  | k + 1, n => by
    rw [digs, digs_left b k (n / b), Nat.div_div_eq_div_mul, ← Nat.pow_succ']
    simp [digs]

end Go.Proofs.YtkhdlcoappkgkaaDoor
