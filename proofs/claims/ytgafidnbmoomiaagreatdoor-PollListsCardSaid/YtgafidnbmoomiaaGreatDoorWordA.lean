/-
  CONTRACTS of the small functions of package word: isWidth, fits, number, copyWithRoom, appendNumber.
  CONTRACTS of package word: Put, Text.
  CONTRACTS of package word: Read, and the methods of Reader.
  CONTRACTS of the document's own answers (tankardref01): Wide, Fits, Bytes, Text.
  CONTRACTS of the document's own Reader (tankardref01): Word, Text.
  CONTRACTS of the document's own Reader (tankardref01): Text.
  THE HEAD OF LAYER 1's STATEMENTS: 'up' returns true; nothing that was there has turned.
-/
import Derived.Test.YtgafidnbmoomiaaGreatDoorMem
import Derived.Test.YtgafidnbmoomiaaGreatDoorRows
import Derived.Outline
import Derived.Lib.Hide
import Derived.Deep.QuietTactic
import Derived.BigQuiet
import Derived.Laws.BitsAllLaws
import Derived.IntWalk
import Derived.StillTailTactics
import Derived.Deep.RegionHeld3
import Derived.Lib.IfaceEq
import Derived.Lib.IfaceNeq
import Derived.WalkSpells
namespace Go.Proofs.YtgafidnbmoomiaaGreatDoor
open Go.RowKit

def isW (n : Int) : Bool := n == 1 || n == 2 || n == 4 || n == 8

theorem isWidth_any (n : Int) (w : World) : Calls Tryz.prog 95 #[.int .i64 n] w fun e w' => e = .returned (.bool (isW n)) ∧ w = w' := by
  by_cases h1 : n = 1
  · subst h1
    go_enter Tryz.func95, Tryz.ntmps95
    go_wp2
    go_ret
    exact ⟨rfl, rfl⟩
  by_cases h2 : n = 2
  · subst h2
    go_enter Tryz.func95, Tryz.ntmps95
    go_wp2
    go_ret
    exact ⟨rfl, rfl⟩
  by_cases h4 : n = 4
  · subst h4
    go_enter Tryz.func95, Tryz.ntmps95
    go_wp2
    go_ret
    exact ⟨rfl, rfl⟩
  by_cases h8 : n = 8
  · subst h8
    go_enter Tryz.func95, Tryz.ntmps95
    go_wp2
    go_ret
    exact ⟨rfl, rfl⟩
  have e : isW n = false := by simp [isW, h1, h2, h4, h8]
  have b1 : (n == 1) = false := by simpa using h1
  have b2 : (n == 2) = false := by simpa using h2
  have b4 : (n == 4) = false := by simpa using h4
  have b8 : (n == 8) = false := by simpa using h8
  rw [e]
  clear e h1 h2 h4 h8
  go_enter Tryz.func95, Tryz.ntmps95
  go_wp2
  go_ret
  exact ⟨rfl, rfl⟩

theorem nat_of {n : Int} (h : 0 ≤ n) : ∃ k : Nat, n = (k : Int) := Int.eq_ofNat_of_zero_le h

theorem ret_bool {a b : Bool} (h : a = b) : Ending.returned (.bool a) = .returned (.bool b) := by rw [h]

theorem ret_int {k : IntKind} {a b : Int} (h : a = b) : Ending.returned (.int k a) = .returned (.int k b) := by rw [h]

def bet (n : Nat) : Nat → List UInt8
  | 0 => []
  | k + 1 => UInt8.ofNat (n / 256 ^ k) :: bet n k

def num (l : List UInt8) : Nat := l.foldl (fun a b => a * 256 + b.toNat) 0

theorem num_snoc (l : List UInt8) (b : UInt8) : num (l ++ [b]) = num l * 256 + b.toNat := by simp [num]

theorem num_from (l : List UInt8) : ∀ a : Nat, l.foldl (fun a b => a * 256 + b.toNat) a < (a + 1) * 256 ^ l.length := by
  induction l with
  | nil => intro a; simp
  | cons b l ih =>
    intro a
    have hb := b.toNat_lt
    have h1 := ih (a * 256 + b.toNat)
    rw [List.foldl_cons, List.length_cons, Nat.pow_succ]
    refine Nat.lt_of_lt_of_le h1 ?_
    rw [Nat.mul_comm (256 ^ l.length) 256, ← Nat.mul_assoc]
    exact Nat.mul_le_mul_right _ (by omega)

theorem num_lt (l : List UInt8) : num l < 256 ^ l.length := by
  have := num_from l 0
  simpa [num] using this

theorem num_take_lt (l : List UInt8) (k : Nat) (hk : k < l.length) (hl : l.length ≤ 8) : num (l.take k) < 72057594037927936 := by
  have h := num_lt (l.take k)
  have h2 : (l.take k).length ≤ 7 := by simp; omega
  have h3 : 256 ^ (l.take k).length ≤ 256 ^ 7 := Nat.pow_le_pow_right (by omega) h2
  have h4 : (256 : Nat) ^ 7 = 72057594037927936 := by decide
  omega

theorem num_lt8 (l : List UInt8) (hl : l.length ≤ 8) : num l < 18446744073709551616 := by
  have h := num_lt l
  have h3 : 256 ^ l.length ≤ 256 ^ 8 := Nat.pow_le_pow_right (by omega) hl
  have h4 : (256 : Nat) ^ 8 = 18446744073709551616 := by decide
  omega

theorem or_step (a b : Nat) (ha : a < 72057594037927936) (hb : b < 256) : bits .or .u64 ((a : Int) * 256) (b : Int) = ((a * 256 + b : Nat) : Int) := by
  have hw : (a : Int) * 256 = ((a * 256 : Nat) : Int) := by omega
  rw [hw, u64_or_nat _ _ (by omega) (by omega)]
  have := Nat.two_pow_add_eq_or_of_lt (i := 8) (b := b) (by omega) a
  rw [show a * 256 = 2 ^ 8 * a by omega, ← this]

set_option maxHeartbeats 400000 in
theorem number_any (l : List UInt8) (v : Value) (w : World) (hl : l.length ≤ 8) (hv : Bs w v l) :
    Calls Tryz.prog 97 #[v] w fun e w' => e = .returned (.int .u64 (num l)) ∧ w = w' := by
  obtain ⟨A, c, rfl, hc1, hc2, hr⟩ := hv
  go_enter Tryz.func97, Tryz.ntmps97
  go_wp2
  go_loop [3, 8] (fun n i => ∃ k : Nat, k ≤ l.length ∧ i = .int .i64 k ∧ n = .int .u64 (num (l.take k))) (fun _ i => l.length - (intOf i).toNat)
  case atStart => exact ⟨0, Nat.zero_le _, rfl, rfl⟩
  case round =>
    obtain ⟨k, hk, rfl, rfl⟩ := hrel
    by_cases hlt : k < l.length
    · obtain ⟨ad, rfl, hc⟩ := hr k (.int .u8 (l[k].toNat : Int)) (by simp [BV_getElem?, hlt])
      have hb : l[k].toNat < 256 := l[k].toNat_lt
      have ht := num_take_lt l k hlt hl
      have hs : num (l.take (k + 1)) = num (l.take k) * 256 + l[k].toNat := by rw [List.take_succ_eq_append_getElem hlt, num_snoc]
      have HS := Lib.hid hs
      clear hs
      go_wp2
      refine ⟨⟨k + 1, by omega, by go_num, ?_⟩, by simp [intOf]; omega⟩
      rw [or_step _ _ ht hb, HS.out]
    · go_wp2
      go_ret
      exact ⟨ret_int (by rw [List.take_of_length_le (by omega)]), rfl⟩

theorem byteT : ByteT Tryz.prog 42 5 := ⟨Tryz.underlying42, Tryz.underlying5, by
  obtain ⟨i, h1, h2, h3, h4⟩ := info_parts (P := Tryz.prog) (e := 5) (z := .int .u8 0) (size := 1) (bytes := 1) (by kernel_rfl)
  exact ⟨i, h1, h2, h3, h4⟩⟩

theorem bet_length (n k : Nat) : (bet n k).length = k := by
  induction k with
  | zero => rfl
  | succ k ih => simp [bet, ih]

theorem isW_cases {k : Int} (h : isW k = true) : k = 1 ∨ k = 2 ∨ k = 4 ∨ k = 8 := by simpa [isW, or_assoc] using h

abbrev code (n : Int) : Value := .iface 73 (.int .i64 n)

structure WR (w : World) (g : Nat) (v : Value) (l : List UInt8) (p : Nat) (bad : Bool) : Prop where
  blk : Blk w g 169 #[v, .int .i64 p, .bool bad]
  bs : Bs w v l
  le : p ≤ l.length
  ne : l ≠ [] → v.ownBlock ≠ some g

theorem left_any (g : Nat) (v : Value) (l : List UInt8) (p : Nat) (bad : Bool) (w : World) (h : WR w g v l p bad) :
    Calls Tryz.prog 96 #[.pointer (some ⟨g, 0, none⟩)] w fun e w' => e = .returned (.int .i64 ((l.length : Int) - p)) ∧ ∃ n, w' = w.drewN n := by
  obtain ⟨A, c, rfl, hc1, hc2, hr⟩ := h.bs
  have h0 := h.blk.cell 0
  have h1 := h.blk.cell 1
  have hle := h.le
  simp at h0 h1
  go_enter Tryz.func96, Tryz.ntmps96
  go_wp2
  go_quiet (fail)
  go_wp2
  go_ret
  exact ⟨rfl, _, rfl⟩

theorem bad_any (g : Nat) (v : Value) (l : List UInt8) (p : Nat) (bad : Bool) (w : World) (h : WR w g v l p bad) :
    Calls Tryz.prog 98 #[.pointer (some ⟨g, 0, none⟩)] w fun e w' => e = .returned (.int .i64 (if bad then (p : Int) else -1)) ∧ w = w' := by
  have h1 := h.blk.cell 1
  have h2 := h.blk.cell 2
  simp at h1 h2
  cases bad
  all_goals
    go_enter Tryz.func98, Tryz.ntmps98
    go_wp2
    go_ret
    exact ⟨rfl, rfl⟩

theorem read_any (v : Value) (l : List UInt8) (w : World) (h : Bs w v l) :
    Calls Tryz.prog 77 #[v] w fun e w' => e = .returned (.pointer (some ⟨w.heap.size, 0, none⟩)) ∧ WR w' w.heap.size v l 0 false ∧ Below w.heap.size w w' := by
  have hb := h
  obtain ⟨A, c, rfl, hc1, hc2, hr⟩ := h
  go_enter Tryz.func77, Tryz.ntmps77
  go_wp2
  go_ret
  refine ⟨rfl, ⟨Blk.new _ _ _, hb.alloc _, Nat.zero_le _, ?_⟩, (Below.refl _ _).alloc (Nat.le_refl _) _⟩
  intro hl e
  obtain ⟨k, hk, hlt⟩ := hb.block hl
  rw [hk] at e
  injection e with e
  omega

theorem WR.drewN {w : World} {g : Nat} {v : Value} {l : List UInt8} {p : Nat} {bad : Bool} (h : WR w g v l p bad) (n : Nat) : WR (w.drewN n) g v l p bad := ⟨h.blk, h.bs, h.le, h.ne⟩

theorem WR.drew {w : World} {g : Nat} {v : Value} {l : List UInt8} {p : Nat} {bad : Bool} (h : WR w g v l p bad) : WR w.drew g v l p bad := ⟨h.blk, h.bs, h.le, h.ne⟩

theorem WR.grown {w w' : World} {row : Option Nat} {g : Nat} {v : Value} {l : List UInt8} {p : Nat} {bad : Bool} (h : WR w g v l p bad) (hg : w.grownBy w' row) (hne : some g ≠ row) (hv : l ≠ [] → v.ownBlock ≠ row) : WR w' g v l p bad := ⟨h.blk.grown hg hne, h.bs.grown hg hv, h.le, h.ne⟩

theorem WR.setBad {w : World} {g : Nat} {v : Value} {l : List UInt8} {p : Nat} {bad : Bool} (h : WR w g v l p bad) (b : Bool) : WR (w.setCell ⟨g, 2, none⟩ (.bool b)) g v l p b :=
  ⟨h.blk.set_ 2 _, h.bs.grown (grown_set w g 2 _) h.ne, h.le, h.ne⟩

theorem WR.setAt {w : World} {g : Nat} {v : Value} {l : List UInt8} {p : Nat} {bad : Bool} (h : WR w g v l p bad) (q : Nat) (hq : q ≤ l.length) (n : Int) (hn : n = (q : Int)) : WR (w.setCell ⟨g, 1, none⟩ (.int .i64 n)) g v l q bad := by
  subst hn
  exact ⟨h.blk.set_ 1 _, h.bs.grown (grown_set w g 1 _) h.ne, hq, h.ne⟩

theorem WR.below {w w' : World} {g : Nat} {v : Value} {l : List UInt8} {p : Nat} {bad : Bool} (h : WR w g v l p bad) (hb : Below w.heap.size w w') : WR w' g v l p bad := ⟨h.blk.below hb h.blk.lt, h.bs.below hb, h.le, h.ne⟩

theorem WR.alloc {w : World} {g : Nat} {v : Value} {l : List UInt8} {p : Nat} {bad : Bool} (h : WR w g v l p bad) (o : Obj) : WR (w.alloc o) g v l p bad := ⟨h.blk.alloc o, h.bs.alloc o, h.le, h.ne⟩

def wordOk (l : List UInt8) (p : Nat) (bad : Bool) (k : Int) : Bool := !bad && isW k && decide (k ≤ (l.length : Int) - p)

set_option maxHeartbeats 400000 in
theorem word_no (g : Nat) (v : Value) (l : List UInt8) (p : Nat) (bad : Bool) (k : Int) (w : World) (h : WR w g v l p bad) (hk : wordOk l p bad k = false) :
    Calls Tryz.prog 78 #[.pointer (some ⟨g, 0, none⟩), .int .i64 k] w fun e w' => e = .returned (.int .u64 0) ∧ WR w' g v l p true ∧ w.grownBy w' (some g) := by
  have h2 := h.blk.cell 2
  have f2 := h.blk.frozen 2
  simp at h2
  cases bad with
  | true =>
    clear hk
    go_enter Tryz.func78, Tryz.ntmps78
    go_wp2_with fail
    go_ret
    exact ⟨rfl, h.setBad true, grown_set _ _ _ _⟩
  | false =>
    cases hw : isW k with
    | false =>
      clear hk
      have HW := Lib.hid hw
      clear hw
      go_enter Tryz.func78, Tryz.ntmps78
      go_wp2_with (go_at_call 95; refine (isWidth_any _ _).mono ?_; rintro e w' ⟨rfl, rfl⟩; rw [HW.out])
      go_ret
      exact ⟨rfl, h.setBad true, grown_set _ _ _ _⟩
    | true =>
      have hn : ¬ k ≤ (l.length : Int) - p := by simpa [wordOk, hw] using hk
      clear hk
      have HW := Lib.hid hw
      clear hw
      go_enter Tryz.func78, Tryz.ntmps78
      go_wp2_with (first | (go_at_call 95; refine (isWidth_any _ _).mono ?_; rintro e w' ⟨rfl, rfl⟩; rw [HW.out]) | (go_at_call 96; refine (left_any g v l p false _ h).mono ?_; rintro e w' ⟨rfl, n, rfl⟩))
      go_ret
      exact ⟨rfl, (h.drewN n).setBad true, grown_drewN_left (grown_set _ _ _ _)⟩

theorem elemB : Tryz.prog.elem 42 = 5 := by kernel_rfl

set_option maxHeartbeats 400000 in
theorem word_yes (g : Nat) (v : Value) (l : List UInt8) (p : Nat) (bad : Bool) (k : Int) (w : World) (h : WR w g v l p bad) (hk : wordOk l p bad k = true) :
    Calls Tryz.prog 78 #[.pointer (some ⟨g, 0, none⟩), .int .i64 k] w fun e w' => e = .returned (.int .u64 (num ((l.drop p).take k.toNat))) ∧ WR w' g v l (p + k.toNat) false ∧ w.grownBy w' (some g) := by
  have hk3 : bad = false ∧ isW k = true ∧ k ≤ (l.length : Int) - p := by simpa [wordOk, and_assoc] using hk
  obtain ⟨rfl, hw, hn⟩ := hk3
  have hle := h.le
  have h8 := isW_cases hw
  obtain ⟨k, rfl⟩ := nat_of (n := k) (by omega)
  rw [Int.toNat_natCast]
  have hk8 : 1 ≤ k ∧ k ≤ 8 := by omega
  clear h8 hk
  have HW := Lib.hid hw
  clear hw
  have hv := h.bs
  obtain ⟨A, c, rfl, hc1, hc2, hr⟩ := hv
  have h0 := h.blk.cell 0
  have h1 := h.blk.cell 1
  have h2 := h.blk.cell 2
  have f1 := h.blk.frozen 1
  simp at h0 h1 h2
  obtain ⟨V, hsl, hV, _⟩ := slice_bytes (P := Tryz.prog) w byteT elemB hr hc1 hc2 p (p + k) (by omega) (by omega) (p : Int) ((p : Int) + (k : Int)) rfl (by omega)
  rw [Nat.add_sub_cancel_left] at hV
  have hlen : ((l.drop p).take k).length ≤ 8 := by simp; omega
  have hwr : IntKind.i64.wrap ((p : Int) + (k : Int)) = (p : Int) + (k : Int) := IntWalk.i64_in _ (by omega)
  go_enter Tryz.func78, Tryz.ntmps78
  go_wp2_with (first | (go_at_call 95; refine (isWidth_any _ _).mono ?_; rintro e w' ⟨rfl, rfl⟩; rw [HW.out]) | (go_at_call 96; refine (left_any g _ l p false _ h).mono ?_; rintro e w' ⟨rfl, n, rfl⟩))
  go_quiet ((go_at_call 97; exact (number_any ((l.drop p).take k) V _ hlen (by exact hV)).mono fun _ _ ⟨h1, h2⟩ => ⟨h1, _, h2.symm⟩))
  clear hwr hsl
  go_wp2
  go_ret
  exact ⟨rfl, (h.drewN _).setAt (p + k) (by omega) _ (by omega), grown_drewN_left (grown_set _ _ _ _)⟩

theorem Wide_any (n : Int) (w : World) : Calls Tryz.prog 102 #[.int .i64 n] w fun e w' => e = .returned (.bool (isW n)) ∧ w = w' := by
  by_cases h1 : n = 1
  · subst h1
    go_enter Tryz.func102, Tryz.ntmps102
    go_wp2
    go_ret
    exact ⟨rfl, rfl⟩
  by_cases h2 : n = 2
  · subst h2
    go_enter Tryz.func102, Tryz.ntmps102
    go_wp2
    go_ret
    exact ⟨rfl, rfl⟩
  by_cases h4 : n = 4
  · subst h4
    go_enter Tryz.func102, Tryz.ntmps102
    go_wp2
    go_ret
    exact ⟨rfl, rfl⟩
  by_cases h8 : n = 8
  · subst h8
    go_enter Tryz.func102, Tryz.ntmps102
    go_wp2
    go_ret
    exact ⟨rfl, rfl⟩
  have e : isW n = false := by simp [isW, h1, h2, h4, h8]
  have b1 : (n == 1) = false := by simpa using h1
  have b2 : (n == 2) = false := by simpa using h2
  have b4 : (n == 4) = false := by simpa using h4
  have b8 : (n == 8) = false := by simpa using h8
  rw [e]
  clear e h1 h2 h4 h8
  go_enter Tryz.func102, Tryz.ntmps102
  go_wp2
  go_ret
  exact ⟨rfl, rfl⟩

theorem bet_snoc (n k : Nat) : bet n (k + 1) = bet (n / 256) k ++ [UInt8.ofNat n] := by
  induction k with
  | zero => simp [bet]
  | succ k ih =>
    rw [bet, ih]
    simp only [bet, List.cons_append]
    rw [Nat.div_div_eq_div_mul, Nat.pow_succ, Nat.mul_comm]

theorem Bytes_nat (k : Nat) : ∀ (n : Int) (w : World), k ≤ 8 → 0 ≤ n → n < 18446744073709551616 →
    Calls Tryz.prog 100 #[.int .i64 k, .int .u64 n] w fun e w' => ∃ v, e = .returned v ∧ Own w' w.heap.size 5 v (bet n.toNat k) ∧ Below w.heap.size w w' := by
  induction k with
  | zero =>
    intro n w _ _ _
    go_enter Tryz.func100, Tryz.ntmps100
    go_wp2_with fail
    go_ret
    exact ⟨_, rfl, Own.nil _ _ _, Below.refl _ _⟩
  | succ k ih =>
    intro n w hk h0 hn
    have IH := Lib.hid ih
    clear ih
    have hz : (((k + 1 : Nat) : Int) == 0) = false := beq_eq_false_iff_ne.2 (by omega)
    go_enter Tryz.func100, Tryz.ntmps100
    go_wp2_with fail
    refine (IH.out _ _ (by omega) (by omega) (by omega)).mono ?_
    rintro e w1 ⟨v1, rfl, hown1, hb1⟩
    have hs1 := hb1.size
    go_wp2_with (at_builtin; refine wpList_append_bytes _ byteT rfl _ _ rfl w.heap.size _ _ rfl (hown1.alloc _) _ _ _ [UInt8.ofNat n.toNat] rfl rfl (Rd.one _ _ _ ?c1) ?c2 ?c3 ?_)
    case c1 =>
      obtain ⟨n, rfl⟩ := nat_of h0
      simp
    case c2 => simp [bet_length]; omega
    case c3 => simp; omega
    intro v2 w2 hown2 hg2 _
    go_wp2
    go_ret
    refine ⟨_, rfl, ?_, (hb1.alloc (by omega) _).grown hg2 (by simp; omega) hown1.ge⟩
    have hq : (n / 256).toNat = n.toNat / 256 := by omega
    rw [bet_snoc, ← hq]
    exact hown2

theorem Bytes_any (k n : Int) (w : World) (h0 : 0 ≤ k) (h8 : k ≤ 8) (hn : 0 ≤ n) (hn' : n < 18446744073709551616) :
    Calls Tryz.prog 100 #[.int .i64 k, .int .u64 n] w fun e w' => ∃ v, e = .returned v ∧ Own w' w.heap.size 5 v (bet n.toNat k.toNat) ∧ Below w.heap.size w w' := by
  obtain ⟨k, rfl⟩ := nat_of h0
  exact Bytes_nat k n w (by omega) hn hn'

def badAt (bad : Bool) (p : Nat) : Int := if bad then (p : Int) else -1

structure RR (w : World) (g : Nat) (v : Value) (l : List UInt8) (p : Nat) (bad : Bool) : Prop where
  blk : Blk w g 159 #[v, .int .i64 p, .int .i64 (badAt bad p)]
  bs : Bs w v l
  le : p ≤ l.length
  ne : l ≠ [] → v.ownBlock ≠ some g
  small : l.length ≤ 140737488355328

section
variable {w w' : World} {g : Nat} {v : Value} {l : List UInt8} {p : Nat} {bad : Bool}
theorem RR.drewN (h : RR w g v l p bad) (n : Nat) : RR (w.drewN n) g v l p bad := ⟨h.blk, h.bs, h.le, h.ne, h.small⟩

theorem RR.drew (h : RR w g v l p bad) : RR w.drew g v l p bad := ⟨h.blk, h.bs, h.le, h.ne, h.small⟩

theorem RR.grown {row : Option Nat} (h : RR w g v l p bad) (hg : w.grownBy w' row) (hne : some g ≠ row) (hv : l ≠ [] → v.ownBlock ≠ row) : RR w' g v l p bad := ⟨h.blk.grown hg hne, h.bs.grown hg hv, h.le, h.ne, h.small⟩

theorem RR.below (h : RR w g v l p bad) (hb : Below w.heap.size w w') : RR w' g v l p bad := ⟨h.blk.below hb h.blk.lt, h.bs.below hb, h.le, h.ne, h.small⟩

theorem RR.setBad (h : RR w g v l p bad) : RR (w.setCell ⟨g, 2, none⟩ (.int .i64 p)) g v l p true :=
  ⟨h.blk.set_ 2 _, h.bs.grown (grown_set w g 2 _) h.ne, h.le, h.ne, h.small⟩

theorem RR.setAt (h : RR w g v l p false) (q : Nat) (hq : q ≤ l.length) (n : Int) (hn : n = (q : Int)) : RR (w.setCell ⟨g, 1, none⟩ (.int .i64 n)) g v l q false := by
  subst hn
  exact ⟨h.blk.set_ 1 _, h.bs.grown (grown_set w g 1 _) h.ne, hq, h.ne, h.small⟩

end

theorem byte_step {w : World} {A : Option Addr} {l : List UInt8} (hr : Rd w A (BV l)) (p k j : Nat) (hj : j < k) (hk : p + k ≤ l.length) :
    ∃ b : Nat, b < 256 ∧ (∃ ad, A = some ad ∧ w.cell? (ad.add (p + j)) = some (.int .u8 (b : Int))) ∧ num (((l.drop p).take k).take (j + 1)) = num (((l.drop p).take k).take j) * 256 + b := by
  have hlen : ((l.drop p).take k).length = k := by simp; omega
  have hj' : j < ((l.drop p).take k).length := by omega
  refine ⟨(((l.drop p).take k)[j]'hj').toNat, UInt8.toNat_lt _, ?_, ?_⟩
  · refine hr (p + j) _ ?_
    rw [BV_getElem?, List.getElem_take, List.getElem_drop, List.getElem?_eq_getElem (by omega)]
    rfl
  · rw [List.take_succ_eq_append_getElem hj', num_snoc]

set_option maxHeartbeats 800000 in
theorem Word_yes (g : Nat) (v : Value) (l : List UInt8) (p : Nat) (k : Int) (w : World) (h : RR w g v l p false) (hk : wordOk l p false k = true) :
    Calls Tryz.prog 83 #[.pointer (some ⟨g, 0, none⟩), .int .i64 k] w fun e w' => e = .returned (.int .u64 (num ((l.drop p).take k.toNat))) ∧ RR w' g v l (p + k.toNat) false ∧ w.grownBy w' (some g) := by
  have hv := h.bs
  obtain ⟨A, c, rfl, hc1, hc2, hr⟩ := hv
  have h0 := h.blk.cell 0
  have h1 := h.blk.cell 1
  have h2 := h.blk.cell 2
  have f1 := h.blk.frozen 1
  have hle := h.le
  have hsm := h.small
  simp [badAt] at h0 h1 h2
  have hk2 : isW k = true ∧ k ≤ (l.length : Int) - p := by simpa [wordOk] using hk
  obtain ⟨hw, hn⟩ := hk2
  have hk8 := isW_cases hw
  obtain ⟨k, rfl⟩ := nat_of (n := k) (by omega)
  rw [Int.toNat_natCast]
  have hkb : 1 ≤ k ∧ k ≤ 8 := by omega
  clear hk hk8
  have HW := Lib.hid hw
  clear hw
  have hwr : IntKind.i64.wrap ((p : Int) + (k : Int)) = (p : Int) + (k : Int) := IntWalk.i64_in _ (by omega)
  have hdec : decide ((l.length : Int) < (p : Int) + (k : Int)) = false := by simp; omega
  go_enter Tryz.func83, Tryz.ntmps83
  go_wp2_with (go_at_call 102; refine (Wide_any _ _).mono ?_; rintro e w' ⟨rfl, rfl⟩; rw [HW.out])
  go_quiet (fail)
  clear hwr
  go_wp2
  go_loopw [6, 7] (fun m i wr => ∃ j n q : Nat, j ≤ k ∧ i = .int .i64 j ∧ m = .int .u64 q ∧ q < 256 ^ j ∧ Hid (q = num (((l.drop p).take k).take j)) ∧ wr = w.drewN n) (fun _ i _ => k - (intOf i).toNat)
  case atStart => exact ⟨0, nq, 0, Nat.zero_le _, rfl, rfl, by simp, Lib.hid (by simp [num]), rfl⟩
  case round =>
    obtain ⟨j, n, q, hj, rfl, rfl, hq, HQ, rfl⟩ := hrel
    by_cases hlt : j < k
    · obtain ⟨b, hb, ⟨ad, rfl, hc⟩, hstep⟩ := byte_step hr p k j hlt (by omega)
      rw [← HQ.out] at hstep
      have hq7 : q < 72057594037927936 := by
        have h3 : 256 ^ j ≤ 256 ^ 7 := Nat.pow_le_pow_right (by omega) (by omega)
        have h4 : (256 : Nat) ^ 7 = 72057594037927936 := by decide
        omega
      have hq8 : q * 256 + b < 256 ^ (j + 1) := by rw [Nat.pow_succ]; omega
      have HQ8 := Lib.hid hq8
      have HST := Lib.hid hstep
      clear hq hq8 hstep
      have e1 : IntKind.i64.wrap ((p : Int) + (j : Int)) = (p : Int) + (j : Int) := IntWalk.i64_in _ (by omega)
      have e2 : IntKind.u64.wrap (256 * (q : Int)) = 256 * (q : Int) := by rw [IntKind.wrap_u64]; omega
      have e3 : IntKind.u64.wrap (256 * (q : Int) + (b : Int)) = 256 * (q : Int) + (b : Int) := by rw [IntKind.wrap_u64]; omega
      have b0 : (0 : Int) ≤ (p : Int) + (j : Int) := by omega
      have b1 : (p : Int) + (j : Int) < (l.length : Int) := by omega
      have b2 : ((p : Int) + (j : Int)).toNat = p + j := by omega
      go_wp2
      go_quiet (fail)
      clear e1 e2 e3 b2
      go_wp2
      refine ⟨⟨j + 1, _, q * 256 + b, by omega, by go_num, ?_, HQ8.out, Lib.hid HST.out.symm, rfl⟩, by simp [intOf]; omega⟩
      go_num
    · obtain rfl : j = k := by omega
      have hlen : ((l.drop p).take j).length ≤ j := by simp; omega
      rw [List.take_of_length_le hlen] at HQ
      clear hlen
      go_wp2
      go_ret
      exact ⟨ret_int (by rw [HQ.out]), (h.drewN _).setAt (p + j) (by omega) _ (by omega), grown_drewN_left (grown_set _ _ _ _)⟩


theorem ownK : ownKnob Tryz.prog.godebug = none := by kernel_rfl

theorem laidO : laidOutB Tryz.prog = true := by kernel_rfl

theorem cellsB : Tryz.prog.cellsOf 5 = 1 := by kernel_rfl

theorem strT : Tryz.prog.underlying 9 = some .string := Tryz.underlying9

theorem eqCode (u : World) (a b : Int) : (binOp .eql 31 (code a) (code b)).run Tryz.prog u = .ok (.bool (a == b)) u :=
  Lib.run_eql_iface_int u a b Tryz.underlying31 (by kernel_rfl) Tryz.underlying73

def Bstr (l : List UInt8) : ByteArray := ⟨l.toArray⟩

theorem Bstr_append (l m : List UInt8) : Bstr l ++ Bstr m = Bstr (l ++ m) := by
  apply ByteArray.ext
  simp [Bstr]

theorem Bstr_toList (l : List UInt8) : (Bstr l).toList = l := ByteArray.toList_mk l

theorem Bstr_size (l : List UInt8) : (Bstr l).size = l.length := by simp [Bstr, ByteArray.size]

theorem addStr (l m : List UInt8) (h : l.length + m.length ≤ 140737488355328) (u : World) : (Op.stringOp .add (Bstr l) (Bstr m)).run Tryz.prog u = .ok (.string (Bstr (l ++ m))) u := by
  rw [run_string_add_sum u _ _ (by rw [Bstr_size, Bstr_size]; omega), Bstr_append]

theorem strOf {w : World} {v : Value} {l : List UInt8} (h : Bs w v l) : (convert 42 9 v).run Tryz.prog w = .ok (.string (Bstr l)) w := by
  obtain ⟨A, c, rfl, _, _, hr⟩ := h
  exact run_string w byteT strT A c l hr

end Go.Proofs.YtgafidnbmoomiaaGreatDoor
