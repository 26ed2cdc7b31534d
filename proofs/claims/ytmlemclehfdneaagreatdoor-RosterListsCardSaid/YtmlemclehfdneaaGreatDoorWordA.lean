/-
  CONTRACTS of the small functions of package word: isWidth, fits, number, copyWithRoom, appendNumber.
  CONTRACTS of package word: Put, Text.
  CONTRACTS of package word: Read, and the methods of Reader.
  CONTRACTS of the document's own answers (tankardref01): Wide, Fits, Bytes, Text.
  CONTRACTS of the document's own Reader (tankardref01): Word, Text.
  CONTRACTS of the document's own Reader (tankardref01): Text.
  THE HEAD OF LAYER 1's STATEMENTS: 'up' returns true; nothing that was there has turned.
-/
import Derived.Test.YtmlemclehfdneaaGreatDoorMem
import Derived.Test.YtmlemclehfdneaaGreatDoorRows
import Derived.Outline
import Derived.Lib.Hide
import Derived.Deep.QuietTactic
import Derived.BigQuiet
import Derived.Laws.BitsAllLaws
import Derived.IntWalk
import Derived.StillTailTactics
import Derived.Deep.RegionHeld3
import Derived.Lib.IfaceEq
import Derived.Lib.IfaceNeq
import Derived.WalkSpells
namespace Go.Proofs.YtmlemclehfdneaaGreatDoor
open Go.RowKit

def isW (n : Int) : Bool := n == 1 || n == 2 || n == 4 || n == 8

theorem isWidth_any (n : Int) (w : World) : Calls Tryz.prog 84 #[.int .i64 n] w fun e w' => e = .returned (.bool (isW n)) ∧ w = w' := by
  by_cases h1 : n = 1
  · subst h1
    go_enter Tryz.func84, Tryz.ntmps84
    go_wp2
    go_ret
    exact ⟨rfl, rfl⟩
  by_cases h2 : n = 2
  · subst h2
    go_enter Tryz.func84, Tryz.ntmps84
    go_wp2
    go_ret
    exact ⟨rfl, rfl⟩
  by_cases h4 : n = 4
  · subst h4
    go_enter Tryz.func84, Tryz.ntmps84
    go_wp2
    go_ret
    exact ⟨rfl, rfl⟩
  by_cases h8 : n = 8
  · subst h8
    go_enter Tryz.func84, Tryz.ntmps84
    go_wp2
    go_ret
    exact ⟨rfl, rfl⟩
  have e : isW n = false := by simp [isW, h1, h2, h4, h8]
  have b1 : (n == 1) = false := by simpa using h1
  have b2 : (n == 2) = false := by simpa using h2
  have b4 : (n == 4) = false := by simpa using h4
  have b8 : (n == 8) = false := by simpa using h8
  rw [e]
  clear e h1 h2 h4 h8
  go_enter Tryz.func84, Tryz.ntmps84
  go_wp2
  go_ret
  exact ⟨rfl, rfl⟩

theorem nat_of {n : Int} (h : 0 ≤ n) : ∃ k : Nat, n = (k : Int) := Int.eq_ofNat_of_zero_le h

theorem ret_bool {a b : Bool} (h : a = b) : Ending.returned (.bool a) = .returned (.bool b) := by rw [h]

theorem ret_int {k : IntKind} {a b : Int} (h : a = b) : Ending.returned (.int k a) = .returned (.int k b) := by rw [h]

theorem div_small (n m : Nat) (hm : 0 < m) : ((n : Int) / (m : Int) == 0) = decide (n < m) := by
  rw [Bool.eq_iff_iff, beq_iff_eq, decide_eq_true_iff]
  constructor
  · intro h
    have h' : n / m = 0 := by exact_mod_cast h
    exact (Nat.div_eq_zero_iff.1 h').resolve_left (by omega)
  · intro h
    have h' : n / m = 0 := Nat.div_eq_of_lt h
    exact_mod_cast h'

theorem fits_any (n : Int) (k : Int) (w : World) (hk : isW k = true) (h0 : 0 ≤ n) :
    Calls Tryz.prog 85 #[.int .u64 n, .int .i64 k] w fun e w' => e = .returned (.bool (decide (n.toNat < 256 ^ k.toNat))) ∧ w = w' := by
  obtain ⟨n, rfl⟩ := nat_of h0
  rw [Int.toNat_natCast]
  have hk' : k = 1 ∨ k = 2 ∨ k = 4 ∨ k = 8 := by simpa [isW, or_assoc] using hk
  clear hk
  rcases hk' with rfl | rfl | rfl | rfl
  all_goals
    go_enter Tryz.func85, Tryz.ntmps85
    go_wp2
    go_ret
    refine ⟨ret_bool ?_, rfl⟩
  · exact div_small n 256 (by omega)
  · exact div_small n 65536 (by omega)
  · exact div_small n 4294967296 (by omega)
  · exact div_small n 18446744073709551616 (by omega)

def bet (n : Nat) : Nat → List UInt8
  | 0 => []
  | k + 1 => UInt8.ofNat (n / 256 ^ k) :: bet n k

def num (l : List UInt8) : Nat := l.foldl (fun a b => a * 256 + b.toNat) 0

theorem num_snoc (l : List UInt8) (b : UInt8) : num (l ++ [b]) = num l * 256 + b.toNat := by simp [num]

theorem num_from (l : List UInt8) : ∀ a : Nat, l.foldl (fun a b => a * 256 + b.toNat) a < (a + 1) * 256 ^ l.length := by
  induction l with
  | nil => intro a; simp
  | cons b l ih =>
    intro a
    have hb := b.toNat_lt
    have h1 := ih (a * 256 + b.toNat)
    rw [List.foldl_cons, List.length_cons, Nat.pow_succ]
    refine Nat.lt_of_lt_of_le h1 ?_
    rw [Nat.mul_comm (256 ^ l.length) 256, ← Nat.mul_assoc]
    exact Nat.mul_le_mul_right _ (by omega)

theorem num_lt (l : List UInt8) : num l < 256 ^ l.length := by
  have := num_from l 0
  simpa [num] using this

theorem num_take_lt (l : List UInt8) (k : Nat) (hk : k < l.length) (hl : l.length ≤ 8) : num (l.take k) < 72057594037927936 := by
  have h := num_lt (l.take k)
  have h2 : (l.take k).length ≤ 7 := by simp; omega
  have h3 : 256 ^ (l.take k).length ≤ 256 ^ 7 := Nat.pow_le_pow_right (by omega) h2
  have h4 : (256 : Nat) ^ 7 = 72057594037927936 := by decide
  omega

theorem num_lt8 (l : List UInt8) (hl : l.length ≤ 8) : num l < 18446744073709551616 := by
  have h := num_lt l
  have h3 : 256 ^ l.length ≤ 256 ^ 8 := Nat.pow_le_pow_right (by omega) hl
  have h4 : (256 : Nat) ^ 8 = 18446744073709551616 := by decide
  omega

theorem or_step (a b : Nat) (ha : a < 72057594037927936) (hb : b < 256) : bits .or .u64 ((a : Int) * 256) (b : Int) = ((a * 256 + b : Nat) : Int) := by
  have hw : (a : Int) * 256 = ((a * 256 : Nat) : Int) := by omega
  rw [hw, u64_or_nat _ _ (by omega) (by omega)]
  have := Nat.two_pow_add_eq_or_of_lt (i := 8) (b := b) (by omega) a
  rw [show a * 256 = 2 ^ 8 * a by omega, ← this]

set_option maxHeartbeats 400000 in
theorem number_any (l : List UInt8) (v : Value) (w : World) (hl : l.length ≤ 8) (hv : Bs w v l) :
    Calls Tryz.prog 109 #[v] w fun e w' => e = .returned (.int .u64 (num l)) ∧ w = w' := by
  obtain ⟨A, c, rfl, hc1, hc2, hr⟩ := hv
  go_enter Tryz.func109, Tryz.ntmps109
  go_wp2
  go_loop [3, 8] (fun n i => ∃ k : Nat, k ≤ l.length ∧ i = .int .i64 k ∧ n = .int .u64 (num (l.take k))) (fun _ i => l.length - (intOf i).toNat)
  case atStart => exact ⟨0, Nat.zero_le _, rfl, rfl⟩
  case round =>
    obtain ⟨k, hk, rfl, rfl⟩ := hrel
    by_cases hlt : k < l.length
    · obtain ⟨ad, rfl, hc⟩ := hr k (.int .u8 (l[k].toNat : Int)) (by simp [BV_getElem?, hlt])
      have hb : l[k].toNat < 256 := l[k].toNat_lt
      have ht := num_take_lt l k hlt hl
      have hs : num (l.take (k + 1)) = num (l.take k) * 256 + l[k].toNat := by rw [List.take_succ_eq_append_getElem hlt, num_snoc]
      have HS := Lib.hid hs
      clear hs
      go_wp2
      refine ⟨⟨k + 1, by omega, by go_num, ?_⟩, by simp [intOf]; omega⟩
      rw [or_step _ _ ht hb, HS.out]
    · go_wp2
      go_ret
      exact ⟨ret_int (by rw [List.take_of_length_le (by omega)]), rfl⟩

theorem byteT : ByteT Tryz.prog 54 5 := ⟨Tryz.underlying54, Tryz.underlying5, by
  obtain ⟨i, h1, h2, h3, h4⟩ := info_parts (P := Tryz.prog) (e := 5) (z := .int .u8 0) (size := 1) (bytes := 1) (by kernel_rfl)
  exact ⟨i, h1, h2, h3, h4⟩⟩

set_option maxHeartbeats 400000 in
theorem copyWithRoom_any (l : List UInt8) (v : Value) (r : Int) (w : World) (h0 : 0 ≤ r) (hl : l.length + r ≤ 140737488355328) (hv : Bs w v l) :
    Calls Tryz.prog 87 #[v, .int .i64 r] w fun e w' => ∃ v', e = .returned v' ∧ Own w' w.heap.size 5 v' l ∧ Below w.heap.size w w' := by
  obtain ⟨r, rfl⟩ := nat_of h0
  have hl : l.length + r ≤ 140737488355328 := by omega
  obtain ⟨A, c, rfl, hc1, hc2, hr⟩ := hv
  have hmk : ∀ u : World, (Instr.makeSlice 54 (.int .i64 0) (.int .i64 ((l.length : Int) + (r : Int)))).run Tryz.prog u =
      .ok (.slice (some ⟨u.heap.size, 0, none⟩) 0 (l.length + r)) (u.alloc (.cells (madeCells #[.int .u8 0] (l.length + r)) 5)) := fun u => by
    have h := run_make_bytes byteT .i64 .i64 0 (l.length + r) (by omega) hl u
    rw [Int.natCast_add] at h
    exact h
  have hown : Own (w.alloc (.cells (madeCells #[.int .u8 0] (l.length + r)) 5)) w.heap.size 5 (.slice (some ⟨w.heap.size, 0, none⟩) 0 (l.length + r)) [] :=
    Own.made w _ _ _ _ (Nat.le_refl _) (by simp only [maxLen]; omega) (by simp [madeCells])
  have HO := Lib.hid hown
  clear hown
  go_enter Tryz.func87, Tryz.ntmps87
  go_wp2_with (at_builtin; refine wpList_append_bytes _ byteT rfl _ _ rfl w.heap.size _ [] rfl HO.out _ _ _ l rfl rfl (hr.alloc _) (by simp; omega) (by simp) ?_)
  intro v' w' h1 h2 h3
  go_wp2
  go_ret
  exact ⟨v', rfl, h1, ((Below.refl _ w).alloc (Nat.le_refl _) _).grown h2 (by simp) (by intro k hk; simp [Value.ownBlock] at hk; omega)⟩

theorem bet_length (n k : Nat) : (bet n k).length = k := by
  induction k with
  | zero => rfl
  | succ k ih => simp [bet, ih]

theorem byte_at (n k : Nat) : (n : Int) / 2 ^ (8 * k) % 256 = ((UInt8.ofNat (n / 256 ^ k)).toNat : Int) := by
  have h : (2 : Int) ^ (8 * k) = ((256 ^ k : Nat) : Int) := by rw [Int.pow_mul]; simp
  rw [h]
  simp

set_option maxHeartbeats 400000 in
theorem appendNumber_any (l : List UInt8) (v : Value) (base : Nat) (wide n : Int) (w : World) (h0 : 0 ≤ wide) (hw : wide ≤ 8) (hn : 0 ≤ n) (hown : Own w base 5 v l)
    (hl : l.length + wide ≤ 140737488355328) (hbase : base ≤ w.heap.size) :
    Calls Tryz.prog 86 #[v, .int .i64 wide, .int .u64 n] w fun e w' =>
      ∃ v', e = .returned v' ∧ Own w' base 5 v' (l ++ bet n.toNat wide.toNat) ∧ Below base w w' := by
  obtain ⟨n, rfl⟩ := nat_of hn
  obtain ⟨wide, rfl⟩ := nat_of h0
  rw [Int.toNat_natCast, Int.toNat_natCast]
  have hl : l.length + wide ≤ 140737488355328 := by omega
  have HO := Lib.hid hown
  clear hown
  go_enter Tryz.func86, Tryz.ntmps86
  go_wp2
  go_loopw [0, 7] (fun v i wr => ∃ (k : Nat) (m : List UInt8), k ≤ wide ∧ i = .int .i64 ((k : Int) - 1) ∧ m ++ bet n k = l ++ bet n wide ∧ Own wr base 5 v m ∧ Below base w wr) (fun _ i _ => (intOf i + 1).toNat)
  case atStart => exact ⟨wide, l, Nat.le_refl _, rfl, rfl, HO.out, Below.refl _ _⟩
  case round =>
    obtain ⟨k, m, hk, rfl, hm, hown, hb⟩ := hrel
    have HM := Lib.hid hm
    have HO' := Lib.hid hown
    have hml : m.length + k = l.length + wide := by
      have := congrArg List.length hm
      simpa [bet_length] using this
    clear hm hown
    cases k with
    | zero =>
      go_wp2
      go_ret
      have hme : m = l ++ bet n wide := by simpa [bet] using HM.out
      subst hme
      exact ⟨_, rfl, HO'.out, hb⟩
    | succ k =>
      have hbs := hb.size
      go_wp2_with (at_builtin; refine wpList_append_bytes _ byteT rfl _ _ rfl base _ m rfl (HO'.out.alloc _) _ _ _ [UInt8.ofNat (n / 256 ^ k)] rfl rfl ?c1 (by simp; omega) (by simp; omega) ?_)
      case c1 => exact Rd.one _ _ _ (congrArg _ (byte_at n k))
      intro v' w' h1 h2 h3
      go_wp2
      refine ⟨⟨k, _, by omega, rfl, ?_, h1, (hb.alloc (by omega) _).grown h2 (by simp; omega) HO'.out.ge⟩, by simp [intOf]⟩
      simpa [bet] using HM.out

def putOk (k n : Int) : Bool := isW k && decide (n.toNat < 256 ^ k.toNat)

theorem isW_cases {k : Int} (h : isW k = true) : k = 1 ∨ k = 2 ∨ k = 4 ∨ k = 8 := by simpa [isW, or_assoc] using h

abbrev code (n : Int) : Value := .iface 58 (.int .i64 n)

set_option maxHeartbeats 400000 in
theorem put_ok (l : List UInt8) (v : Value) (k n : Int) (w : World) (h0 : 0 ≤ n) (h : putOk k n = true) (hl : l.length ≤ 140737488355320) (hv : Bs w v l) :
    Calls Tryz.prog 39 #[v, .int .i64 k, .int .u64 n] w fun e w' =>
      ∃ v', e = .returned (.tuple #[v', .nilIface]) ∧ Own w' w.heap.size 5 v' (l ++ bet n.toNat k.toNat) ∧ Below w.heap.size w w' := by
  have hk : isW k = true := by simp [putOk] at h; exact h.1
  have hf : decide (n.toNat < 256 ^ k.toNat) = true := by simp [putOk] at h; simpa using h.2
  have h8 : 0 ≤ k ∧ k ≤ 8 := by have := isW_cases hk; omega
  have HK := Lib.hid hk
  have HF := Lib.hid hf
  clear hk h hf
  go_enter Tryz.func39, Tryz.ntmps39
  go_wp2_with (first | (go_at_call 84; refine (isWidth_any _ _).mono ?_; rintro e w' ⟨rfl, rfl⟩; rw [HK.out]) | (go_at_call 85; refine (fits_any _ _ _ HK.out h0).mono ?_; rintro e w' ⟨rfl, rfl⟩; rw [HF.out]))
  refine (copyWithRoom_any l v k _ (by omega) (by omega) hv).mono ?_
  rintro e w1 ⟨v1, rfl, hown1, hb1⟩
  go_wp2_with fail
  refine (appendNumber_any l v1 w.heap.size k n _ (by omega) (by omega) h0 hown1 (by omega) hb1.size).mono ?_
  rintro e w2 ⟨v2, rfl, hown2, hb2⟩
  go_wp2_with fail
  go_ret2
  exact ⟨v2, rfl, hown2, hb1.trans hb2⟩

structure WR (w : World) (g : Nat) (v : Value) (l : List UInt8) (p : Nat) (bad : Bool) : Prop where
  blk : Blk w g 168 #[v, .int .i64 p, .bool bad]
  bs : Bs w v l
  le : p ≤ l.length
  ne : l ≠ [] → v.ownBlock ≠ some g

theorem left_any (g : Nat) (v : Value) (l : List UInt8) (p : Nat) (bad : Bool) (w : World) (h : WR w g v l p bad) :
    Calls Tryz.prog 93 #[.pointer (some ⟨g, 0, none⟩)] w fun e w' => e = .returned (.int .i64 ((l.length : Int) - p)) ∧ ∃ n, w' = w.drewN n := by
  obtain ⟨A, c, rfl, hc1, hc2, hr⟩ := h.bs
  have h0 := h.blk.cell 0
  have h1 := h.blk.cell 1
  have hle := h.le
  simp at h0 h1
  go_enter Tryz.func93, Tryz.ntmps93
  go_wp2
  go_quiet (fail)
  go_wp2
  go_ret
  exact ⟨rfl, _, rfl⟩

theorem bad_any (g : Nat) (v : Value) (l : List UInt8) (p : Nat) (bad : Bool) (w : World) (h : WR w g v l p bad) :
    Calls Tryz.prog 92 #[.pointer (some ⟨g, 0, none⟩)] w fun e w' => e = .returned (.int .i64 (if bad then (p : Int) else -1)) ∧ w = w' := by
  have h1 := h.blk.cell 1
  have h2 := h.blk.cell 2
  simp at h1 h2
  cases bad
  all_goals
    go_enter Tryz.func92, Tryz.ntmps92
    go_wp2
    go_ret
    exact ⟨rfl, rfl⟩

theorem read_any (v : Value) (l : List UInt8) (w : World) (h : Bs w v l) :
    Calls Tryz.prog 90 #[v] w fun e w' => e = .returned (.pointer (some ⟨w.heap.size, 0, none⟩)) ∧ WR w' w.heap.size v l 0 false ∧ Below w.heap.size w w' := by
  have hb := h
  obtain ⟨A, c, rfl, hc1, hc2, hr⟩ := h
  go_enter Tryz.func90, Tryz.ntmps90
  go_wp2
  go_ret
  refine ⟨rfl, ⟨Blk.new _ _ _, hb.alloc _, Nat.zero_le _, ?_⟩, (Below.refl _ _).alloc (Nat.le_refl _) _⟩
  intro hl e
  obtain ⟨k, hk, hlt⟩ := hb.block hl
  rw [hk] at e
  injection e with e
  omega

theorem WR.drewN {w : World} {g : Nat} {v : Value} {l : List UInt8} {p : Nat} {bad : Bool} (h : WR w g v l p bad) (n : Nat) : WR (w.drewN n) g v l p bad := ⟨h.blk, h.bs, h.le, h.ne⟩

theorem WR.drew {w : World} {g : Nat} {v : Value} {l : List UInt8} {p : Nat} {bad : Bool} (h : WR w g v l p bad) : WR w.drew g v l p bad := ⟨h.blk, h.bs, h.le, h.ne⟩

theorem WR.grown {w w' : World} {row : Option Nat} {g : Nat} {v : Value} {l : List UInt8} {p : Nat} {bad : Bool} (h : WR w g v l p bad) (hg : w.grownBy w' row) (hne : some g ≠ row) (hv : l ≠ [] → v.ownBlock ≠ row) : WR w' g v l p bad := ⟨h.blk.grown hg hne, h.bs.grown hg hv, h.le, h.ne⟩

theorem WR.setBad {w : World} {g : Nat} {v : Value} {l : List UInt8} {p : Nat} {bad : Bool} (h : WR w g v l p bad) (b : Bool) : WR (w.setCell ⟨g, 2, none⟩ (.bool b)) g v l p b :=
  ⟨h.blk.set_ 2 _, h.bs.grown (grown_set w g 2 _) h.ne, h.le, h.ne⟩

theorem WR.setAt {w : World} {g : Nat} {v : Value} {l : List UInt8} {p : Nat} {bad : Bool} (h : WR w g v l p bad) (q : Nat) (hq : q ≤ l.length) (n : Int) (hn : n = (q : Int)) : WR (w.setCell ⟨g, 1, none⟩ (.int .i64 n)) g v l q bad := by
  subst hn
  exact ⟨h.blk.set_ 1 _, h.bs.grown (grown_set w g 1 _) h.ne, hq, h.ne⟩

theorem WR.below {w w' : World} {g : Nat} {v : Value} {l : List UInt8} {p : Nat} {bad : Bool} (h : WR w g v l p bad) (hb : Below w.heap.size w w') : WR w' g v l p bad := ⟨h.blk.below hb h.blk.lt, h.bs.below hb, h.le, h.ne⟩

theorem WR.alloc {w : World} {g : Nat} {v : Value} {l : List UInt8} {p : Nat} {bad : Bool} (h : WR w g v l p bad) (o : Obj) : WR (w.alloc o) g v l p bad := ⟨h.blk.alloc o, h.bs.alloc o, h.le, h.ne⟩

def wordOk (l : List UInt8) (p : Nat) (bad : Bool) (k : Int) : Bool := !bad && isW k && decide (k ≤ (l.length : Int) - p)

set_option maxHeartbeats 400000 in
theorem word_no (g : Nat) (v : Value) (l : List UInt8) (p : Nat) (bad : Bool) (k : Int) (w : World) (h : WR w g v l p bad) (hk : wordOk l p bad k = false) :
    Calls Tryz.prog 91 #[.pointer (some ⟨g, 0, none⟩), .int .i64 k] w fun e w' => e = .returned (.int .u64 0) ∧ WR w' g v l p true ∧ w.grownBy w' (some g) := by
  have h2 := h.blk.cell 2
  have f2 := h.blk.frozen 2
  simp at h2
  cases bad with
  | true =>
    clear hk
    go_enter Tryz.func91, Tryz.ntmps91
    go_wp2_with fail
    go_ret
    exact ⟨rfl, h.setBad true, grown_set _ _ _ _⟩
  | false =>
    cases hw : isW k with
    | false =>
      clear hk
      have HW := Lib.hid hw
      clear hw
      go_enter Tryz.func91, Tryz.ntmps91
      go_wp2_with (go_at_call 84; refine (isWidth_any _ _).mono ?_; rintro e w' ⟨rfl, rfl⟩; rw [HW.out])
      go_ret
      exact ⟨rfl, h.setBad true, grown_set _ _ _ _⟩
    | true =>
      have hn : ¬ k ≤ (l.length : Int) - p := by simpa [wordOk, hw] using hk
      clear hk
      have HW := Lib.hid hw
      clear hw
      go_enter Tryz.func91, Tryz.ntmps91
      go_wp2_with (first | (go_at_call 84; refine (isWidth_any _ _).mono ?_; rintro e w' ⟨rfl, rfl⟩; rw [HW.out]) | (go_at_call 93; refine (left_any g v l p false _ h).mono ?_; rintro e w' ⟨rfl, n, rfl⟩))
      go_ret
      exact ⟨rfl, (h.drewN n).setBad true, grown_drewN_left (grown_set _ _ _ _)⟩

theorem elemB : Tryz.prog.elem 54 = 5 := by kernel_rfl

set_option maxHeartbeats 400000 in
theorem word_yes (g : Nat) (v : Value) (l : List UInt8) (p : Nat) (bad : Bool) (k : Int) (w : World) (h : WR w g v l p bad) (hk : wordOk l p bad k = true) :
    Calls Tryz.prog 91 #[.pointer (some ⟨g, 0, none⟩), .int .i64 k] w fun e w' => e = .returned (.int .u64 (num ((l.drop p).take k.toNat))) ∧ WR w' g v l (p + k.toNat) false ∧ w.grownBy w' (some g) := by
  have hk3 : bad = false ∧ isW k = true ∧ k ≤ (l.length : Int) - p := by simpa [wordOk, and_assoc] using hk
  obtain ⟨rfl, hw, hn⟩ := hk3
  have hle := h.le
  have h8 := isW_cases hw
  obtain ⟨k, rfl⟩ := nat_of (n := k) (by omega)
  rw [Int.toNat_natCast]
  have hk8 : 1 ≤ k ∧ k ≤ 8 := by omega
  clear h8 hk
  have HW := Lib.hid hw
  clear hw
  have hv := h.bs
  obtain ⟨A, c, rfl, hc1, hc2, hr⟩ := hv
  have h0 := h.blk.cell 0
  have h1 := h.blk.cell 1
  have h2 := h.blk.cell 2
  have f1 := h.blk.frozen 1
  simp at h0 h1 h2
  obtain ⟨V, hsl, hV, _⟩ := slice_bytes (P := Tryz.prog) w byteT elemB hr hc1 hc2 p (p + k) (by omega) (by omega) (p : Int) ((p : Int) + (k : Int)) rfl (by omega)
  rw [Nat.add_sub_cancel_left] at hV
  have hlen : ((l.drop p).take k).length ≤ 8 := by simp; omega
  have hwr : IntKind.i64.wrap ((p : Int) + (k : Int)) = (p : Int) + (k : Int) := IntWalk.i64_in _ (by omega)
  go_enter Tryz.func91, Tryz.ntmps91
  go_wp2_with (first | (go_at_call 84; refine (isWidth_any _ _).mono ?_; rintro e w' ⟨rfl, rfl⟩; rw [HW.out]) | (go_at_call 93; refine (left_any g _ l p false _ h).mono ?_; rintro e w' ⟨rfl, n, rfl⟩))
  go_quiet ((go_at_call 109; exact (number_any ((l.drop p).take k) V _ hlen (by exact hV)).mono fun _ _ ⟨h1, h2⟩ => ⟨h1, _, h2.symm⟩))
  clear hwr hsl
  go_wp2
  go_ret
  exact ⟨rfl, (h.drewN _).setAt (p + k) (by omega) _ (by omega), grown_drewN_left (grown_set _ _ _ _)⟩

def tsize (l : List UInt8) (p : Nat) : Nat := num ((l.drop p).take 2)

theorem tsize_lt (l : List UInt8) (p : Nat) : tsize l p < 65536 := by
  have h := num_lt ((l.drop p).take 2)
  have h3 : 256 ^ ((l.drop p).take 2).length ≤ 256 ^ 2 := Nat.pow_le_pow_right (by omega) (by simp; omega)
  unfold tsize
  omega

theorem Wide_any (n : Int) (w : World) : Calls Tryz.prog 111 #[.int .i64 n] w fun e w' => e = .returned (.bool (isW n)) ∧ w = w' := by
  by_cases h1 : n = 1
  · subst h1
    go_enter Tryz.func111, Tryz.ntmps111
    go_wp2
    go_ret
    exact ⟨rfl, rfl⟩
  by_cases h2 : n = 2
  · subst h2
    go_enter Tryz.func111, Tryz.ntmps111
    go_wp2
    go_ret
    exact ⟨rfl, rfl⟩
  by_cases h4 : n = 4
  · subst h4
    go_enter Tryz.func111, Tryz.ntmps111
    go_wp2
    go_ret
    exact ⟨rfl, rfl⟩
  by_cases h8 : n = 8
  · subst h8
    go_enter Tryz.func111, Tryz.ntmps111
    go_wp2
    go_ret
    exact ⟨rfl, rfl⟩
  have e : isW n = false := by simp [isW, h1, h2, h4, h8]
  have b1 : (n == 1) = false := by simpa using h1
  have b2 : (n == 2) = false := by simpa using h2
  have b4 : (n == 4) = false := by simpa using h4
  have b8 : (n == 8) = false := by simpa using h8
  rw [e]
  clear e h1 h2 h4 h8
  go_enter Tryz.func111, Tryz.ntmps111
  go_wp2
  go_ret
  exact ⟨rfl, rfl⟩

theorem bet_snoc (n k : Nat) : bet n (k + 1) = bet (n / 256) k ++ [UInt8.ofNat n] := by
  induction k with
  | zero => simp [bet]
  | succ k ih =>
    rw [bet, ih]
    simp only [bet, List.cons_append]
    rw [Nat.div_div_eq_div_mul, Nat.pow_succ, Nat.mul_comm]

theorem Bytes_nat (k : Nat) : ∀ (n : Int) (w : World), k ≤ 8 → 0 ≤ n → n < 18446744073709551616 →
    Calls Tryz.prog 47 #[.int .i64 k, .int .u64 n] w fun e w' => ∃ v, e = .returned v ∧ Own w' w.heap.size 5 v (bet n.toNat k) ∧ Below w.heap.size w w' := by
  induction k with
  | zero =>
    intro n w _ _ _
    go_enter Tryz.func47, Tryz.ntmps47
    go_wp2_with fail
    go_ret
    exact ⟨_, rfl, Own.nil _ _ _, Below.refl _ _⟩
  | succ k ih =>
    intro n w hk h0 hn
    have IH := Lib.hid ih
    clear ih
    have hz : (((k + 1 : Nat) : Int) == 0) = false := beq_eq_false_iff_ne.2 (by omega)
    go_enter Tryz.func47, Tryz.ntmps47
    go_wp2_with fail
    refine (IH.out _ _ (by omega) (by omega) (by omega)).mono ?_
    rintro e w1 ⟨v1, rfl, hown1, hb1⟩
    have hs1 := hb1.size
    go_wp2_with (at_builtin; refine wpList_append_bytes _ byteT rfl _ _ rfl w.heap.size _ _ rfl (hown1.alloc _) _ _ _ [UInt8.ofNat n.toNat] rfl rfl (Rd.one _ _ _ ?c1) ?c2 ?c3 ?_)
    case c1 =>
      obtain ⟨n, rfl⟩ := nat_of h0
      simp
    case c2 => simp [bet_length]; omega
    case c3 => simp; omega
    intro v2 w2 hown2 hg2 _
    go_wp2
    go_ret
    refine ⟨_, rfl, ?_, (hb1.alloc (by omega) _).grown hg2 (by simp; omega) hown1.ge⟩
    have hq : (n / 256).toNat = n.toNat / 256 := by omega
    rw [bet_snoc, ← hq]
    exact hown2

theorem Bytes_any (k n : Int) (w : World) (h0 : 0 ≤ k) (h8 : k ≤ 8) (hn : 0 ≤ n) (hn' : n < 18446744073709551616) :
    Calls Tryz.prog 47 #[.int .i64 k, .int .u64 n] w fun e w' => ∃ v, e = .returned v ∧ Own w' w.heap.size 5 v (bet n.toNat k.toNat) ∧ Below w.heap.size w w' := by
  obtain ⟨k, rfl⟩ := nat_of h0
  exact Bytes_nat k n w (by omega) hn hn'

def badAt (bad : Bool) (p : Nat) : Int := if bad then (p : Int) else -1

structure RR (w : World) (g : Nat) (v : Value) (l : List UInt8) (p : Nat) (bad : Bool) : Prop where
  blk : Blk w g 156 #[v, .int .i64 p, .int .i64 (badAt bad p)]
  bs : Bs w v l
  le : p ≤ l.length
  ne : l ≠ [] → v.ownBlock ≠ some g
  small : l.length ≤ 140737488355328

section
variable {w w' : World} {g : Nat} {v : Value} {l : List UInt8} {p : Nat} {bad : Bool}
theorem RR.drewN (h : RR w g v l p bad) (n : Nat) : RR (w.drewN n) g v l p bad := ⟨h.blk, h.bs, h.le, h.ne, h.small⟩

theorem RR.drew (h : RR w g v l p bad) : RR w.drew g v l p bad := ⟨h.blk, h.bs, h.le, h.ne, h.small⟩

theorem RR.grown {row : Option Nat} (h : RR w g v l p bad) (hg : w.grownBy w' row) (hne : some g ≠ row) (hv : l ≠ [] → v.ownBlock ≠ row) : RR w' g v l p bad := ⟨h.blk.grown hg hne, h.bs.grown hg hv, h.le, h.ne, h.small⟩

theorem RR.below (h : RR w g v l p bad) (hb : Below w.heap.size w w') : RR w' g v l p bad := ⟨h.blk.below hb h.blk.lt, h.bs.below hb, h.le, h.ne, h.small⟩

theorem RR.setBad (h : RR w g v l p bad) : RR (w.setCell ⟨g, 2, none⟩ (.int .i64 p)) g v l p true :=
  ⟨h.blk.set_ 2 _, h.bs.grown (grown_set w g 2 _) h.ne, h.le, h.ne, h.small⟩

theorem RR.setAt (h : RR w g v l p false) (q : Nat) (hq : q ≤ l.length) (n : Int) (hn : n = (q : Int)) : RR (w.setCell ⟨g, 1, none⟩ (.int .i64 n)) g v l q false := by
  subst hn
  exact ⟨h.blk.set_ 1 _, h.bs.grown (grown_set w g 1 _) h.ne, hq, h.ne, h.small⟩

end

theorem byte_step {w : World} {A : Option Addr} {l : List UInt8} (hr : Rd w A (BV l)) (p k j : Nat) (hj : j < k) (hk : p + k ≤ l.length) :
    ∃ b : Nat, b < 256 ∧ (∃ ad, A = some ad ∧ w.cell? (ad.add (p + j)) = some (.int .u8 (b : Int))) ∧ num (((l.drop p).take k).take (j + 1)) = num (((l.drop p).take k).take j) * 256 + b := by
  have hlen : ((l.drop p).take k).length = k := by simp; omega
  have hj' : j < ((l.drop p).take k).length := by omega
  refine ⟨(((l.drop p).take k)[j]'hj').toNat, UInt8.toNat_lt _, ?_, ?_⟩
  · refine hr (p + j) _ ?_
    rw [BV_getElem?, List.getElem_take, List.getElem_drop, List.getElem?_eq_getElem (by omega)]
    rfl
  · rw [List.take_succ_eq_append_getElem hj', num_snoc]

set_option maxHeartbeats 800000 in
theorem Word_yes (g : Nat) (v : Value) (l : List UInt8) (p : Nat) (k : Int) (w : World) (h : RR w g v l p false) (hk : wordOk l p false k = true) :
    Calls Tryz.prog 96 #[.pointer (some ⟨g, 0, none⟩), .int .i64 k] w fun e w' => e = .returned (.int .u64 (num ((l.drop p).take k.toNat))) ∧ RR w' g v l (p + k.toNat) false ∧ w.grownBy w' (some g) := by
  have hv := h.bs
  obtain ⟨A, c, rfl, hc1, hc2, hr⟩ := hv
  have h0 := h.blk.cell 0
  have h1 := h.blk.cell 1
  have h2 := h.blk.cell 2
  have f1 := h.blk.frozen 1
  have hle := h.le
  have hsm := h.small
  simp [badAt] at h0 h1 h2
  have hk2 : isW k = true ∧ k ≤ (l.length : Int) - p := by simpa [wordOk] using hk
  obtain ⟨hw, hn⟩ := hk2
  have hk8 := isW_cases hw
  obtain ⟨k, rfl⟩ := nat_of (n := k) (by omega)
  rw [Int.toNat_natCast]
  have hkb : 1 ≤ k ∧ k ≤ 8 := by omega
  clear hk hk8
  have HW := Lib.hid hw
  clear hw
  have hwr : IntKind.i64.wrap ((p : Int) + (k : Int)) = (p : Int) + (k : Int) := IntWalk.i64_in _ (by omega)
  have hdec : decide ((l.length : Int) < (p : Int) + (k : Int)) = false := by simp; omega
  go_enter Tryz.func96, Tryz.ntmps96
  go_wp2_with (go_at_call 111; refine (Wide_any _ _).mono ?_; rintro e w' ⟨rfl, rfl⟩; rw [HW.out])
  go_quiet (fail)
  clear hwr
  go_wp2
  go_loopw [6, 7] (fun m i wr => ∃ j n q : Nat, j ≤ k ∧ i = .int .i64 j ∧ m = .int .u64 q ∧ q < 256 ^ j ∧ Hid (q = num (((l.drop p).take k).take j)) ∧ wr = w.drewN n) (fun _ i _ => k - (intOf i).toNat)
  case atStart => exact ⟨0, nq, 0, Nat.zero_le _, rfl, rfl, by simp, Lib.hid (by simp [num]), rfl⟩
  case round =>
    obtain ⟨j, n, q, hj, rfl, rfl, hq, HQ, rfl⟩ := hrel
    by_cases hlt : j < k
    · obtain ⟨b, hb, ⟨ad, rfl, hc⟩, hstep⟩ := byte_step hr p k j hlt (by omega)
      rw [← HQ.out] at hstep
      have hq7 : q < 72057594037927936 := by
        have h3 : 256 ^ j ≤ 256 ^ 7 := Nat.pow_le_pow_right (by omega) (by omega)
        have h4 : (256 : Nat) ^ 7 = 72057594037927936 := by decide
        omega
      have hq8 : q * 256 + b < 256 ^ (j + 1) := by rw [Nat.pow_succ]; omega
      have HQ8 := Lib.hid hq8
      have HST := Lib.hid hstep
      clear hq hq8 hstep
      have e1 : IntKind.i64.wrap ((p : Int) + (j : Int)) = (p : Int) + (j : Int) := IntWalk.i64_in _ (by omega)
      have e2 : IntKind.u64.wrap (256 * (q : Int)) = 256 * (q : Int) := by rw [IntKind.wrap_u64]; omega
      have e3 : IntKind.u64.wrap (256 * (q : Int) + (b : Int)) = 256 * (q : Int) + (b : Int) := by rw [IntKind.wrap_u64]; omega
      have b0 : (0 : Int) ≤ (p : Int) + (j : Int) := by omega
      have b1 : (p : Int) + (j : Int) < (l.length : Int) := by omega
      have b2 : ((p : Int) + (j : Int)).toNat = p + j := by omega
      go_wp2
      go_quiet (fail)
      clear e1 e2 e3 b2
      go_wp2
      refine ⟨⟨j + 1, _, q * 256 + b, by omega, by go_num, ?_, HQ8.out, Lib.hid HST.out.symm, rfl⟩, by simp [intOf]; omega⟩
      go_num
    · obtain rfl : j = k := by omega
      have hlen : ((l.drop p).take j).length ≤ j := by simp; omega
      rw [List.take_of_length_le hlen] at HQ
      clear hlen
      go_wp2
      go_ret
      exact ⟨ret_int (by rw [HQ.out]), (h.drewN _).setAt (p + j) (by omega) _ (by omega), grown_drewN_left (grown_set _ _ _ _)⟩


theorem ownK : ownKnob Tryz.prog.godebug = none := by kernel_rfl

theorem laidO : laidOutB Tryz.prog = true := by kernel_rfl

theorem cellsB : Tryz.prog.cellsOf 5 = 1 := by kernel_rfl

theorem strT : Tryz.prog.underlying 9 = some .string := Tryz.underlying9

theorem eqCode (u : World) (a b : Int) : (binOp .eql 30 (code a) (code b)).run Tryz.prog u = .ok (.bool (a == b)) u :=
  Lib.run_eql_iface_int u a b Tryz.underlying30 (by kernel_rfl) Tryz.underlying58

theorem neCode (u : World) (a b : Int) : (binOp .neq 30 (code a) (code b)).run Tryz.prog u = .ok (.bool (!(a == b))) u :=
  Lib.run_neq_iface_int u a b Tryz.underlying30 (by kernel_rfl) Tryz.underlying58

def Bstr (l : List UInt8) : ByteArray := ⟨l.toArray⟩

theorem Bstr_append (l m : List UInt8) : Bstr l ++ Bstr m = Bstr (l ++ m) := by
  apply ByteArray.ext
  simp [Bstr]

theorem Bstr_toList (l : List UInt8) : (Bstr l).toList = l := ByteArray.toList_mk l

theorem Bstr_size (l : List UInt8) : (Bstr l).size = l.length := by simp [Bstr, ByteArray.size]

theorem addStr (l m : List UInt8) (h : l.length + m.length ≤ 140737488355328) (u : World) : (Op.stringOp .add (Bstr l) (Bstr m)).run Tryz.prog u = .ok (.string (Bstr (l ++ m))) u := by
  rw [run_string_add_sum u _ _ (by rw [Bstr_size, Bstr_size]; omega), Bstr_append]

theorem strOf {w : World} {v : Value} {l : List UInt8} (h : Bs w v l) : (convert 54 9 v).run Tryz.prog w = .ok (.string (Bstr l)) w := by
  obtain ⟨A, c, rfl, _, _, hr⟩ := h
  exact run_string w byteT strT A c l hr

end Go.Proofs.YtmlemclehfdneaaGreatDoor
