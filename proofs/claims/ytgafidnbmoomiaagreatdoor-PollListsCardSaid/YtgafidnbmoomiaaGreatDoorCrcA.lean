/-
  THE SUM OF BYTES as a function of lists, and the contracts of crc.shiftOut, crc.On, crc.Sum and the document's own Sum: each returns it, and leaves the memory as it was.
  CONTRACTS of crc.On, crc.Sum and the document's own Sum: each returns the sum, and leaves the memory as it was.
  CONTRACTS of crc.Seal, crc.Open and bytes.Clone.
  CONTRACTS of crc.Open at four bytes and more, and of the document's own Seal and Open; tankardlaw00.Code.
  THE HEAD OF LAYER 2's STATEMENTS; and why one byte that is another one is told: sums of lists that differ in one byte differ.
-/
import Derived.Test.YtgafidnbmoomiaaGreatDoorWordA
import Derived.Test.YtgafidnbmoomiaaGreatDoorMore
import Derived.Test.YtgafidnbmoomiaaGreatDoorMix
import Derived.Lib.SlBytesConst
namespace Go.Proofs.YtgafidnbmoomiaaGreatDoor
open Go.RowKit

def fall (n : Nat) : Nat := if n % 2 = 1 then (n / 2) ^^^ 3988292384 else n / 2

def falls (n : Nat) : Nat → Nat
  | 0 => n
  | k + 1 => fall (falls n k)

def upd (n : Nat) (b : UInt8) : Nat := falls (n ^^^ b.toNat) 8

def runs (n : Nat) (l : List UInt8) : Nat := l.foldl upd n

def crcOn (s : Nat) (l : List UInt8) : Nat := 4294967295 - runs (4294967295 - s) l

def crcOf (l : List UInt8) : Nat := 4294967295 - runs 4294967295 l

theorem xor_lt32 {a b : Nat} (ha : a < 4294967296) (hb : b < 4294967296) : a ^^^ b < 4294967296 := Nat.xor_lt_two_pow (n := 32) ha hb

theorem fall_lt {n : Nat} (h : n < 4294967296) : fall n < 4294967296 := by
  unfold fall
  split
  · exact xor_lt32 (by omega) (by omega)
  · omega

theorem falls_lt {n : Nat} (h : n < 4294967296) (k : Nat) : falls n k < 4294967296 := by
  induction k with
  | zero => exact h
  | succ k ih => exact fall_lt ih

theorem upd_lt {n : Nat} (h : n < 4294967296) (b : UInt8) : upd n b < 4294967296 := falls_lt (xor_lt32 h (by have := b.toNat_lt; omega)) 8

theorem runs_snoc (n : Nat) (l : List UInt8) (b : UInt8) : runs n (l ++ [b]) = upd (runs n l) b := by simp [runs]

theorem crcOf_lt (l : List UInt8) : crcOf l < 4294967296 := by unfold crcOf; omega

theorem and_one (q : Nat) (hq : q < 4294967296) : bits .and .u32 (q : Int) 1 = ((q % 2 : Nat) : Int) := by
  have h := u32_and_nat q 1 hq (by omega)
  rw [Nat.and_one_is_mod] at h
  exact h

theorem xor_poly (q : Nat) (hq : q < 4294967296) : bits .xor .u32 (q : Int) 3988292384 = ((q ^^^ 3988292384 : Nat) : Int) := u32_xor_nat q 3988292384 hq (by omega)

set_option maxHeartbeats 400000 in
theorem shiftOut_any (n : Int) (w : World) (h0 : 0 ≤ n) (h1 : n < 4294967296) :
    Calls Tryz.prog 144 #[.int .u32 n] w fun e w' => e = .returned (.int .u32 ((falls n.toNat 8 : Nat) : Int)) ∧ w = w' := by
  obtain ⟨n, rfl⟩ := nat_of h0
  rw [Int.toNat_natCast]
  have hn : n < 4294967296 := by omega
  clear h0 h1
  go_enter Tryz.func144, Tryz.ntmps144
  go_wp2
  go_loop [0, 4] (fun m i => ∃ j q : Nat, j ≤ 8 ∧ q < 4294967296 ∧ i = .int .i64 j ∧ m = .int .u32 q ∧ Hid (q = falls n j)) (fun _ i => 8 - (intOf i).toNat)
  case atStart => exact ⟨0, n, Nat.zero_le _, hn, rfl, rfl, Lib.hid rfl⟩
  case round =>
    obtain ⟨j, q, hj, hq, rfl, rfl, HQ⟩ := hrel
    by_cases hlt : j < 8
    · have ha := and_one q hq
      by_cases ho : q % 2 = 1
      · have hf : fall q = (q / 2) ^^^ 3988292384 := by simp [fall, ho]
        have hx := xor_poly (q / 2) (by omega)
        have hl := fall_lt hq
        rw [ho] at ha
        have HF := Lib.hid hf
        have HL := Lib.hid hl
        clear hf hl ho
        go_wp2
        refine ⟨⟨j + 1, fall q, by omega, HL.out, by go_num, ?_, Lib.hid ?_⟩, by simp [intOf]; omega⟩
        · rw [HF.out]; exact congrArg _ hx
        · rw [HQ.out]; rfl
      · have ho2 : q % 2 = 0 := by omega
        have hf : fall q = q / 2 := by simp [fall, ho]
        have hl := fall_lt hq
        rw [ho2] at ha
        have HF := Lib.hid hf
        have HL := Lib.hid hl
        clear hf hl ho ho2
        go_wp2
        refine ⟨⟨j + 1, fall q, by omega, HL.out, by go_num, ?_, Lib.hid ?_⟩, by simp [intOf]; omega⟩
        · rw [HF.out]; rfl
        · rw [HQ.out]; rfl
    · obtain rfl : j = 8 := by omega
      go_wp2
      go_ret
      exact ⟨ret_int (by rw [HQ.out]), rfl⟩

theorem runs_step (n : Nat) (l : List UInt8) (k : Nat) (h : k < l.length) : runs n (l.take (k + 1)) = upd (runs n (l.take k)) l[k] := by rw [List.take_succ_eq_append_getElem h, runs_snoc]

theorem xor_byte (q : Nat) (b : UInt8) (hq : q < 4294967296) : bits .xor .u32 (q : Int) ((b.toNat : Int) % 4294967296) = ((q ^^^ b.toNat : Nat) : Int) := by
  have hb := b.toNat_lt
  rw [Int.emod_eq_of_lt (by omega) (by omega)]
  exact u32_xor_nat q b.toNat hq (by omega)

theorem not32 (s : Nat) (hs : s < 4294967296) : 4294967295 ^^^ s = 4294967295 - s := by
  apply Nat.eq_of_testBit_eq
  intro i
  have h1 : Nat.testBit 4294967295 i = decide (i < 32) := Nat.testBit_two_pow_sub_one 32 i
  have h2 : Nat.testBit (4294967295 - s) i = (decide (i < 32) && !Nat.testBit s i) := by
    have h := Nat.testBit_two_pow_sub_succ (x := s) (n := 32) hs i
    rwa [show (2 : Nat) ^ 32 - (s + 1) = 4294967295 - s by omega] at h
  rw [Nat.testBit_xor, h1, h2]
  by_cases hi : i < 32
  · simp [hi]
  · have h3 : Nat.testBit s i = false := Nat.testBit_lt_two_pow (Nat.lt_of_lt_of_le hs (show (2 : Nat) ^ 32 ≤ 2 ^ i from Nat.pow_le_pow_right (by omega) (by omega)))
    simp [hi, h3]

theorem turn32 (s : Nat) (hs : s < 4294967296) : bits .xor .u32 IntKind.u32.max (s : Int) = ((4294967295 - s : Nat) : Int) := by
  have h := u32_xor_nat 4294967295 s (by omega) hs
  rw [not32 s hs] at h
  exact h

theorem shiftOut_upd (q : Nat) (b : UInt8) (w : World) (hq : q < 4294967296) :
    Calls Tryz.prog 144 #[.int .u32 ((q ^^^ b.toNat : Nat) : Int)] w fun e w' => e = .returned (.int .u32 ((upd q b : Nat) : Int)) ∧ w = w' := by
  have h := xor_lt32 hq (show b.toNat < 4294967296 by have := b.toNat_lt; omega)
  have := shiftOut_any ((q ^^^ b.toNat : Nat) : Int) w (by omega) (by omega)
  rw [Int.toNat_natCast] at this
  exact this

set_option maxHeartbeats 400000 in
theorem on_any (s : Int) (l : List UInt8) (v : Value) (w : World) (h0 : 0 ≤ s) (h1 : s < 4294967296) (hv : Bs w v l) :
    Calls Tryz.prog 127 #[.int .u32 s, v] w fun e w' => e = .returned (.int .u32 ((crcOn s.toNat l : Nat) : Int)) ∧ w = w' := by
  obtain ⟨s, rfl⟩ := nat_of h0
  rw [Int.toNat_natCast]
  obtain ⟨A, c, rfl, hc1, hc2, hr⟩ := hv
  obtain ⟨t, ht⟩ : ∃ t, t = 4294967295 - s := ⟨_, rfl⟩
  have htl : t < 4294967296 := by omega
  have HT := Lib.hid ht
  have HTS := Lib.hid (turn32 s (by omega))
  clear ht h0 h1
  go_enter Tryz.func127, Tryz.ntmps127
  go_wp2
  go_loop [5, 12] (fun m i => ∃ k q : Nat, k ≤ l.length ∧ q < 4294967296 ∧ i = .int .i64 k ∧ m = .int .u32 q ∧ Hid (q = runs t (l.take k))) (fun _ i => l.length - (intOf i).toNat)
  case atStart => exact ⟨0, t, Nat.zero_le _, htl, rfl, congrArg _ (by rw [HT.out]; exact HTS.out), Lib.hid rfl⟩
  case round =>
    obtain ⟨k, q, hk, hq, rfl, rfl, HQ⟩ := hrel
    by_cases hlt : k < l.length
    · obtain ⟨ad, rfl, hc⟩ := hr k (.int .u8 (l[k].toNat : Int)) (by simp [BV_getElem?, hlt])
      have hx := xor_byte q l[k] hq
      have HU := Lib.hid (upd_lt hq l[k])
      have HS := Lib.hid (runs_step t l k hlt)
      go_wp2_with fail
      refine (shiftOut_upd q l[k] _ hq).mono ?_
      rintro e w' ⟨rfl, rfl⟩
      clear hx
      go_wp2
      refine ⟨⟨k + 1, upd q l[k], by omega, HU.out, by go_num, rfl, Lib.hid ?_⟩, by simp [intOf]; omega⟩
      rw [HS.out, ← HQ.out]
    · go_wp2
      go_ret
      refine ⟨ret_int ?_, rfl⟩
      have hq2 : q = runs (4294967295 - s) l := by rw [HQ.out, List.take_of_length_le (by omega), HT.out]
      unfold crcOn
      rw [← hq2]
      exact turn32 q hq

theorem sum_any (l : List UInt8) (v : Value) (w : World) (hv : Bs w v l) :
    Calls Tryz.prog 94 #[v] w fun e w' => e = .returned (.int .u32 ((crcOf l : Nat) : Int)) ∧ w = w' := by
  go_enter Tryz.func94, Tryz.ntmps94
  go_wp2_with fail
  refine (on_any 0 l v w (by omega) (by omega) hv).mono ?_
  rintro e w' ⟨rfl, rfl⟩
  go_wp2
  go_ret
  exact ⟨rfl, rfl⟩

set_option maxHeartbeats 800000 in
theorem Sum_any (l : List UInt8) (v : Value) (w : World) (hv : Bs w v l) :
    Calls Tryz.prog 101 #[v] w fun e w' => e = .returned (.int .u32 ((crcOf l : Nat) : Int)) ∧ w = w' := by
  obtain ⟨A, c, rfl, hc1, hc2, hr⟩ := hv
  go_enter Tryz.func101, Tryz.ntmps101
  go_wp2
  go_loop [3, 4] (fun m i => ∃ k q : Nat, k ≤ l.length ∧ q < 4294967296 ∧ i = .int .i64 k ∧ m = .int .u32 q ∧ Hid (q = runs 4294967295 (l.take k))) (fun _ i => l.length - (intOf i).toNat)
  case atStart => exact ⟨0, 4294967295, Nat.zero_le _, by omega, rfl, rfl, Lib.hid rfl⟩
  case round =>
    obtain ⟨k, q, hk, hq, rfl, rfl, HQ⟩ := hrel
    by_cases hlt : k < l.length
    · obtain ⟨ad, rfl, hc⟩ := hr k (.int .u8 (l[k].toNat : Int)) (by simp [BV_getElem?, hlt])
      have hx := xor_byte q l[k] hq
      have hxl := xor_lt32 hq (show l[k].toNat < 4294967296 by have := l[k].toNat_lt; omega)
      have HU := Lib.hid (upd_lt hq l[k])
      have HS := Lib.hid (runs_step 4294967295 l k hlt)
      have HX := Lib.hid hx
      clear hx
      go_wp2
      go_loop [3, 5] (fun m i => ∃ j p : Nat, j ≤ 8 ∧ p < 4294967296 ∧ i = .int .i64 j ∧ m = .int .u32 p ∧ Hid (p = falls (q ^^^ l[k].toNat) j)) (fun _ i => 8 - (intOf i).toNat)
      case atStart => exact ⟨0, _, Nat.zero_le _, hxl, rfl, congrArg _ HX.out, Lib.hid rfl⟩
      case round =>
        obtain ⟨j, p, hj, hp, rfl, rfl, HP⟩ := hrel
        by_cases hlt8 : j < 8
        · by_cases ho : p % 2 = 1
          · have hf : fall p = (p / 2) ^^^ 3988292384 := by simp [fall, ho]
            have hx := xor_poly (p / 2) (by omega)
            have HF := Lib.hid hf
            have HL := Lib.hid (fall_lt hp)
            have hd : (((p : Int) % 2) == 1) = true := by simp; omega
            clear hf
            go_wp2
            refine ⟨⟨j + 1, fall p, by omega, HL.out, by go_num, ?_, Lib.hid ?_⟩, by simp [intOf]; omega⟩
            · rw [HF.out]; exact congrArg _ hx
            · rw [HP.out]; rfl
          · have hf : fall p = p / 2 := by simp [fall, ho]
            have HF := Lib.hid hf
            have HL := Lib.hid (fall_lt hp)
            have hd : (((p : Int) % 2) == 1) = false := by simp; omega
            clear hf
            go_wp2
            refine ⟨⟨j + 1, fall p, by omega, HL.out, by go_num, ?_, Lib.hid ?_⟩, by simp [intOf]; omega⟩
            · rw [HF.out]; rfl
            · rw [HP.out]; rfl
        · obtain rfl : j = 8 := by omega
          go_wp2
          refine ⟨⟨k + 1, p, by omega, hp, by go_num, rfl, Lib.hid ?_⟩, by simp [intOf]; omega⟩
          rw [HS.out, ← HQ.out, HP.out]
          rfl
    · go_wp2
      go_ret
      refine ⟨ret_int ?_, rfl⟩
      have hq2 : q = runs 4294967295 l := by rw [HQ.out, List.take_of_length_le (by omega)]
      unfold crcOf
      rw [← hq2]
      go_num

def sealedOf (l : List UInt8) : List UInt8 := l ++ bet (crcOf l) 4

theorem sealedOf_length (l : List UInt8) : (sealedOf l).length = l.length + 4 := by simp [sealedOf, bet_length]

def bodyOf (x : List UInt8) : List UInt8 := x.take (x.length - 4)

def tailOf (x : List UInt8) : Nat := num (x.drop (x.length - 4))

theorem tailOf_lt (x : List UInt8) : tailOf x < 4294967296 := by
  have h := num_lt (x.drop (x.length - 4))
  have h2 : 256 ^ (x.drop (x.length - 4)).length ≤ 256 ^ 4 := Nat.pow_le_pow_right (by omega) (by simp; omega)
  unfold tailOf
  omega

theorem sealed_iff (x : List UInt8) (h : 4 ≤ x.length) : sealedOf (bodyOf x) = x ↔ tailOf x = crcOf (bodyOf x) := by
  have hx : bodyOf x ++ x.drop (x.length - 4) = x := List.take_append_drop _ _
  have hd : (x.drop (x.length - 4)).length = 4 := by simp; omega
  have hc := crcOf_lt (bodyOf x)
  constructor
  · intro he
    have h1 : bodyOf x ++ bet (crcOf (bodyOf x)) 4 = bodyOf x ++ x.drop (x.length - 4) := by rw [hx]; exact he
    have h2 := List.append_cancel_left h1
    unfold tailOf
    rw [← h2, num_bet 4 _ (by omega)]
  · intro he
    unfold sealedOf
    rw [← he]
    unfold tailOf
    have h3 := bet_num (x.drop (x.length - 4))
    rw [hd] at h3
    rw [h3, hx]

set_option maxHeartbeats 400000 in
theorem clone_any (l : List UInt8) (v : Value) (w : World) (hl : l.length ≤ 140737488355328) (hv : Bs w v l) :
    Calls Tryz.prog 32 #[v] w fun e w' => ∃ v', e = .returned v' ∧ Own w' w.heap.size 5 v' l ∧ Below w.heap.size w w' := by
  have hv' := hv
  obtain ⟨A, c, rfl, hc1, hc2, hr⟩ := hv'
  have hnil := fun u : World => Lib.run_eql_slice_nil (P := Tryz.prog) u 42 5 A l.length c 0 0 byteT.under
  cases A with
  | none =>
    have h0 : l = [] := by
      have := hr.noneEq
      simpa [BV] using this
    subst h0
    simp only [Option.isNone_none, List.length_nil] at hnil
    go_enter Tryz.func32, Tryz.ntmps32
    go_wp2_with fail
    go_ret
    exact ⟨_, rfl, Own.nil _ _ _, Below.refl _ _⟩
  | some ad =>
    simp only [Option.isNone_some] at hnil
    go_enter Tryz.func32, Tryz.ntmps32
    go_wp2_with (at_builtin; refine wpList_append_v _ byteT rfl _ _ rfl w.heap.size (.slice (some ⟨w.heap.size, 0, none⟩) 0 0) [] rfl (Own.made w w.heap.size 5 #[] 0 (Nat.le_refl _) (by simp [maxLen]) rfl) _ l rfl (hv.alloc _) (by simp; omega) (by simp) ?_)
    intro v2 w2 hown2 hg2 _
    have hb2 : Below w.heap.size w w2 := ((Below.refl _ w).alloc (Nat.le_refl _) _).grown hg2 (by simp) (by intro k hk; simp [Value.ownBlock] at hk; omega)
    clear hnil hg2
    go_wp2_with fail
    go_ret
    exact ⟨_, rfl, hown2, hb2⟩

theorem open_short (l : List UInt8) (v : Value) (w : World) (hl : l.length < 4) (hv : Bs w v l) :
    Calls Tryz.prog 76 #[v] w fun e w' => e = .returned (.tuple #[.slice none 0 0, code 2]) ∧ w = w' := by
  obtain ⟨A, c, rfl, hc1, hc2, hr⟩ := hv
  go_enter Tryz.func76, Tryz.ntmps76
  go_wp2_with fail
  go_ret2
  exact ⟨rfl, rfl⟩

theorem bodyOf_length (l : List UInt8) : (bodyOf l).length = l.length - 4 := by simp [bodyOf]

structure Opened (w : World) (base : Nat) (l : List UInt8) (x e : Value) : Prop where
  no : tailOf l ≠ crcOf (bodyOf l) → x = .slice none 0 0 ∧ e = code 7
  yes : tailOf l = crcOf (bodyOf l) → e = .nilIface ∧ Own w base 5 x (bodyOf l)

set_option maxHeartbeats 800000 in
theorem open_long (l : List UInt8) (v : Value) (w : World) (h4 : 4 ≤ l.length) (hl : l.length ≤ 140737488355328) (hv : Bs w v l) :
    Calls Tryz.prog 76 #[v] w fun e w' => ∃ x f, e = .returned (.tuple #[x, f]) ∧ Opened w' w.heap.size l x f ∧ Below w.heap.size w w' := by
  obtain ⟨n, hn⟩ : ∃ n, n = l.length - 4 := ⟨_, rfl⟩
  obtain ⟨A, c, rfl, hc1, hc2, hr⟩ := hv
  obtain ⟨V, hsl, hV, hVb⟩ := slice_bytes_to (P := Tryz.prog) w byteT elemB hr hc1 hc2 n (by omega) ((l.length : Int) - 4) (by omega)
  obtain ⟨U, hsu, hU, _⟩ := slice_bytes_from (P := Tryz.prog) w byteT elemB hr hc1 hc2 n (by omega) ((l.length : Int) - 4) (by omega)
  have hbody : bodyOf l = l.take n := by rw [hn]; rfl
  have htail : num (((l.drop n).drop 0).take (Int.toNat 4)) = tailOf l := by
    rw [List.drop_zero, show Int.toNat 4 = 4 from rfl, List.take_of_length_le (by simp; omega), hn]
    rfl
  have hok : wordOk (l.drop n) 0 false 4 = true := by simp [wordOk, isW]; omega
  have ht := tailOf_lt l
  have hcr := crcOf_lt (bodyOf l)
  have hbl := bodyOf_length l
  rw [← hbody] at hV
  have HB := Lib.hid hbody
  have HTL := Lib.hid htail
  have HOK := Lib.hid hok
  clear hbody htail hok hVb
  go_enter Tryz.func76, Tryz.ntmps76
  go_wp2_with fail
  refine (read_any U (l.drop n) _ hU).mono ?_
  rintro e w1 ⟨rfl, hW1, hb1⟩
  go_wp2_with fail
  refine (word_yes _ U (l.drop n) 0 false 4 _ hW1 HOK.out).mono ?_
  rintro e w2 ⟨rfl, hW2, hg2⟩
  rw [HTL.out]
  have hb2 : Below w.heap.size w w2 := hb1.grown hg2 hb1.size (by intro k hk; injection hk; omega)
  have hV2 := hV.below hb2
  clear hW1 hW2 hg2 hb1 hU hsl hsu hV
  go_wp2_with fail
  refine (sum_any (bodyOf l) V _ hV2).mono ?_
  rintro e w3 ⟨rfl, rfl⟩
  by_cases heq : tailOf l = crcOf (bodyOf l)
  · have HE := Lib.hid heq
    rw [heq]
    clear heq
    go_wp2_with fail
    refine (clone_any (bodyOf l) V _ (by omega) hV2).mono ?_
    rintro e w4 ⟨v4, rfl, hown4, hb4⟩
    go_wp2_with fail
    go_ret2
    exact ⟨_, _, rfl, ⟨fun h => absurd HE.out h, fun _ => ⟨rfl, hown4.lower hb2.size⟩⟩, hb2.trans (hb4.mono hb2.size)⟩
  · have hne : ((tailOf l : Int) == (crcOf (bodyOf l) : Int)) = false := by
      rw [beq_eq_false_iff_ne]
      omega
    have HE := Lib.hid heq
    clear heq
    go_wp2_with fail
    go_ret2
    exact ⟨_, _, rfl, ⟨fun _ => ⟨rfl, rfl⟩, fun h => absurd h HE.out⟩, hb2⟩

set_option maxHeartbeats 400000 in
theorem Seal_any (l : List UInt8) (v : Value) (w : World) (hl : l.length ≤ 140737488355320) (hv : Bs w v l) :
    Calls Tryz.prog 82 #[v] w fun e w' => ∃ v', e = .returned v' ∧ Own w' w.heap.size 5 v' (sealedOf l) ∧ Below w.heap.size w w' := by
  have hc := crcOf_lt l
  go_enter Tryz.func82, Tryz.ntmps82
  go_wp2_with (at_builtin; refine wpList_append_v _ byteT rfl _ _ rfl w.heap.size (.slice (some ⟨w.heap.size, 0, none⟩) 0 0) [] rfl (Own.made w w.heap.size 5 #[] 0 (Nat.le_refl _) (by simp [maxLen]) rfl) _ l rfl (hv.alloc _) (by simp; omega) (by simp) ?_)
  intro v2 w2 hown2 hg2 _
  have hb2 : Below w.heap.size w w2 := ((Below.refl _ w).alloc (Nat.le_refl _) _).grown hg2 (by simp) (by intro k hk; simp [Value.ownBlock] at hk; omega)
  clear hg2
  go_wp2_with fail
  refine (Sum_any l v _ (hv.below hb2)).mono ?_
  rintro e w' ⟨rfl, rfl⟩
  go_wp2_with fail
  refine (Bytes_any 4 (crcOf l) _ (by omega) (by omega) (by omega) (by omega)).mono ?_
  rintro e w3 ⟨v3, rfl, hown3, hb3⟩
  rw [Int.toNat_natCast, show Int.toNat 4 = 4 from rfl] at hown3
  have hz2 := hb2.size
  have hz3 := hb3.size
  go_wp2_with (at_builtin; refine wpList_append_v _ byteT rfl _ _ rfl w.heap.size v2 l rfl (hown2.below hb3) _ _ rfl hown3.bs (by rw [bet_length]; omega) (by omega) ?_)
  intro v4 w4 hown4 hg4 _
  have hb4 : Below w.heap.size w w4 := (hb2.trans (hb3.mono hz2)).grown hg4 (by omega) hown2.ge
  clear hg4
  go_wp2_with fail
  go_ret
  exact ⟨_, rfl, hown4, hb4⟩

structure Opened' (w : World) (l : List UInt8) (x e : Value) : Prop where
  no : tailOf l ≠ crcOf (bodyOf l) → x = .slice none 0 0 ∧ e = .int .i64 7
  yes : tailOf l = crcOf (bodyOf l) → e = .int .i64 0 ∧ Bs w x (bodyOf l)

theorem Open_short (l : List UInt8) (v : Value) (w : World) (hl : l.length < 4) (hv : Bs w v l) :
    Calls Tryz.prog 68 #[v] w fun e w' => e = .returned (.tuple #[.slice none 0 0, .int .i64 2]) ∧ w = w' := by
  obtain ⟨A, c, rfl, hc1, hc2, hr⟩ := hv
  go_enter Tryz.func68, Tryz.ntmps68
  go_wp2_with fail
  go_ret2
  exact ⟨rfl, rfl⟩

set_option maxHeartbeats 800000 in
theorem Open_long (l : List UInt8) (v : Value) (w : World) (h4 : 4 ≤ l.length) (hl : l.length ≤ 140737488355320) (hv : Bs w v l) :
    Calls Tryz.prog 68 #[v] w fun e w' => ∃ x f, e = .returned (.tuple #[x, f]) ∧ Opened' w' l x f ∧ Below w.heap.size w w' := by
  obtain ⟨n, hn⟩ : ∃ n, n = l.length - 4 := ⟨_, rfl⟩
  have hvv := hv
  obtain ⟨A, c, rfl, hc1, hc2, hr⟩ := hv
  obtain ⟨V, hsl, hV, hVb⟩ := slice_bytes_to (P := Tryz.prog) w byteT elemB hr hc1 hc2 n (by omega) ((l.length : Int) - 4) (by omega)
  have hbody : bodyOf l = l.take n := by rw [hn]; rfl
  have hbl := bodyOf_length l
  have HIFF := Lib.hid (sealed_iff l h4)
  rw [← hbody] at hV
  clear hbody hVb
  go_enter Tryz.func68, Tryz.ntmps68
  go_wp2_with fail
  have hst : ∀ w', Below w.heap.size w w' → (convert 42 9 (.slice A l.length c)).run Tryz.prog w' = .ok (.string (Bstr l)) w' := fun w' h => strOf (hvv.below h)
  refine wp_region_mix [(0, false), (1, false), (2, false), (5, false), (6, false), (3, true), (4, true), (7, true)] (fun w' => Below w.heap.size w w') (by kernel_rfl) (by kernel_rfl) (by kernel_rfl) rfl (Below.refl _ _).drew ?_
  repeat
    (refine mix_read (o := ⟨_, _, _, _, _, _⟩) (v := ?_) rfl (by rfl) (fun w' hS => ?_) ?_
     rotate_left
     go_simp
     with_reducible rfl
     try simp only [Act.put, List.setIfInBounds_toArray, List.set_cons_zero, List.set_cons_succ])
  refine mix_step (o := ⟨_, _, _, _, _, _⟩) rfl (fun K hK => ?_)
  go_simp
  refine (Seal_any (bodyOf l) V _ (by omega) hV.drew).mono ?_
  rintro e w5 ⟨v5, rfl, hown5, hb5⟩
  have hb5' : Below w.heap.size w w5 := (Below.refl _ w).drew.trans hb5
  have hst5 := strOf hown5.bs
  refine hK.out _ _ hb5' ?_
  clear hK K
  try simp only [Act.put, List.setIfInBounds_toArray, List.set_cons_zero, List.set_cons_succ]
  repeat
    (refine mix_step (o := ⟨_, _, _, _, _, _⟩) rfl (fun K hK => ?_)
     go_simp
     refine hK.out _ _ hb5' ?_
     clear hK K)
  refine mix_done ?_
  have hV5 := hV.below hb5'
  by_cases heq : sealedOf (bodyOf l) = l
  · have hd : (!(Bstr (sealedOf (bodyOf l))).toList == (Bstr l).toList) = false := by rw [heq]; simp
    have HE := Lib.hid (HIFF.out.1 heq)
    rw [hd]
    clear hd heq hst hst5
    go_wp2_with fail
    go_ret2
    exact ⟨_, _, rfl, ⟨fun h => absurd HE.out h, fun _ => ⟨rfl, hV5⟩⟩, hb5'⟩
  · have hd : (!(Bstr (sealedOf (bodyOf l))).toList == (Bstr l).toList) = true := by
      rw [Bstr_toList, Bstr_toList]
      simpa using heq
    have HE := Lib.hid (fun h => heq (HIFF.out.2 h))
    rw [hd]
    clear hd heq hst hst5
    go_wp2_with fail
    go_ret2
    exact ⟨_, _, rfl, ⟨fun _ => ⟨rfl, rfl⟩, fun h => absurd h HE.out⟩, hb5'⟩

end Go.Proofs.YtgafidnbmoomiaaGreatDoor
