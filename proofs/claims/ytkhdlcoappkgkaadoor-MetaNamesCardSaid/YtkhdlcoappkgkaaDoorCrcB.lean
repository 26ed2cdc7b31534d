/-
  CONTRACTS of crc.On, crc.Sum and the document's own Sum: each returns the sum, and leaves the memory as it was.
-/
import Derived.Test.YtkhdlcoappkgkaaDoorCrcA
namespace Go.Proofs.YtkhdlcoappkgkaaDoor
open Go.RowKit

theorem runs_step (n : Nat) (l : List UInt8) (k : Nat) (h : k < l.length) : runs n (l.take (k + 1)) = upd (runs n (l.take k)) l[k] := by rw [List.take_succ_eq_append_getElem h, runs_snoc]

theorem xor_byte (q : Nat) (b : UInt8) (hq : q < 4294967296) : bits .xor .u32 (q : Int) ((b.toNat : Int) % 4294967296) = ((q ^^^ b.toNat : Nat) : Int) := by
  have hb := b.toNat_lt
  rw [Int.emod_eq_of_lt (by omega) (by omega)]
  exact u32_xor_nat q b.toNat hq (by omega)

theorem not32 (s : Nat) (hs : s < 4294967296) : 4294967295 ^^^ s = 4294967295 - s := by
  apply Nat.eq_of_testBit_eq
  intro i
  have h1 : Nat.testBit 4294967295 i = decide (i < 32) := Nat.testBit_two_pow_sub_one 32 i
  have h2 : Nat.testBit (4294967295 - s) i = (decide (i < 32) && !Nat.testBit s i) := by
    have h := Nat.testBit_two_pow_sub_succ (x := s) (n := 32) hs i
    rwa [show (2 : Nat) ^ 32 - (s + 1) = 4294967295 - s by omega] at h
  rw [Nat.testBit_xor, h1, h2]
  by_cases hi : i < 32
  · simp [hi]
  · have h3 : Nat.testBit s i = false := Nat.testBit_lt_two_pow (Nat.lt_of_lt_of_le hs (show (2 : Nat) ^ 32 ≤ 2 ^ i from Nat.pow_le_pow_right (by omega) (by omega)))
    simp [hi, h3]

theorem turn32 (s : Nat) (hs : s < 4294967296) : bits .xor .u32 IntKind.u32.max (s : Int) = ((4294967295 - s : Nat) : Int) := by
  have h := u32_xor_nat 4294967295 s (by omega) hs
  rw [not32 s hs] at h
  exact h

theorem shiftOut_upd (q : Nat) (b : UInt8) (w : World) (hq : q < 4294967296) :
    Calls Tryd.prog 76 #[.int .u32 ((q ^^^ b.toNat : Nat) : Int)] w fun e w' => e = .returned (.int .u32 ((upd q b : Nat) : Int)) ∧ w = w' := by
  have h := xor_lt32 hq (show b.toNat < 4294967296 by have := b.toNat_lt; omega)
  have := shiftOut_any ((q ^^^ b.toNat : Nat) : Int) w (by omega) (by omega)
  rw [Int.toNat_natCast] at this
  exact this

set_option maxHeartbeats 400000 in
theorem on_any (s : Int) (l : List UInt8) (v : Value) (w : World) (h0 : 0 ≤ s) (h1 : s < 4294967296) (hv : Bs w v l) :
    Calls Tryd.prog 60 #[.int .u32 s, v] w fun e w' => e = .returned (.int .u32 ((crcOn s.toNat l : Nat) : Int)) ∧ w = w' := by
  obtain ⟨s, rfl⟩ := nat_of h0
  rw [Int.toNat_natCast]
  obtain ⟨A, c, rfl, hc1, hc2, hr⟩ := hv
  obtain ⟨t, ht⟩ : ∃ t, t = 4294967295 - s := ⟨_, rfl⟩
  have htl : t < 4294967296 := by omega
  have HT := Lib.hid ht
  have HTS := Lib.hid (turn32 s (by omega))
  clear ht h0 h1
  go_enter Tryd.func60, Tryd.ntmps60
  go_wp2
  go_loop [5, 12] (fun m i => ∃ k q : Nat, k ≤ l.length ∧ q < 4294967296 ∧ i = .int .i64 k ∧ m = .int .u32 q ∧ Hid (q = runs t (l.take k))) (fun _ i => l.length - (intOf i).toNat)
  case atStart => exact ⟨0, t, Nat.zero_le _, htl, rfl, congrArg _ (by rw [HT.out]; exact HTS.out), Lib.hid rfl⟩
  case round =>
    obtain ⟨k, q, hk, hq, rfl, rfl, HQ⟩ := hrel
    by_cases hlt : k < l.length
    · obtain ⟨ad, rfl, hc⟩ := hr k (.int .u8 (l[k].toNat : Int)) (by simp [BV_getElem?, hlt])
      have hx := xor_byte q l[k] hq
      have HU := Lib.hid (upd_lt hq l[k])
      have HS := Lib.hid (runs_step t l k hlt)
      go_wp2_with fail
      refine (shiftOut_upd q l[k] _ hq).mono ?_
      rintro e w' ⟨rfl, rfl⟩
      clear hx
      go_wp2
      refine ⟨⟨k + 1, upd q l[k], by omega, HU.out, by go_num, rfl, Lib.hid ?_⟩, by simp [intOf]; omega⟩
      rw [HS.out, ← HQ.out]
    · go_wp2
      go_ret
      refine ⟨ret_int ?_, rfl⟩
      have hq2 : q = runs (4294967295 - s) l := by rw [HQ.out, List.take_of_length_le (by omega), HT.out]
      unfold crcOn
      rw [← hq2]
      exact turn32 q hq

theorem sum_any (l : List UInt8) (v : Value) (w : World) (hv : Bs w v l) :
    Calls Tryd.prog 48 #[v] w fun e w' => e = .returned (.int .u32 ((crcOf l : Nat) : Int)) ∧ w = w' := by
  go_enter Tryd.func48, Tryd.ntmps48
  go_wp2_with fail
  refine (on_any 0 l v w (by omega) (by omega) hv).mono ?_
  rintro e w' ⟨rfl, rfl⟩
  go_wp2
  go_ret
  exact ⟨rfl, rfl⟩

set_option maxHeartbeats 800000 in
theorem Sum_any (l : List UInt8) (v : Value) (w : World) (hv : Bs w v l) :
    Calls Tryd.prog 30 #[v] w fun e w' => e = .returned (.int .u32 ((crcOf l : Nat) : Int)) ∧ w = w' := by
  obtain ⟨A, c, rfl, hc1, hc2, hr⟩ := hv
  go_enter Tryd.func30, Tryd.ntmps30
  go_wp2
  go_loop [3, 4] (fun m i => ∃ k q : Nat, k ≤ l.length ∧ q < 4294967296 ∧ i = .int .i64 k ∧ m = .int .u32 q ∧ Hid (q = runs 4294967295 (l.take k))) (fun _ i => l.length - (intOf i).toNat)
  case atStart => exact ⟨0, 4294967295, Nat.zero_le _, by omega, rfl, rfl, Lib.hid rfl⟩
  case round =>
    obtain ⟨k, q, hk, hq, rfl, rfl, HQ⟩ := hrel
    by_cases hlt : k < l.length
    · obtain ⟨ad, rfl, hc⟩ := hr k (.int .u8 (l[k].toNat : Int)) (by simp [BV_getElem?, hlt])
      have hx := xor_byte q l[k] hq
      have hxl := xor_lt32 hq (show l[k].toNat < 4294967296 by have := l[k].toNat_lt; omega)
      have HU := Lib.hid (upd_lt hq l[k])
      have HS := Lib.hid (runs_step 4294967295 l k hlt)
      have HX := Lib.hid hx
      clear hx
      go_wp2
      go_loop [3, 5] (fun m i => ∃ j p : Nat, j ≤ 8 ∧ p < 4294967296 ∧ i = .int .i64 j ∧ m = .int .u32 p ∧ Hid (p = falls (q ^^^ l[k].toNat) j)) (fun _ i => 8 - (intOf i).toNat)
      case atStart => exact ⟨0, _, Nat.zero_le _, hxl, rfl, congrArg _ HX.out, Lib.hid rfl⟩
      case round =>
        obtain ⟨j, p, hj, hp, rfl, rfl, HP⟩ := hrel
        by_cases hlt8 : j < 8
        · by_cases ho : p % 2 = 1
          · have hf : fall p = (p / 2) ^^^ 3988292384 := by simp [fall, ho]
            have hx := xor_poly (p / 2) (by omega)
            have HF := Lib.hid hf
            have HL := Lib.hid (fall_lt hp)
            have hd : (((p : Int) % 2) == 1) = true := by simp; omega
            clear hf
            go_wp2
            refine ⟨⟨j + 1, fall p, by omega, HL.out, by go_num, ?_, Lib.hid ?_⟩, by simp [intOf]; omega⟩
            · rw [HF.out]; exact congrArg _ hx
            · rw [HP.out]; rfl
          · have hf : fall p = p / 2 := by simp [fall, ho]
            have HF := Lib.hid hf
            have HL := Lib.hid (fall_lt hp)
            have hd : (((p : Int) % 2) == 1) = false := by simp; omega
            clear hf
            go_wp2
            refine ⟨⟨j + 1, fall p, by omega, HL.out, by go_num, ?_, Lib.hid ?_⟩, by simp [intOf]; omega⟩
            · rw [HF.out]; rfl
            · rw [HP.out]; rfl
        · obtain rfl : j = 8 := by omega
          go_wp2
          refine ⟨⟨k + 1, p, by omega, hp, by go_num, rfl, Lib.hid ?_⟩, by simp [intOf]; omega⟩
          rw [HS.out, ← HQ.out, HP.out]
          rfl
    · go_wp2
      go_ret
      refine ⟨ret_int ?_, rfl⟩
      have hq2 : q = runs 4294967295 l := by rw [HQ.out, List.take_of_length_le (by omega)]
      unfold crcOf
      rw [← hq2]
      go_num

end Go.Proofs.YtkhdlcoappkgkaaDoor
