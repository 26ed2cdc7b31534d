/-
  CONTRACTS of strconv.FormatUint at the bases 16 and 10 (there of numbers below 1000) and of the program's digits. Conditions: what each says; of the library's variables: Ld.
-/
import Derived.Test.YtkhdlcoappkgkaaDoorMtL
import Derived.Deep.DeepCutAuto
namespace Go.Proofs.YtkhdlcoappkgkaaDoor
open Go.RowKit
set_option maxRecDepth 100000

/-- 'ρ's constant: the library's digits -/
def dg36 : ByteArray := ⟨#[48, 49, 50, 51, 52, 53, 54, 55, 56, 57, 97, 98, 99, 100, 101, 102, 103, 104, 105, 106, 107, 108, 109, 110, 111, 112, 113, 114, 115, 116, 117, 118, 119, 120, 121, 122]⟩
theorem dg36_at (d : Nat) (h : d < 16) : dg36.data[d]? = some (dchar d) := by
  have : ∀ k : Fin 16, dg36.data[k.val]? = some (dchar k.val) := by decide
  exact this ⟨d, h⟩
theorem dchar_toNat (d : Nat) (h : d < 16) : (dchar d).toNat = if d < 10 then 48 + d else 87 + d := by
  have : ∀ k : Fin 16, (dchar k.val).toNat = if k.val < 10 then 48 + k.val else 87 + k.val := by decide
  exact this ⟨d, h⟩

theorem tz_any (w : World) (hL : Ld w) : Calls Tryd.prog 93 #[.int .u64 16] w fun e w' => e = .returned (.int .i64 4) ∧ w' = w := by
  have h := hL.tz
  have h1 : IntKind.u64.wrap (-16) = 18446744073709551600 := by decide
  have h2 : bits .and .u64 16 18446744073709551600 = 16 := by decide
  have h3 : IntKind.u64.wrap (16 * 285870213051353865) = 4573923408821661840 := by decide
  have h4 : (4573923408821661840 : Int) / 288230376151711744 = 15 := by decide
  clear hL
  go_enter Tryd.func93, Tryd.ntmps93
  go_wp2
  go_ret
  exact ⟨rfl, rfl⟩

/-- the array in which a number's digits are laid, from the right -/
def fbL (n k : Nat) : List UInt8 := List.replicate (65 - k) 0 ++ digs 16 n k
def fbC (n k : Nat) : Array Value := (BV (fbL n k)).toArray
theorem fbL_length (n k : Nat) (hk : k ≤ 65) : (fbL n k).length = 65 := by simp [fbL, digs_length]; omega
theorem fbL_next (n k : Nat) (hk : k < 65) : (fbL n k).set (64 - k) (dchar (n / 16 ^ k % 16)) = fbL n (k + 1) := by
  have e : 65 - k = 64 - k + 1 := by omega
  unfold fbL
  rw [digs_left, e, List.replicate_succ', List.append_assoc, show 65 - (k + 1) = 64 - k by omega]
  rw [List.set_append_right _ _ (by simp)]
  simp
theorem fbC_next (n k : Nat) (hk : k < 65) : (fbC n k).setIfInBounds (64 - k) (.int .u8 ((dchar (n / 16 ^ k % 16)).toNat : Int)) = fbC n (k + 1) := by
  unfold fbC
  rw [← fbL_next n k hk]
  simp [BV, List.map_set]

theorem and15 (n : Nat) (h : n < 18446744073709551616) : bits .and .u64 (n : Int) 15 = ((n % 16 : Nat) : Int) := by
  have h1 := u64_and_nat n 15 h (by omega)
  have e : n &&& 15 = n % 16 := Nat.and_two_pow_sub_one_eq_mod n 4
  rw [e] at h1
  exact h1
theorem div16_pow (n k : Nat) : n / 16 ^ k / 16 = n / 16 ^ (k + 1) := by rw [Nat.pow_succ, Nat.div_div_eq_div_mul]

theorem pow2_any (w : World) : Calls Tryd.prog 92 #[.int .i64 16] w fun e w' => e = .returned (.bool true) ∧ w' = w := by
  have p1 : bits .and .i64 16 15 = 0 := by decide
  go_enter Tryd.func92, Tryd.ntmps92
  go_wp2
  go_ret
  exact ⟨rfl, rfl⟩

set_option maxHeartbeats 1600000 in
theorem fbits_any (n : Nat) (w : World) (hn : n < 18446744073709551616) (hL : Ld w) :
    Calls Tryd.prog 82 #[.slice none 0 0, .int .u64 (n : Int), .int .i64 16, .bool false, .bool false] w fun e w' => ∃ k, e = .returned (.tuple #[.slice none 0 0, .string (Bstr (digs 16 n k))]) ∧ 1 ≤ k ∧ k ≤ 16 ∧ n < 16 ^ k ∧ Below w.heap.size w w' := by
  have HL := Lib.hid hL
  have hal : Tryd.prog.arrayLen 133 = 65 := by kernel_rfl
  have HN := Lib.hid hn
  clear hL
  go_enter Tryd.func82, Tryd.ntmps82
  go_wp2_with fail
  refine (pow2_any _).mono ?_
  rintro e w1 ⟨rfl, rfl⟩
  go_wp2_with fail
  refine (tz_any _ (HL.out.below ((Below.refl _ _).alloc (Nat.le_refl _) _))).mono ?_
  rintro e w1 ⟨rfl, rfl⟩
  go_wp2_with fail
  have HB : Hid (Blk (w.alloc (.cells Tryd.zeroCells133 133)) w.heap.size 133 (fbC n 0)) := Lib.hid (Blk.new _ _ _)
  have HW : Hid (Below w.heap.size w (w.alloc (.cells Tryd.zeroCells133 133))) := Lib.hid ((Below.refl _ _).alloc (Nat.le_refl _) _)
  revert HB HW
  generalize w.alloc (.cells Tryd.zeroCells133 133) = w1
  intro HB HW
  go_loopg [1, 13] 15 (fun gk uv iv wr => ∃ (k : Nat), k + gk = 15 ∧ uv = .int .u64 ((n / 16 ^ k : Nat) : Int) ∧ iv = .int .i64 (65 - k : Int) ∧ Hid (Blk wr w.heap.size 133 (fbC n k) ∧ Below w.heap.size w wr))
  case atStart => exact ⟨0, by omega, by simp, by simp, Lib.hid ⟨HB.out, HW.out⟩⟩
  case round =>
    obtain ⟨k, hk, rfl, rfl, HM⟩ := hrel
    have hq : n / 16 ^ k < 18446744073709551616 := Nat.lt_of_le_of_lt (Nat.div_le_self _ _) hn
    have hcs : (fbC n k)[65 - k - 1]? = some (.int .u8 (((fbL n k)[64 - k]'(by rw [fbL_length n k (by omega)]; omega)).toNat : Int)) := by
      rw [show 65 - k - 1 = 64 - k by omega]
      unfold fbC
      rw [List.getElem?_toArray, BV_getElem?, List.getElem?_eq_getElem (by rw [fbL_length n k (by omega)]; omega)]
      rfl
    have hc := (HM.out.1.cell (65 - k - 1)).trans hcs
    have hfz := HM.out.1.frozen (65 - k - 1)
    generalize hqq : n / 16 ^ k = q at *
    have HQQ := Lib.hid hqq
    clear hqq hcs
    by_cases h16 : 16 ≤ q
    · have hand := and15 q hq
      have hd : q % 16 < 16 := Nat.mod_lt _ (by omega)
      have HS : Hid ((fbC n k).setIfInBounds (64 - k) (.int .u8 ((dchar (q % 16)).toNat : Int)) = fbC n (k + 1)) := Lib.hid (by
        have := fbC_next n k (by omega)
        rw [HQQ.out] at this
        exact this)
      generalize q % 16 = d at *
      obtain ⟨gk1, hgk1⟩ : ∃ x, gk = x + 1 := ⟨gk - 1, by
        have h1 := HQQ.out
        have h2 := HN.out
        rcases Nat.lt_or_ge k 15 with h | h
        · omega
        · exfalso
          have : n / 16 ^ k < 16 := by
            rw [Nat.div_lt_iff_lt_mul (Nat.pow_pos (by omega))]
            have : k = 15 := by omega
            subst this
            omega
          omega⟩
      go_wp2_with fail
      go_roundg gk1
      case measure => omega
      case rel =>
        refine ⟨k + 1, by omega, ?_, ?_, Lib.hid ⟨?_, ?_⟩⟩
        · rw [← div16_pow, HQQ.out]
          simp
        · congr 1
          omega
        · have h1 := (HM.out.1.set_ (65 - k - 1) (.int .u8 ((dchar d).toNat : Int)))
          rw [show 65 - k - 1 = 64 - k by omega] at h1 ⊢
          rw [HS.out] at h1
          have h2 := dg36_at d hd
          have : (dg36.data[d]'(by have : dg36.data.size = 36 := rfl; omega)) = dchar d := (Array.getElem?_eq_some_iff.1 h2).2
          rw [← this] at h1
          exact h1
        · exact HM.out.2.grown (grown_set _ _ _ _) HM.out.2.size (by intro z hz; injection hz with hz; omega)
    · have HS : Hid ((fbC n k).setIfInBounds (64 - k) (.int .u8 ((dchar q).toNat : Int)) = fbC n (k + 1)) := Lib.hid (by
        have := fbC_next n k (by omega)
        rw [HQQ.out, Nat.mod_eq_of_lt (by omega : q < 16)] at this
        exact this)
      have HE : Hid (n < 16 ^ (k + 1)) := Lib.hid (by
        have h1 := HQQ.out
        have h2 : n / 16 ^ k < 16 := by omega
        rw [Nat.div_lt_iff_lt_mul (Nat.pow_pos (by omega))] at h2
        rw [Nat.pow_succ, Nat.mul_comm]
        exact h2)
      have hsl : ∀ W, (Instr.sliceAt 133 (.pointer (some ⟨w.heap.size, 0, none⟩)) (some (.int .i64 (65 - (k : Int) - 1))) none none).run Tryd.prog W = .ok (.slice (some ⟨w.heap.size, 64 - k, none⟩) (k + 1) (k + 1)) W := fun W => by
        rw [run_sliceAt_array_l W 133 ⟨w.heap.size, 0, none⟩ (by simp [Program.arrayLen, Program.elem, Tryd.underlying133]) .i64 (65 - (k : Int) - 1) (by omega) (by rw [hal]; omega)]
        have e1 : (65 - (k : Int) - 1).toNat = 64 - k := by omega
        rw [e1, hal]
        go_simp
        omega
      have hcv : ∀ u : World, Blk u w.heap.size 133 (fbC n (k + 1)) → (convert 28 9 (.slice (some ⟨w.heap.size, 64 - k, none⟩) (k + 1) (k + 1))).run Tryd.prog u = .ok (.string (Bstr (digs 16 n (k + 1)))) u := fun u hu => by
        have h1 := run_string (P := Tryd.prog) u byteT strT (some ⟨w.heap.size, 64 - k, none⟩) (k + 1) (digs 16 n (k + 1)) (Rd.of_cells fun j x hx => by
          rw [Addr.add_lit, hu.cell]
          unfold fbC
          rw [List.getElem?_toArray, BV_getElem?]
          rw [BV_getElem?] at hx
          rw [fbL, List.getElem?_append_right (by simp)]
          rw [← hx]
          congr 1
          congr 1
          simp)
        rw [digs_length] at h1
        exact h1
      go_wp2_with fail
      rw [hcv _ (by
        have h1 := (HM.out.1.set_ (65 - k - 1) (.int .u8 ((dchar q).toNat : Int)))
        rw [show 65 - k - 1 = 64 - k by omega] at h1 ⊢
        rw [HS.out] at h1
        have h2 := dg36_at q (by omega)
        have : (dg36.data[q]'(by have : dg36.data.size = 36 := rfl; omega)) = dchar q := (Array.getElem?_eq_some_iff.1 h2).2
        rw [← this] at h1
        exact h1)]
      go_wp2_with fail
      go_ret2
      exact ⟨k + 1, rfl, by omega, by omega, HE.out, HM.out.2.grown (grown_set _ _ _ _) HM.out.2.size (by intro z hz; injection hz with hz; omega)⟩

theorem fmt16_any (n : Nat) (w : World) (hn : n < 18446744073709551616) (hL : Ld w) :
    Calls Tryd.prog 58 #[.int .u64 (n : Int), .int .i64 16] w fun e w' => ∃ k, e = .returned (.string (Bstr (digs 16 n k))) ∧ 1 ≤ k ∧ k ≤ 16 ∧ n < 16 ^ k ∧ Below w.heap.size w w' := by
  go_enter Tryd.func58, Tryd.ntmps58
  go_wp2_with first | (go_at_call 69; go_in) | fail
  refine (fbits_any n _ hn hL).mono ?_
  rintro e w1 ⟨k, rfl, h1, h2, h3, hb⟩
  go_wp2_with fail
  go_ret
  exact ⟨k, rfl, h1, h2, h3, hb⟩

theorem nDigits3 (n : Nat) (h1 : 100 ≤ n) (h2 : n < 1000) : Lib.nDigits n = 3 := by
  rw [Lib.nDigits_big (by omega), Lib.nDigits_big (by omega), Lib.nDigits_small (by omega)]

theorem holds_three (w : World) (T : TypeId) : Sort.Holds (fun (b : UInt8) => Value.int .u8 (b.toNat : Int)) (w.alloc (.cells Lib.zeros24 T)) w.heap.size 0 (Array.replicate 3 0) := Lib.holds_zero0 w T 3 (by omega)

/-- what formatBase10 leaves of three digits -/
theorem fmt3 {n v : Nat} {dk : Array UInt8} (h : Lib.FmtInv 3 n 0 v dk) : dk.toList = digs 10 n 3 := by
  have key : ∀ m j : Nat, Lib.dg m j = dchar (m / 10 ^ j % 10) := fun m j => by
    have : m / 10 ^ j % 10 < 10 := Nat.mod_lt _ (by omega)
    rw [dchar, if_pos this]
    rfl
  have hs := h.size
  apply List.ext_getElem?
  intro i
  by_cases hi : i < 3
  · have h1 := h.done i (by omega) hi
    rw [key] at h1
    have h2 : dk.toList[i]? = some dk[i]! := by
      rw [Array.getElem?_toList, getElem!_pos dk i (by omega)]
      exact Array.getElem?_eq_getElem (by omega)
    rw [h2, h1]
    have : i = 0 ∨ i = 1 ∨ i = 2 := by omega
    rcases this with rfl | rfl | rfl
    · simp [digs, Nat.div_div_eq_div_mul]
    · simp [digs]
    · simp [digs]
  · rw [List.getElem?_eq_none (by simp [hs]; omega), List.getElem?_eq_none (by rw [digs_length]; omega)]

theorem below_putRow {α : Type} [Inhabited α] {enc : α → Value} {B : Nat} {a w : World} (h : Below B a w) {g : Nat} (hg : B ≤ g) (off : Nat) (d : Array α) : Below B a (Sort.putRow enc w g off d) :=
  ⟨h.os, h.tape, h.output, by rw [Sort.size_putRow]; exact h.size, fun j hj => by
    have : (Sort.putRow enc w g off d).heap[j]? = w.heap[j]? := by
      simp only [Sort.putRow, Sort.mapBlock]
      rw [Array.getElem?_modify, if_neg (by omega)]
    rw [this]
    exact h.block j hj⟩
theorem cell?_putRow' {w : World} {g off : Nat} {d0 d : Array UInt8} (enc : UInt8 → Value) (h0 : Sort.Holds enc w g off d0) (hs : d.size = d0.size) (j : Nat) (hj : j < d.size) : (Sort.putRow enc w g off d).cell? ⟨g, off + j, none⟩ = some (enc d[j]!) := Sort.cell?_putRow enc w g off d0 d h0 hs j hj

set_option maxHeartbeats 800000 in
theorem fmt10big_any (n : Nat) (w : World) (h1 : 100 ≤ n) (hn : n < 1000) (hL : Ld w) :
    Calls Tryd.prog 69 #[.int .u64 (n : Int), .int .i64 10] w fun e w' => e = .returned (.string (Bstr (digs 10 n 3))) ∧ Below w.heap.size w w' := by
  have hal : Tryd.prog.arrayLen 118 = 24 := by kernel_rfl
  have hsl : ∀ W, (Instr.sliceAt 118 (.pointer (some ⟨w.heap.size, 0, none⟩)) none (some (.int .i64 3)) none).run Tryd.prog W = .ok (.slice (some ⟨w.heap.size, 0, none⟩) 3 24) W := fun W => by
    rw [run_sliceAt_array_h W 118 ⟨w.heap.size, 0, none⟩ (by simp [Program.arrayLen, Program.elem, Tryd.underlying118]) .i64 3 (by omega) (by rw [hal]; omega), hal]
    go_simp
  have hb0 : Below w.heap.size w (w.alloc (.cells Lib.zeros24 118)) := (Below.refl _ _).alloc (Nat.le_refl _) _
  have hND := fun (u : World) (hu : Ld u) => Any.internal_strconv_numDigits Tryd.laysM284 n (by omega) (by omega) u hu.p10
  rw [nDigits3 n h1 hn] at hND
  have hF := Any.internal_strconv_formatBase10 Tryd.lays285 w.heap.size 0 24 n (Array.replicate 3 0) (w.alloc (.cells Lib.zeros24 118)) (holds_three w _) (by simpa using hn) (by omega) (by simp)
  rw [Array.size_replicate] at hF
  have HL := Lib.hid (hL.below hb0)
  have HB0 := Lib.hid hb0
  clear hal hL hb0
  go_enter Tryd.func69, Tryd.ntmps69
  go_wp2_with fail
  refine (hND _ HL.out).mono ?_
  rintro e w1 ⟨rfl, rfl⟩
  go_wp2_with fail
  refine hF.mono ?_
  rintro e w1 ⟨rfl, k, v', dk, hw1, hI⟩
  have HW : Hid (Below w.heap.size w w1) := Lib.hid (by
    rw [hw1]
    exact below_drewN (below_putRow HB0.out (Nat.le_refl _) _ _) _)
  have HR : Hid (Rd w1 (some ⟨w.heap.size, 0, none⟩) (BV (digs 10 n 3))) := Lib.hid (Rd.of_cells fun j x hx => by
    rw [Addr.add_lit, hw1, World.cell?_drewN, ← fmt3 hI] at *
    rw [BV_getElem?, Array.getElem?_toList] at hx
    have hj : j < dk.size := by
      rcases Nat.lt_or_ge j dk.size with h | h
      · exact h
      · rw [Array.getElem?_eq_none h] at hx
        cases hx
    rw [Array.getElem?_eq_getElem hj] at hx
    rw [cell?_putRow' _ (holds_three w _) (by rw [hI.size]; simp) j hj, getElem!_pos dk j hj]
    simpa using hx)
  clear hw1 hF hND
  go_wp2_with fail
  rw [show (3 : Nat) = (digs 10 n 3).length from rfl, run_string (P := Tryd.prog) w1 byteT strT _ 24 (digs 10 n 3) HR.out]
  go_wp2_with fail
  go_ret
  exact ⟨rfl, HW.out⟩

theorem fmt10_any (n : Nat) (w : World) (hn : n < 1000) (hL : Ld w) :
    Calls Tryd.prog 58 #[.int .u64 (n : Int), .int .i64 10] w fun e w' => ∃ k, e = .returned (.string (Bstr (digs 10 n k))) ∧ 1 ≤ k ∧ k ≤ 3 ∧ n < 10 ^ k ∧ Below w.heap.size w w' := by
  by_cases h : n < 100
  · go_enter Tryd.func58, Tryd.ntmps58
    go_wp2_with first | (go_at_call 69; go_in) | fail
    refine (mtsmall_any n _ h).mono ?_
    rintro e w1 ⟨k, rfl, h1, h2, h3, rfl⟩
    go_wp2_with fail
    go_ret
    exact ⟨k, rfl, h1, h2, h3, Below.refl _ _⟩
  · go_enter Tryd.func58, Tryd.ntmps58
    go_wp2_with fail
    refine (fmt10big_any n _ (by omega) hn hL).mono ?_
    rintro e w1 ⟨rfl, hb⟩
    go_wp2_with fail
    go_ret
    exact ⟨3, rfl, by omega, by omega, by omega, hb⟩

theorem mdig_any (b m n : Nat) (w : World) (hb0 : 0 < b) (hm : m ≤ 16)
    (hC : Calls Tryd.prog 58 #[.int .u64 (n : Int), .int .i64 (b : Int)] w fun e w' => ∃ k, e = .returned (.string (Bstr (digs b n k))) ∧ 1 ≤ k ∧ k ≤ m ∧ n < b ^ k ∧ Below w.heap.size w w') :
    Calls Tryd.prog 42 #[.int .u64 (n : Int), .int .i64 (b : Int), .int .i64 (m : Int)] w fun e w' => e = .returned (.string (Bstr (digs b n m))) ∧ Below w.heap.size w w' := by
  go_enter Tryd.func42, Tryd.ntmps42
  go_wp2_with fail
  refine hC.mono ?_
  rintro e w1 ⟨k, rfl, h1, h2, h3, hb1⟩
  have hlen : (Bstr (digs b n k)).size = k := by rw [Bstr_size, digs_length]
  have hmk : (m : Int) - k = ((m - k : Nat) : Int) := by omega
  have hadd := addStr (List.replicate (m - k) 48) (digs b n k) (by simp [digs_length]; omega)
  have hpad := digs_pad b hb0 k (m - k) n h3
  rw [show m - k + k = m by omega] at hpad
  rw [← hpad] at hadd
  clear hpad h3 hC
  go_wp2_with fail
  refine (mrep_any (m - k) _ (by omega)).mono ?_
  rintro e w2 ⟨rfl, hb2⟩
  go_wp2_with fail
  go_ret
  exact ⟨rfl, hb1.trans (hb2.mono hb1.size)⟩

theorem dig16_any (n : Nat) (w : World) (hn : n < 18446744073709551616) (hL : Ld w) :
    Calls Tryd.prog 42 #[.int .u64 (n : Int), .int .i64 16, .int .i64 16] w fun e w' => e = .returned (.string (Bstr (digs 16 n 16))) ∧ Below w.heap.size w w' :=
  mdig_any 16 16 n w (by omega) (by omega) (fmt16_any n w hn hL)
theorem dig10_any (n : Nat) (w : World) (hn : n < 1000) (hL : Ld w) :
    Calls Tryd.prog 42 #[.int .u64 (n : Int), .int .i64 10, .int .i64 3] w fun e w' => e = .returned (.string (Bstr (digs 10 n 3))) ∧ Below w.heap.size w w' :=
  mdig_any 10 3 n w (by omega) (by omega) (fmt10_any n w hn hL)
end Go.Proofs.YtkhdlcoappkgkaaDoor
