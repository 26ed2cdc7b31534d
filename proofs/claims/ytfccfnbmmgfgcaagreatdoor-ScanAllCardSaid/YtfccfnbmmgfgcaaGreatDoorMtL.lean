/-
  THE LIBRARY's OWN CONTRACTS, laid at this program (in plain words): strconv's numDigits, small, formatBase10, toError, lower, Atoi; strings.Repeat. And what of the library's variables they read (Ld). Conditions: what each says.
  CONTRACTS of strconv.FormatUint at the bases 16 and 10 (there of numbers below 1000) and of the program's digits. Conditions: what each says; of the library's variables: Ld.
  NAMES, plain: an object's name, and what any name is of; CONTRACTS of the program's Name and the document's digits, Name, value. Conditions: what each says; of the library's variables: Ld.
  CONTRACTS of the document's Name, value and Parse. Conditions: what each says.
  CONTRACT of the document's Parse. Conditions: what it says.
-/
import Derived.Shelf.Strconv.Itoa1
import Derived.Shelf.Strconv.Itoa2
import Derived.Shelf.Strconv.ToError
import Derived.Shelf.Strconv.Lower
import Derived.Shelf.Strconv.AtoiAll
import Derived.Shelf.Strings.Repeat
import Derived.Lib.AppendIntMem
import Derived.Test.YtfccfnbmmgfgcaaGreatDoorCln
import Derived.Test.YtfccfnbmmgfgcaaGreatDoorMtA
import Derived.Deep.DeepCutAuto
import Derived.Test.YtfccfnbmmgfgcaaGreatDoorMix
import Derived.Lib.MinMax
namespace Go.Proofs.YtfccfnbmmgfgcaaGreatDoor
open Go.Shelf
set_option maxRecDepth 100000

def Tryz.lays283_ren : Go.Shelf.Ren := ⟨fun | 283 => 137 | n => n, fun | 3 => 3 | 9 => 9 | 4 => 4 | n => n, fun | n => n⟩
theorem Tryz.lays283 : Go.Proofs.Lays.n283 Tryz.prog Tryz.lays283_ren := {
  mixed := by kernel_rfl
  f283 := Tryz.func137.trans (congrArg some (by kernel_rfl))
  t3 := Tryz.underlying3
  a3 := Tryz.isAgg3
  z3 := Tryz.sizeOf3
  v3 := Tryz.zeroValue3
  t4 := Tryz.underlying4
  a4 := Tryz.isAgg4
  z4 := Tryz.sizeOf4
  v4 := Tryz.zeroValue4
  t9 := Tryz.underlying9
  a9 := Tryz.isAgg9
  z9 := Tryz.sizeOf9
  v9 := Tryz.zeroValue9 }

def Tryz.laysM284_ren : Go.Shelf.Ren := ⟨fun | 284 => 138 | 129 => 164 | 317 => 163 | 318 => 165 | n => n, fun | 53 => 22 | 3 => 3 | 212 => 236 | 0 => 0 | 4 => 4 | 46 => 186 | 5 => 5 | 9 => 9 | n => n, fun | 17 => 0 | n => n⟩
theorem Tryz.laysM284 : Go.Proofs.LaysM.n284 Tryz.prog Tryz.laysM284_ren := {
  mixed := by kernel_rfl
  f129 := Tryz.func164.trans (congrArg some (by kernel_rfl))
  f284 := Tryz.func138.trans (congrArg some (by kernel_rfl))
  f317 := Tryz.func163.trans (congrArg some (by kernel_rfl))
  f318 := Tryz.func165.trans (congrArg some (by kernel_rfl))
  t0 := Tryz.underlying0
  a0 := Tryz.isAgg0
  z0 := Tryz.sizeOf0
  v0 := Tryz.zeroValue0
  t3 := Tryz.underlying3
  a3 := Tryz.isAgg3
  z3 := Tryz.sizeOf3
  v3 := Tryz.zeroValue3
  t4 := Tryz.underlying4
  a4 := Tryz.isAgg4
  z4 := Tryz.sizeOf4
  v4 := Tryz.zeroValue4
  t5 := Tryz.underlying5
  a5 := Tryz.isAgg5
  z5 := Tryz.sizeOf5
  v5 := Tryz.zeroValue5
  t9 := Tryz.underlying9
  a9 := Tryz.isAgg9
  z9 := Tryz.sizeOf9
  v9 := Tryz.zeroValue9
  t46 := Tryz.underlying186
  a46 := Tryz.isAgg186
  z46 := Tryz.sizeOf186
  v46 := Tryz.zeroValue186
  t53 := Tryz.underlying22
  a53 := Tryz.isAgg22
  z53 := Tryz.sizeOf22
  v53 := Tryz.zeroValue22
  t212 := Tryz.underlying236
  a212 := Tryz.isAgg236
  z212 := Tryz.sizeOf236
  v212 := Tryz.zeroValue236
  g17 := by kernel_rfl
  i0 := by kernel_rfl
  i3 := by kernel_rfl
  i4 := by kernel_rfl
  i5 := by kernel_rfl
  i9 := by kernel_rfl
  i46 := by kernel_rfl
  i53 := by kernel_rfl
  i212 := by kernel_rfl
  m17 := by kernel_rfl }

def Tryz.lays285_ren : Go.Shelf.Ren := ⟨fun | 285 => 139 | n => n, fun | 37 => 67 | 53 => 22 | 3 => 3 | 4 => 4 | 51 => 157 | 9 => 9 | 5 => 5 | 0 => 0 | n => n, fun | n => n⟩
theorem Tryz.lays285 : Go.Proofs.Lays.n285 Tryz.prog Tryz.lays285_ren := {
  mixed := by kernel_rfl
  f285 := Tryz.func139.trans (congrArg some (by kernel_rfl))
  t0 := Tryz.underlying0
  a0 := Tryz.isAgg0
  z0 := Tryz.sizeOf0
  v0 := Tryz.zeroValue0
  t3 := Tryz.underlying3
  a3 := Tryz.isAgg3
  z3 := Tryz.sizeOf3
  v3 := Tryz.zeroValue3
  t4 := Tryz.underlying4
  a4 := Tryz.isAgg4
  z4 := Tryz.sizeOf4
  v4 := Tryz.zeroValue4
  t5 := Tryz.underlying5
  a5 := Tryz.isAgg5
  z5 := Tryz.sizeOf5
  v5 := Tryz.zeroValue5
  t9 := Tryz.underlying9
  a9 := Tryz.isAgg9
  z9 := Tryz.sizeOf9
  v9 := Tryz.zeroValue9
  t37 := Tryz.underlying67
  a37 := Tryz.isAgg67
  z37 := Tryz.sizeOf67
  v37 := Tryz.zeroValue67
  t51 := Tryz.underlying157
  a51 := Tryz.isAgg157
  z51 := Tryz.sizeOf157
  v51 := Tryz.zeroValue157
  t53 := Tryz.underlying22
  a53 := Tryz.isAgg22
  z53 := Tryz.sizeOf22
  v53 := Tryz.zeroValue22 }

def Tryz.lays105_ren : Go.Shelf.Ren := ⟨fun | 105 => 89 | 212 => 116 | 99 => 117 | 165 => 118 | 166 => 119 | 170 => 120 | 169 => 121 | 263 => 141 | 264 => 142 | 206 => 143 | 240 => 144 | 241 => 145 | 276 => 168 | 277 => 169 | n => n, fun | 9 => 9 | 3 => 3 | 4 => 4 | 20 => 20 | 0 => 0 | 46 => 186 | 109 => 187 | 5 => 5 | 72 => 192 | 76 => 193 | 51 => 157 | 146 => 214 | 53 => 22 | 148 => 216 | 70 => 190 | 37 => 67 | 75 => 37 | 127 => 180 | 164 => 239 | 80 => 195 | n => n, fun | n => n⟩
theorem Tryz.lays105 : Go.Proofs.Lays.n105 Tryz.prog Tryz.lays105_ren := {
  mixed := by kernel_rfl
  f99 := Tryz.func117.trans (congrArg some (by kernel_rfl))
  f105 := Tryz.func89.trans (congrArg some (by kernel_rfl))
  f165 := Tryz.func118.trans (congrArg some (by kernel_rfl))
  f166 := Tryz.func119.trans (congrArg some (by kernel_rfl))
  f169 := Tryz.func121.trans (congrArg some (by kernel_rfl))
  f170 := Tryz.func120.trans (congrArg some (by kernel_rfl))
  f206 := Tryz.func143.trans (congrArg some (by kernel_rfl))
  f212 := Tryz.func116.trans (congrArg some (by kernel_rfl))
  f240 := Tryz.func144.trans (congrArg some (by kernel_rfl))
  f241 := Tryz.func145.trans (congrArg some (by kernel_rfl))
  f263 := Tryz.func141.trans (congrArg some (by kernel_rfl))
  f264 := Tryz.func142.trans (congrArg some (by kernel_rfl))
  f276 := Tryz.func168.trans (congrArg some (by kernel_rfl))
  f277 := Tryz.func169.trans (congrArg some (by kernel_rfl))
  t0 := Tryz.underlying0
  a0 := Tryz.isAgg0
  z0 := Tryz.sizeOf0
  v0 := Tryz.zeroValue0
  t3 := Tryz.underlying3
  a3 := Tryz.isAgg3
  z3 := Tryz.sizeOf3
  v3 := Tryz.zeroValue3
  t4 := Tryz.underlying4
  a4 := Tryz.isAgg4
  z4 := Tryz.sizeOf4
  v4 := Tryz.zeroValue4
  t5 := Tryz.underlying5
  a5 := Tryz.isAgg5
  z5 := Tryz.sizeOf5
  v5 := Tryz.zeroValue5
  t9 := Tryz.underlying9
  a9 := Tryz.isAgg9
  z9 := Tryz.sizeOf9
  v9 := Tryz.zeroValue9
  t20 := Tryz.underlying20
  a20 := Tryz.isAgg20
  z20 := Tryz.sizeOf20
  v20 := Tryz.zeroValue20
  t37 := Tryz.underlying67
  a37 := Tryz.isAgg67
  z37 := Tryz.sizeOf67
  v37 := Tryz.zeroValue67
  t46 := Tryz.underlying186
  a46 := Tryz.isAgg186
  z46 := Tryz.sizeOf186
  v46 := Tryz.zeroValue186
  t51 := Tryz.underlying157
  a51 := Tryz.isAgg157
  z51 := Tryz.sizeOf157
  v51 := Tryz.zeroValue157
  t53 := Tryz.underlying22
  a53 := Tryz.isAgg22
  z53 := Tryz.sizeOf22
  v53 := Tryz.zeroValue22
  t70 := Tryz.underlying190
  a70 := Tryz.isAgg190
  z70 := Tryz.sizeOf190
  v70 := Tryz.zeroValue190
  t72 := Tryz.underlying192
  a72 := Tryz.isAgg192
  z72 := Tryz.sizeOf192
  v72 := Tryz.zeroValue192
  t75 := Tryz.underlying37
  a75 := Tryz.isAgg37
  z75 := Tryz.sizeOf37
  v75 := Tryz.zeroValue37
  t76 := Tryz.underlying193
  a76 := Tryz.isAgg193
  z76 := Tryz.sizeOf193
  v76 := Tryz.zeroValue193
  t109 := Tryz.underlying187
  a109 := Tryz.isAgg187
  z109 := Tryz.sizeOf187
  v109 := Tryz.zeroValue187
  t127 := Tryz.underlying180
  a127 := Tryz.isAgg180
  z127 := Tryz.sizeOf180
  v127 := Tryz.zeroValue180
  t146 := Tryz.underlying214
  a146 := Tryz.isAgg214
  z146 := Tryz.sizeOf214
  v146 := Tryz.zeroValue214
  t148 := Tryz.underlying216
  a148 := Tryz.isAgg216
  z148 := Tryz.sizeOf216
  v148 := Tryz.zeroValue216
  t164 := Tryz.underlying239
  a164 := Tryz.isAgg239
  z164 := Tryz.sizeOf239
  v164 := Tryz.zeroValue239 }

theorem Tryz.Builder_Extra_105 : Builder.Extra Tryz.prog Tryz.lays105_ren := {
  sizeBuilder := by kernel_rfl
  liesBuilder := by kernel_rfl
  t5 := Tryz.underlying5
  a5 := Tryz.isAgg5
  z5 := Tryz.sizeOf5
  v5 := Tryz.zeroValue5
  infoByte := by kernel_rfl
  cellsByte := by kernel_rfl
  sizeByte := by kernel_rfl
  neB5 := by decide }

open Go.RowKit
structure Ld (w : World) : Prop where
  p10 : Lib.TabIs Tryz.prog w "internal/strconv.uint64pow10" .u64 Lib.pow10Tab
  tz : w.cell? ⟨3, 15, none⟩ = some (.int .u8 4)
theorem Ld.below {w w' : World} (h : Ld w) (hb : Below w.heap.size w w') : Ld w' := by
  have key : ∀ {p : Addr} {v : Value}, w.cell? p = some v → w'.cell? p = some v := fun {p v} hp => (hb.cell (World.block_lt_of_cell? w _ hp)).trans hp
  exact ⟨Lib.tabBelow_of_tabIs h.p10 w' hb, key h.tz⟩
theorem Ld.drew {w : World} (h : Ld w) : Ld w.drew := h.below (Below.refl _ _).drew
theorem Ld.drewN {w : World} (h : Ld w) (n : Nat) : Ld (w.drewN n) := h.below (below_drewN (Below.refl _ _) n)

open Go.Lib in
theorem mrep_any (c : Nat) (w : World) (hc : c ≤ 1000) : Calls Tryz.prog 89 #[.string (Bstr [48]), .int .i64 (c : Int)] w fun e w' => e = .returned (.string (Bstr (List.replicate c 48))) ∧ Below w.heap.size w w' := by
  have h := Any.strings_Repeat Tryz.lays105 Tryz.Builder_Extra_105 (Bstr [48]) c w (by omega) (by rw [Bstr_size]; simp; omega)
  refine h.mono fun e w' ⟨he, hb⟩ => ⟨?_, hb⟩
  rw [he]
  have : Lib.repeatL (Bstr [48]).data.toList c = List.replicate c 48 := by
    have := Lib.repeatL_replicate 48 1 c
    simpa [Bstr] using this
  rw [this]
  rfl

open Go.Lib in
theorem mtsmall_any (n : Nat) (w : World) (h : n < 100) : Calls Tryz.prog 137 #[.int .i64 (n : Int)] w fun e w' => ∃ k, e = .returned (.string (Bstr (digs 10 n k))) ∧ 1 ≤ k ∧ k ≤ 3 ∧ n < 10 ^ k ∧ w' = w := by
  refine (Any.internal_strconv_small Tryz.lays283 n h w).mono fun e w' ⟨he, hw⟩ => ?_
  have key : ∀ m : Fin 100, ∃ k : Fin 4, Lib.decDigits m.val = digs 10 m.val k.val ∧ 1 ≤ k.val ∧ m.val < 10 ^ k.val := by
    intro m
    by_cases h : m.val < 10
    · refine ⟨1, ?_, by decide, by simp; exact h⟩
      rw [Lib.decDigits, dif_pos h, show (1 : Fin 4).val = 1 from rfl]
      simp only [digs, List.nil_append]
      rw [Nat.mod_eq_of_lt h, dchar, if_pos h]
    · refine ⟨2, ?_, by decide, by have := m.isLt; simp⟩
      have h10 : m.val / 10 < 10 := by have := m.isLt; omega
      rw [Lib.decDigits, dif_neg h, Lib.decDigits, dif_pos h10, show (2 : Fin 4).val = 2 from rfl]
      simp only [digs, List.nil_append]
      rw [Nat.mod_eq_of_lt h10, dchar, if_pos h10, dchar, if_pos (Nat.mod_lt _ (by omega))]
  obtain ⟨k, h1, h2, h3⟩ := key ⟨n, h⟩
  refine ⟨k.val, ?_, h2, by have := k.isLt; omega, h3, hw⟩
  rw [he]
  simp only at h1
  rw [h1]
  rfl

open Go.RowKit

def dg36 : ByteArray := ⟨#[48, 49, 50, 51, 52, 53, 54, 55, 56, 57, 97, 98, 99, 100, 101, 102, 103, 104, 105, 106, 107, 108, 109, 110, 111, 112, 113, 114, 115, 116, 117, 118, 119, 120, 121, 122]⟩
theorem dg36_at (d : Nat) (h : d < 16) : dg36.data[d]? = some (dchar d) := by
  have : ∀ k : Fin 16, dg36.data[k.val]? = some (dchar k.val) := by decide
  exact this ⟨d, h⟩
theorem tz_any (w : World) (hL : Ld w) : Calls Tryz.prog 167 #[.int .u64 16] w fun e w' => e = .returned (.int .i64 4) ∧ w' = w := by
  have h := hL.tz
  have h1 : IntKind.u64.wrap (-16) = 18446744073709551600 := by decide
  have h2 : bits .and .u64 16 18446744073709551600 = 16 := by decide
  have h3 : IntKind.u64.wrap (16 * 285870213051353865) = 4573923408821661840 := by decide
  have h4 : (4573923408821661840 : Int) / 288230376151711744 = 15 := by decide
  clear hL
  go_enter Tryz.func167, Tryz.ntmps167
  go_wp2
  go_ret
  exact ⟨rfl, rfl⟩

def fbL (n k : Nat) : List UInt8 := List.replicate (65 - k) 0 ++ digs 16 n k
def fbC (n k : Nat) : Array Value := (BV (fbL n k)).toArray
theorem fbL_length (n k : Nat) (hk : k ≤ 65) : (fbL n k).length = 65 := by simp [fbL, digs_length]; omega
theorem fbL_next (n k : Nat) (hk : k < 65) : (fbL n k).set (64 - k) (dchar (n / 16 ^ k % 16)) = fbL n (k + 1) := by
  have e : 65 - k = 64 - k + 1 := by omega
  unfold fbL
  rw [digs_left, e, List.replicate_succ', List.append_assoc, show 65 - (k + 1) = 64 - k by omega]
  rw [List.set_append_right _ _ (by simp)]
  simp
theorem fbC_next (n k : Nat) (hk : k < 65) : (fbC n k).setIfInBounds (64 - k) (.int .u8 ((dchar (n / 16 ^ k % 16)).toNat : Int)) = fbC n (k + 1) := by
  unfold fbC
  rw [← fbL_next n k hk]
  simp [BV, List.map_set]

theorem and15 (n : Nat) (h : n < 18446744073709551616) : bits .and .u64 (n : Int) 15 = ((n % 16 : Nat) : Int) := by
  have h1 := u64_and_nat n 15 h (by omega)
  have e : n &&& 15 = n % 16 := Nat.and_two_pow_sub_one_eq_mod n 4
  rw [e] at h1
  exact h1
theorem div16_pow (n k : Nat) : n / 16 ^ k / 16 = n / 16 ^ (k + 1) := by rw [Nat.pow_succ, Nat.div_div_eq_div_mul]

theorem pow2_any (w : World) : Calls Tryz.prog 166 #[.int .i64 16] w fun e w' => e = .returned (.bool true) ∧ w' = w := by
  have p1 : bits .and .i64 16 15 = 0 := by decide
  go_enter Tryz.func166, Tryz.ntmps166
  go_wp2
  go_ret
  exact ⟨rfl, rfl⟩

set_option maxHeartbeats 1600000 in
theorem fbits_any (n : Nat) (w : World) (hn : n < 18446744073709551616) (hL : Ld w) :
    Calls Tryz.prog 140 #[.slice none 0 0, .int .u64 (n : Int), .int .i64 16, .bool false, .bool false] w fun e w' => ∃ k, e = .returned (.tuple #[.slice none 0 0, .string (Bstr (digs 16 n k))]) ∧ 1 ≤ k ∧ k ≤ 16 ∧ n < 16 ^ k ∧ Below w.heap.size w w' := by
  have HL := Lib.hid hL
  have hal : Tryz.prog.arrayLen 237 = 65 := by kernel_rfl
  have HN := Lib.hid hn
  clear hL
  go_enter Tryz.func140, Tryz.ntmps140
  go_wp2_with fail
  refine (pow2_any _).mono ?_
  rintro e w1 ⟨rfl, rfl⟩
  go_wp2_with fail
  refine (tz_any _ (HL.out.below ((Below.refl _ _).alloc (Nat.le_refl _) _))).mono ?_
  rintro e w1 ⟨rfl, rfl⟩
  go_wp2_with fail
  have HB : Hid (Blk (w.alloc (.cells Tryz.zeroCells237 237)) w.heap.size 237 (fbC n 0)) := Lib.hid (Blk.new _ _ _)
  have HW : Hid (Below w.heap.size w (w.alloc (.cells Tryz.zeroCells237 237))) := Lib.hid ((Below.refl _ _).alloc (Nat.le_refl _) _)
  revert HB HW
  generalize w.alloc (.cells Tryz.zeroCells237 237) = w1
  intro HB HW
  go_loopg [1, 13] 15 (fun gk uv iv wr => ∃ (k : Nat), k + gk = 15 ∧ uv = .int .u64 ((n / 16 ^ k : Nat) : Int) ∧ iv = .int .i64 (65 - k : Int) ∧ Hid (Blk wr w.heap.size 237 (fbC n k) ∧ Below w.heap.size w wr))
  case atStart => exact ⟨0, by omega, by simp, by simp, Lib.hid ⟨HB.out, HW.out⟩⟩
  case round =>
    obtain ⟨k, hk, rfl, rfl, HM⟩ := hrel
    have hq : n / 16 ^ k < 18446744073709551616 := Nat.lt_of_le_of_lt (Nat.div_le_self _ _) hn
    have hcs : (fbC n k)[65 - k - 1]? = some (.int .u8 (((fbL n k)[64 - k]'(by rw [fbL_length n k (by omega)]; omega)).toNat : Int)) := by
      rw [show 65 - k - 1 = 64 - k by omega]
      unfold fbC
      rw [List.getElem?_toArray, BV_getElem?, List.getElem?_eq_getElem (by rw [fbL_length n k (by omega)]; omega)]
      rfl
    have hc := (HM.out.1.cell (65 - k - 1)).trans hcs
    have hfz := HM.out.1.frozen (65 - k - 1)
    generalize hqq : n / 16 ^ k = q at *
    have HQQ := Lib.hid hqq
    clear hqq hcs
    by_cases h16 : 16 ≤ q
    · have hand := and15 q hq
      have hd : q % 16 < 16 := Nat.mod_lt _ (by omega)
      have HS : Hid ((fbC n k).setIfInBounds (64 - k) (.int .u8 ((dchar (q % 16)).toNat : Int)) = fbC n (k + 1)) := Lib.hid (by
        have := fbC_next n k (by omega)
        rw [HQQ.out] at this
        exact this)
      generalize q % 16 = d at *
      obtain ⟨gk1, hgk1⟩ : ∃ x, gk = x + 1 := ⟨gk - 1, by
        have h1 := HQQ.out
        have h2 := HN.out
        rcases Nat.lt_or_ge k 15 with h | h
        · omega
        · exfalso
          have : n / 16 ^ k < 16 := by
            rw [Nat.div_lt_iff_lt_mul (Nat.pow_pos (by omega))]
            have : k = 15 := by omega
            subst this
            omega
          omega⟩
      go_wp2_with fail
      go_roundg gk1
      case measure => omega
      case rel =>
        refine ⟨k + 1, by omega, ?_, ?_, Lib.hid ⟨?_, ?_⟩⟩
        · rw [← div16_pow, HQQ.out]
          simp
        · congr 1
          omega
        · have h1 := (HM.out.1.set_ (65 - k - 1) (.int .u8 ((dchar d).toNat : Int)))
          rw [show 65 - k - 1 = 64 - k by omega] at h1 ⊢
          rw [HS.out] at h1
          have h2 := dg36_at d hd
          have : (dg36.data[d]'(by have : dg36.data.size = 36 := rfl; omega)) = dchar d := (Array.getElem?_eq_some_iff.1 h2).2
          rw [← this] at h1
          exact h1
        · exact HM.out.2.grown (grown_set _ _ _ _) HM.out.2.size (by intro z hz; injection hz with hz; omega)
    · have HS : Hid ((fbC n k).setIfInBounds (64 - k) (.int .u8 ((dchar q).toNat : Int)) = fbC n (k + 1)) := Lib.hid (by
        have := fbC_next n k (by omega)
        rw [HQQ.out, Nat.mod_eq_of_lt (by omega : q < 16)] at this
        exact this)
      have HE : Hid (n < 16 ^ (k + 1)) := Lib.hid (by
        have h1 := HQQ.out
        have h2 : n / 16 ^ k < 16 := by omega
        rw [Nat.div_lt_iff_lt_mul (Nat.pow_pos (by omega))] at h2
        rw [Nat.pow_succ, Nat.mul_comm]
        exact h2)
      have hsl : ∀ W, (Instr.sliceAt 237 (.pointer (some ⟨w.heap.size, 0, none⟩)) (some (.int .i64 (65 - (k : Int) - 1))) none none).run Tryz.prog W = .ok (.slice (some ⟨w.heap.size, 64 - k, none⟩) (k + 1) (k + 1)) W := fun W => by
        rw [run_sliceAt_array_l W 237 ⟨w.heap.size, 0, none⟩ (by simp [Program.arrayLen, Program.elem, Tryz.underlying237]) .i64 (65 - (k : Int) - 1) (by omega) (by rw [hal]; omega)]
        have e1 : (65 - (k : Int) - 1).toNat = 64 - k := by omega
        rw [e1, hal]
        go_simp
        omega
      have hcv : ∀ u : World, Blk u w.heap.size 237 (fbC n (k + 1)) → (convert 67 9 (.slice (some ⟨w.heap.size, 64 - k, none⟩) (k + 1) (k + 1))).run Tryz.prog u = .ok (.string (Bstr (digs 16 n (k + 1)))) u := fun u hu => by
        have h1 := run_string (P := Tryz.prog) u byteT strT (some ⟨w.heap.size, 64 - k, none⟩) (k + 1) (digs 16 n (k + 1)) (Rd.of_cells fun j x hx => by
          rw [Addr.add_lit, hu.cell]
          unfold fbC
          rw [List.getElem?_toArray, BV_getElem?]
          rw [BV_getElem?] at hx
          rw [fbL, List.getElem?_append_right (by simp)]
          rw [← hx]
          congr 1
          congr 1
          simp)
        rw [digs_length] at h1
        exact h1
      go_wp2_with fail
      rw [hcv _ (by
        have h1 := (HM.out.1.set_ (65 - k - 1) (.int .u8 ((dchar q).toNat : Int)))
        rw [show 65 - k - 1 = 64 - k by omega] at h1 ⊢
        rw [HS.out] at h1
        have h2 := dg36_at q (by omega)
        have : (dg36.data[q]'(by have : dg36.data.size = 36 := rfl; omega)) = dchar q := (Array.getElem?_eq_some_iff.1 h2).2
        rw [← this] at h1
        exact h1)]
      go_wp2_with fail
      go_ret2
      exact ⟨k + 1, rfl, by omega, by omega, HE.out, HM.out.2.grown (grown_set _ _ _ _) HM.out.2.size (by intro z hz; injection hz with hz; omega)⟩

theorem fmt16_any (n : Nat) (w : World) (hn : n < 18446744073709551616) (hL : Ld w) :
    Calls Tryz.prog 88 #[.int .u64 (n : Int), .int .i64 16] w fun e w' => ∃ k, e = .returned (.string (Bstr (digs 16 n k))) ∧ 1 ≤ k ∧ k ≤ 16 ∧ n < 16 ^ k ∧ Below w.heap.size w w' := by
  go_enter Tryz.func88, Tryz.ntmps88
  go_wp2_with first | (go_at_call 115; go_in) | fail
  refine (fbits_any n _ hn hL).mono ?_
  rintro e w1 ⟨k, rfl, h1, h2, h3, hb⟩
  go_wp2_with fail
  go_ret
  exact ⟨k, rfl, h1, h2, h3, hb⟩

theorem nDigits3 (n : Nat) (h1 : 100 ≤ n) (h2 : n < 1000) : Lib.nDigits n = 3 := by
  rw [Lib.nDigits_big (by omega), Lib.nDigits_big (by omega), Lib.nDigits_small (by omega)]

theorem holds_three (w : World) (T : TypeId) : Sort.Holds (fun (b : UInt8) => Value.int .u8 (b.toNat : Int)) (w.alloc (.cells Lib.zeros24 T)) w.heap.size 0 (Array.replicate 3 0) := Lib.holds_zero0 w T 3 (by omega)

theorem fmt3 {n v : Nat} {dk : Array UInt8} (h : Lib.FmtInv 3 n 0 v dk) : dk.toList = digs 10 n 3 := by
  have key : ∀ m j : Nat, Lib.dg m j = dchar (m / 10 ^ j % 10) := fun m j => by
    have : m / 10 ^ j % 10 < 10 := Nat.mod_lt _ (by omega)
    rw [dchar, if_pos this]
    rfl
  have hs := h.size
  apply List.ext_getElem?
  intro i
  by_cases hi : i < 3
  · have h1 := h.done i (by omega) hi
    rw [key] at h1
    have h2 : dk.toList[i]? = some dk[i]! := by
      rw [Array.getElem?_toList, getElem!_pos dk i (by omega)]
      exact Array.getElem?_eq_getElem (by omega)
    rw [h2, h1]
    have : i = 0 ∨ i = 1 ∨ i = 2 := by omega
    rcases this with rfl | rfl | rfl
    · simp [digs, Nat.div_div_eq_div_mul]
    · simp [digs]
    · simp [digs]
  · rw [List.getElem?_eq_none (by simp [hs]; omega), List.getElem?_eq_none (by rw [digs_length]; omega)]

theorem below_putRow {α : Type} [Inhabited α] {enc : α → Value} {B : Nat} {a w : World} (h : Below B a w) {g : Nat} (hg : B ≤ g) (off : Nat) (d : Array α) : Below B a (Sort.putRow enc w g off d) :=
  ⟨h.os, h.tape, h.output, by rw [Sort.size_putRow]; exact h.size, fun j hj => by
    have : (Sort.putRow enc w g off d).heap[j]? = w.heap[j]? := by
      simp only [Sort.putRow, Sort.mapBlock]
      rw [Array.getElem?_modify, if_neg (by omega)]
    rw [this]
    exact h.block j hj⟩
theorem cell?_putRow' {w : World} {g off : Nat} {d0 d : Array UInt8} (enc : UInt8 → Value) (h0 : Sort.Holds enc w g off d0) (hs : d.size = d0.size) (j : Nat) (hj : j < d.size) : (Sort.putRow enc w g off d).cell? ⟨g, off + j, none⟩ = some (enc d[j]!) := Sort.cell?_putRow enc w g off d0 d h0 hs j hj

set_option maxHeartbeats 800000 in
theorem fmt10big_any (n : Nat) (w : World) (h1 : 100 ≤ n) (hn : n < 1000) (hL : Ld w) :
    Calls Tryz.prog 115 #[.int .u64 (n : Int), .int .i64 10] w fun e w' => e = .returned (.string (Bstr (digs 10 n 3))) ∧ Below w.heap.size w w' := by
  have hal : Tryz.prog.arrayLen 209 = 24 := by kernel_rfl
  have hsl : ∀ W, (Instr.sliceAt 209 (.pointer (some ⟨w.heap.size, 0, none⟩)) none (some (.int .i64 3)) none).run Tryz.prog W = .ok (.slice (some ⟨w.heap.size, 0, none⟩) 3 24) W := fun W => by
    rw [run_sliceAt_array_h W 209 ⟨w.heap.size, 0, none⟩ (by simp [Program.arrayLen, Program.elem, Tryz.underlying209]) .i64 3 (by omega) (by rw [hal]; omega), hal]
    go_simp
  have hb0 : Below w.heap.size w (w.alloc (.cells Lib.zeros24 209)) := (Below.refl _ _).alloc (Nat.le_refl _) _
  have hND := fun (u : World) (hu : Ld u) => Any.internal_strconv_numDigits Tryz.laysM284 n (by omega) (by omega) u hu.p10
  rw [nDigits3 n h1 hn] at hND
  have hF := Any.internal_strconv_formatBase10 Tryz.lays285 w.heap.size 0 24 n (Array.replicate 3 0) (w.alloc (.cells Lib.zeros24 209)) (holds_three w _) (by simpa using hn) (by omega) (by simp)
  rw [Array.size_replicate] at hF
  have HL := Lib.hid (hL.below hb0)
  have HB0 := Lib.hid hb0
  clear hal hL hb0
  go_enter Tryz.func115, Tryz.ntmps115
  go_wp2_with fail
  refine (hND _ HL.out).mono ?_
  rintro e w1 ⟨rfl, rfl⟩
  go_wp2_with fail
  refine hF.mono ?_
  rintro e w1 ⟨rfl, k, v', dk, hw1, hI⟩
  have HW : Hid (Below w.heap.size w w1) := Lib.hid (by
    rw [hw1]
    exact below_drewN (below_putRow HB0.out (Nat.le_refl _) _ _) _)
  have HR : Hid (Rd w1 (some ⟨w.heap.size, 0, none⟩) (BV (digs 10 n 3))) := Lib.hid (Rd.of_cells fun j x hx => by
    rw [Addr.add_lit, hw1, World.cell?_drewN, ← fmt3 hI] at *
    rw [BV_getElem?, Array.getElem?_toList] at hx
    have hj : j < dk.size := by
      rcases Nat.lt_or_ge j dk.size with h | h
      · exact h
      · rw [Array.getElem?_eq_none h] at hx
        cases hx
    rw [Array.getElem?_eq_getElem hj] at hx
    rw [cell?_putRow' _ (holds_three w _) (by rw [hI.size]; simp) j hj, getElem!_pos dk j hj]
    simpa using hx)
  clear hw1 hF hND
  go_wp2_with fail
  rw [show (3 : Nat) = (digs 10 n 3).length from rfl, run_string (P := Tryz.prog) w1 byteT strT _ 24 (digs 10 n 3) HR.out]
  go_wp2_with fail
  go_ret
  exact ⟨rfl, HW.out⟩

theorem fmt10_any (n : Nat) (w : World) (hn : n < 1000) (hL : Ld w) :
    Calls Tryz.prog 88 #[.int .u64 (n : Int), .int .i64 10] w fun e w' => ∃ k, e = .returned (.string (Bstr (digs 10 n k))) ∧ 1 ≤ k ∧ k ≤ 3 ∧ n < 10 ^ k ∧ Below w.heap.size w w' := by
  by_cases h : n < 100
  · go_enter Tryz.func88, Tryz.ntmps88
    go_wp2_with first | (go_at_call 115; go_in) | fail
    refine (mtsmall_any n _ h).mono ?_
    rintro e w1 ⟨k, rfl, h1, h2, h3, rfl⟩
    go_wp2_with fail
    go_ret
    exact ⟨k, rfl, h1, h2, h3, Below.refl _ _⟩
  · go_enter Tryz.func88, Tryz.ntmps88
    go_wp2_with fail
    refine (fmt10big_any n _ (by omega) hn hL).mono ?_
    rintro e w1 ⟨rfl, hb⟩
    go_wp2_with fail
    go_ret
    exact ⟨3, rfl, by omega, by omega, by omega, hb⟩

theorem mdig_any (b m n : Nat) (w : World) (hb0 : 0 < b) (hm : m ≤ 16)
    (hC : Calls Tryz.prog 88 #[.int .u64 (n : Int), .int .i64 (b : Int)] w fun e w' => ∃ k, e = .returned (.string (Bstr (digs b n k))) ∧ 1 ≤ k ∧ k ≤ m ∧ n < b ^ k ∧ Below w.heap.size w w') :
    Calls Tryz.prog 56 #[.int .u64 (n : Int), .int .i64 (b : Int), .int .i64 (m : Int)] w fun e w' => e = .returned (.string (Bstr (digs b n m))) ∧ Below w.heap.size w w' := by
  go_enter Tryz.func56, Tryz.ntmps56
  go_wp2_with fail
  refine hC.mono ?_
  rintro e w1 ⟨k, rfl, h1, h2, h3, hb1⟩
  have hlen : (Bstr (digs b n k)).size = k := by rw [Bstr_size, digs_length]
  have hmk : (m : Int) - k = ((m - k : Nat) : Int) := by omega
  have hadd := addStr (List.replicate (m - k) 48) (digs b n k) (by simp [digs_length]; omega)
  have hpad := digs_pad b hb0 k (m - k) n h3
  rw [show m - k + k = m by omega] at hpad
  rw [← hpad] at hadd
  clear hpad h3 hC
  go_wp2_with fail
  refine (mrep_any (m - k) _ (by omega)).mono ?_
  rintro e w2 ⟨rfl, hb2⟩
  go_wp2_with fail
  go_ret
  exact ⟨rfl, hb1.trans (hb2.mono hb1.size)⟩

theorem dig16_any (n : Nat) (w : World) (hn : n < 18446744073709551616) (hL : Ld w) :
    Calls Tryz.prog 56 #[.int .u64 (n : Int), .int .i64 16, .int .i64 16] w fun e w' => e = .returned (.string (Bstr (digs 16 n 16))) ∧ Below w.heap.size w w' :=
  mdig_any 16 16 n w (by omega) (by omega) (fmt16_any n w hn hL)
theorem dig10_any (n : Nat) (w : World) (hn : n < 1000) (hL : Ld w) :
    Calls Tryz.prog 56 #[.int .u64 (n : Int), .int .i64 10, .int .i64 3] w fun e w' => e = .returned (.string (Bstr (digs 10 n 3))) ∧ Below w.heap.size w w' :=
  mdig_any 10 3 n w (by omega) (by omega) (fmt10_any n w hn hL)

def dval (c : UInt8) : Nat := if 97 ≤ c.toNat ∧ c.toNat ≤ 102 then c.toNat - 87 else c.toNat % 16
theorem dval_dchar (d : Nat) (h : d < 16) : dval (dchar d) = d := by
  have : ∀ k : Fin 16, dval (dchar k.val) = k.val := by decide
  exact this ⟨d, h⟩
def valD (b : Nat) (l : List UInt8) : Nat := l.foldl (fun a c => b * a + dval c) 0
theorem valD_snoc (b : Nat) (l : List UInt8) (c : UInt8) : valD b (l ++ [c]) = b * valD b l + dval c := by simp [valD]
theorem valD_digs (b : Nat) (hb : b ≤ 16) (hb0 : 0 < b) : ∀ (k n : Nat), valD b (digs b n k) = n % b ^ k
  | 0, n => by simp [digs, valD, Nat.mod_one]
  | k + 1, n => by
    rw [digs, valD_snoc, valD_digs b hb hb0 k, dval_dchar _ (Nat.lt_of_lt_of_le (Nat.mod_lt _ hb0) hb), Nat.pow_succ', Nat.mod_mul]
    omega
theorem digs_inj (b k : Nat) (hb : b ≤ 16) (hb0 : 0 < b) {m n : Nat} (hm : m < b ^ k) (hn : n < b ^ k) (h : digs b m k = digs b n k) : m = n := by
  have := congrArg (valD b) h
  rw [valD_digs b hb hb0, valD_digs b hb hb0, Nat.mod_eq_of_lt hm, Nat.mod_eq_of_lt hn] at this
  exact this
def pgN (page : Int) : Nat := (max page 0 % 1000).toNat
theorem pgN_lt (page : Int) : pgN page < 1000 := by unfold pgN; omega
theorem pgN_nat (n : Nat) (h : n < 1000) : pgN (n : Int) = n := by unfold pgN; omega
def nmHead (id : Nat) : List UInt8 := [98, 47] ++ digs 16 id 16 ++ [47]
theorem nmHead_length (id : Nat) : (nmHead id).length = 19 := by simp [nmHead, digs_length]
def sortW (what : List UInt8) : Prop := what = [109] ∨ what = [105] ∨ what = [102] ∨ what = [120]
instance (what : List UInt8) : Decidable (sortW what) := by unfold sortW; infer_instance
def nmOf (id : Nat) (what : List UInt8) (page : Int) : List UInt8 :=
  if sortW what then nmHead id ++ what else if what = [112] then nmHead id ++ [112] ++ digs 10 (pgN page) 3 else []
theorem sortW_len {what : List UInt8} (h : sortW what) : what.length = 1 := by
  rcases h with rfl | rfl | rfl | rfl <;> rfl
theorem sortW_p : ¬ sortW [112] := by decide
theorem nmOf_sort {id : Nat} {what : List UInt8} {page : Int} (h : sortW what) : nmOf id what page = nmHead id ++ what := if_pos h
theorem nmOf_p (id : Nat) (page : Int) : nmOf id [112] page = nmHead id ++ [112] ++ digs 10 (pgN page) 3 := by rw [nmOf, if_neg sortW_p, if_pos rfl]
theorem nmOf_none {id : Nat} {what : List UInt8} {page : Int} (h : ¬ sortW what) (hp : what ≠ [112]) : nmOf id what page = [] := by rw [nmOf, if_neg h, if_neg hp]

structure NamedAs (s : List UInt8) (id : Nat) (what : List UInt8) (n : Nat) : Prop where
  idlt : id < 18446744073709551616
  nlt : n < 1000
  kind : what = [112] ∨ (sortW what ∧ n = 0)
  eq : s = nmOf id what n
theorem NamedAs.parts {s : List UInt8} {id : Nat} {what : List UInt8} {n : Nat} (h : NamedAs s id what n) :
    (s.drop 2).take 16 = digs 16 id 16 ∧ (s.drop 19).take 1 = what ∧ (what = [112] → s.drop 20 = digs 10 n 3 ∧ s.length = 23) ∧ (sortW what → s.length = 20) := by
  have hl := digs_length 16 id 16
  have hk := digs_length 10 n 3
  rcases h.kind with rfl | ⟨hw, rfl⟩
  · have e := h.eq
    rw [nmOf_p, pgN_nat n h.nlt, nmHead] at e
    subst e
    refine ⟨?_, ?_, fun _ => ⟨?_, ?_⟩, fun hs => absurd hs sortW_p⟩
    · exact cutp (a := [98, 47]) (b := digs 16 id 16) (c := [47] ++ ([112] ++ digs 10 n 3)) (by simp) rfl hl
    · exact cutp (a := [98, 47] ++ digs 16 id 16 ++ [47]) (b := [112]) (c := digs 10 n 3) (by simp) (by simp [hl]) rfl
    · rw [List.drop_append_of_le_length (by simp [hl]), List.drop_eq_nil_of_le (by simp [hl])]
      rfl
    · simp [hl, hk]
  · have e := h.eq
    rw [nmOf_sort hw, nmHead] at e
    subst e
    have h1 := sortW_len hw
    refine ⟨?_, ?_, fun hp => absurd (hp ▸ hw) sortW_p, fun _ => by simp [hl, h1]⟩
    · exact cutp (a := [98, 47]) (b := digs 16 id 16) (c := [47] ++ what) (by simp) rfl hl
    · exact cutp (a := [98, 47] ++ digs 16 id 16 ++ [47]) (b := what) (c := []) (by simp) (by simp [hl]) h1
theorem NamedAs.one {s : List UInt8} {id id' : Nat} {what what' : List UInt8} {n n' : Nat} (h : NamedAs s id what n) (h' : NamedAs s id' what' n') : id = id' ∧ what = what' ∧ n = n' := by
  obtain ⟨a1, a2, a3, a4⟩ := h.parts
  obtain ⟨b1, b2, b3, b4⟩ := h'.parts
  have e1 : id = id' := digs_inj 16 16 (by omega) (by omega) h.idlt h'.idlt (by rw [← a1, ← b1])
  have e2 : what = what' := by rw [← a2, ← b2]
  refine ⟨e1, e2, ?_⟩
  subst e2
  rcases h.kind with hp | ⟨hw, rfl⟩
  · have := (a3 hp).1
    rw [(b3 hp).1] at this
    exact (digs_inj 10 3 (by omega) (by omega) h'.nlt h.nlt this).symm
  · rcases h'.kind with hp | ⟨_, rfl⟩
    · exact absurd (hp ▸ hw) sortW_p
    · rfl
def ParseP (s : List UInt8) (id : Nat) (what : List UInt8) (n : Int) (is : Bool) : Prop :=
  (is = true ∧ ∃ k : Nat, n = (k : Int) ∧ NamedAs s id what k) ∨ (is = false ∧ id = 0 ∧ what = [] ∧ n = 0 ∧ ∀ i w k, ¬ NamedAs s i w k)
theorem ParseP.one {s : List UInt8} {id id' : Nat} {what what' : List UInt8} {n n' : Int} {is is' : Bool} (h : ParseP s id what n is) (h' : ParseP s id' what' n' is') : id = id' ∧ what = what' ∧ n = n' ∧ is = is' := by
  rcases h with ⟨rfl, k, rfl, h⟩ | ⟨rfl, rfl, rfl, rfl, h⟩
  · rcases h' with ⟨rfl, k', rfl, h'⟩ | ⟨_, _, _, _, h'⟩
    · obtain ⟨e1, e2, e3⟩ := h.one h'
      exact ⟨e1, e2, by rw [e3], rfl⟩
    · exact absurd h (h' _ _ _)
  · rcases h' with ⟨rfl, k', rfl, h'⟩ | ⟨rfl, rfl, rfl, rfl, _⟩
    · exact absurd h' (h _ _ _)
    · exact ⟨rfl, rfl, rfl, rfl⟩


theorem BSlist (s : List UInt8) : (Bstr s).toList = s := Bstr_toList s
theorem addStr' (l m : List UInt8) (k : List UInt8) (e : l ++ m = k) (h : k.length ≤ 140737488355328) (u : World) : (Op.stringOp .add (Bstr l) (Bstr m)).run Tryz.prog u = .ok (.string (Bstr k)) u := by
  subst e
  exact addStr l m (by simpa using h) u

theorem wrapU' (n : Nat) (h : n < 18446744073709551616) : IntKind.u64.wrap (n : Int) = (n : Int) := by rw [IntKind.wrap_u64]; omega
set_option maxHeartbeats 800000 in
theorem mname_m (id : Nat) (page : Int) (w : World) (hi : id < 18446744073709551616) (hL : Ld w) :
    Calls Tryz.prog 35 #[.int .u64 (id : Int), .string ⟨#[109]⟩, .int .i64 page] w fun e w' => e = .returned (.string (Bstr (nmHead id ++ [109]))) ∧ Below w.heap.size w w' := by
  have a1 : ∀ u, (Op.stringOp .add ⟨#[98, 47]⟩ (Bstr (digs 16 id 16))).run Tryz.prog u = .ok (.string (Bstr ([98, 47] ++ digs 16 id 16))) u := addStr' [98, 47] (digs 16 id 16) ([98, 47] ++ digs 16 id 16) rfl (by simp [digs_length])
  have a2 : ∀ u, (Op.stringOp .add (Bstr ([98, 47] ++ digs 16 id 16)) ⟨#[47]⟩).run Tryz.prog u = .ok (.string (Bstr (nmHead id))) u := addStr' ([98, 47] ++ digs 16 id 16) [47] (nmHead id) rfl (by rw [nmHead_length]; omega)
  have a3 : ∀ u, (Op.stringOp .add (Bstr (nmHead id)) ⟨#[109]⟩).run Tryz.prog u = .ok (.string (Bstr (nmHead id ++ [109]))) u := addStr' (nmHead id) [109] (nmHead id ++ [109]) rfl (by simp [nmHead_length])
  have hC := dig16_any id w hi hL
  generalize nmHead id ++ [109] = k3 at *
  generalize nmHead id = k2 at *
  generalize [98, 47] ++ digs 16 id 16 = k1 at *
  generalize digs 16 id 16 = k0 at *
  clear hi hL
  go_enter Tryz.func35, Tryz.ntmps35
  go_wp2_with fail
  refine hC.mono ?_
  rintro e w1 ⟨rfl, hb1⟩
  go_wp2_with fail
  go_ret
  exact ⟨rfl, hb1⟩
set_option maxHeartbeats 800000 in
theorem mname_i (id : Nat) (page : Int) (w : World) (hi : id < 18446744073709551616) (hL : Ld w) :
    Calls Tryz.prog 35 #[.int .u64 (id : Int), .string ⟨#[105]⟩, .int .i64 page] w fun e w' => e = .returned (.string (Bstr (nmHead id ++ [105]))) ∧ Below w.heap.size w w' := by
  have a1 : ∀ u, (Op.stringOp .add ⟨#[98, 47]⟩ (Bstr (digs 16 id 16))).run Tryz.prog u = .ok (.string (Bstr ([98, 47] ++ digs 16 id 16))) u := addStr' [98, 47] (digs 16 id 16) ([98, 47] ++ digs 16 id 16) rfl (by simp [digs_length])
  have a2 : ∀ u, (Op.stringOp .add (Bstr ([98, 47] ++ digs 16 id 16)) ⟨#[47]⟩).run Tryz.prog u = .ok (.string (Bstr (nmHead id))) u := addStr' ([98, 47] ++ digs 16 id 16) [47] (nmHead id) rfl (by rw [nmHead_length]; omega)
  have a3 : ∀ u, (Op.stringOp .add (Bstr (nmHead id)) ⟨#[105]⟩).run Tryz.prog u = .ok (.string (Bstr (nmHead id ++ [105]))) u := addStr' (nmHead id) [105] (nmHead id ++ [105]) rfl (by simp [nmHead_length])
  have hC := dig16_any id w hi hL
  generalize nmHead id ++ [105] = k3 at *
  generalize nmHead id = k2 at *
  generalize [98, 47] ++ digs 16 id 16 = k1 at *
  generalize digs 16 id 16 = k0 at *
  clear hi hL
  go_enter Tryz.func35, Tryz.ntmps35
  go_wp2_with fail
  refine hC.mono ?_
  rintro e w1 ⟨rfl, hb1⟩
  go_wp2_with fail
  go_ret
  exact ⟨rfl, hb1⟩
set_option maxHeartbeats 800000 in
theorem mname_f (id : Nat) (page : Int) (w : World) (hi : id < 18446744073709551616) (hL : Ld w) :
    Calls Tryz.prog 35 #[.int .u64 (id : Int), .string ⟨#[102]⟩, .int .i64 page] w fun e w' => e = .returned (.string (Bstr (nmHead id ++ [102]))) ∧ Below w.heap.size w w' := by
  have a1 : ∀ u, (Op.stringOp .add ⟨#[98, 47]⟩ (Bstr (digs 16 id 16))).run Tryz.prog u = .ok (.string (Bstr ([98, 47] ++ digs 16 id 16))) u := addStr' [98, 47] (digs 16 id 16) ([98, 47] ++ digs 16 id 16) rfl (by simp [digs_length])
  have a2 : ∀ u, (Op.stringOp .add (Bstr ([98, 47] ++ digs 16 id 16)) ⟨#[47]⟩).run Tryz.prog u = .ok (.string (Bstr (nmHead id))) u := addStr' ([98, 47] ++ digs 16 id 16) [47] (nmHead id) rfl (by rw [nmHead_length]; omega)
  have a3 : ∀ u, (Op.stringOp .add (Bstr (nmHead id)) ⟨#[102]⟩).run Tryz.prog u = .ok (.string (Bstr (nmHead id ++ [102]))) u := addStr' (nmHead id) [102] (nmHead id ++ [102]) rfl (by simp [nmHead_length])
  have hC := dig16_any id w hi hL
  generalize nmHead id ++ [102] = k3 at *
  generalize nmHead id = k2 at *
  generalize [98, 47] ++ digs 16 id 16 = k1 at *
  generalize digs 16 id 16 = k0 at *
  clear hi hL
  go_enter Tryz.func35, Tryz.ntmps35
  go_wp2_with fail
  refine hC.mono ?_
  rintro e w1 ⟨rfl, hb1⟩
  go_wp2_with fail
  go_ret
  exact ⟨rfl, hb1⟩
set_option maxHeartbeats 800000 in
theorem mname_x (id : Nat) (page : Int) (w : World) (hi : id < 18446744073709551616) (hL : Ld w) :
    Calls Tryz.prog 35 #[.int .u64 (id : Int), .string ⟨#[120]⟩, .int .i64 page] w fun e w' => e = .returned (.string (Bstr (nmHead id ++ [120]))) ∧ Below w.heap.size w w' := by
  have a1 : ∀ u, (Op.stringOp .add ⟨#[98, 47]⟩ (Bstr (digs 16 id 16))).run Tryz.prog u = .ok (.string (Bstr ([98, 47] ++ digs 16 id 16))) u := addStr' [98, 47] (digs 16 id 16) ([98, 47] ++ digs 16 id 16) rfl (by simp [digs_length])
  have a2 : ∀ u, (Op.stringOp .add (Bstr ([98, 47] ++ digs 16 id 16)) ⟨#[47]⟩).run Tryz.prog u = .ok (.string (Bstr (nmHead id))) u := addStr' ([98, 47] ++ digs 16 id 16) [47] (nmHead id) rfl (by rw [nmHead_length]; omega)
  have a3 : ∀ u, (Op.stringOp .add (Bstr (nmHead id)) ⟨#[120]⟩).run Tryz.prog u = .ok (.string (Bstr (nmHead id ++ [120]))) u := addStr' (nmHead id) [120] (nmHead id ++ [120]) rfl (by simp [nmHead_length])
  have hC := dig16_any id w hi hL
  generalize nmHead id ++ [120] = k3 at *
  generalize nmHead id = k2 at *
  generalize [98, 47] ++ digs 16 id 16 = k1 at *
  generalize digs 16 id 16 = k0 at *
  clear hi hL
  go_enter Tryz.func35, Tryz.ntmps35
  go_wp2_with fail
  refine hC.mono ?_
  rintro e w1 ⟨rfl, hb1⟩
  go_wp2_with fail
  go_ret
  exact ⟨rfl, hb1⟩

set_option maxHeartbeats 800000 in
theorem mname_p (id : Nat) (page : Int) (w : World) (hi : id < 18446744073709551616) (hL : Ld w) :
    Calls Tryz.prog 35 #[.int .u64 (id : Int), .string ⟨#[112]⟩, .int .i64 page] w fun e w' => e = .returned (.string (Bstr (nmHead id ++ [112] ++ digs 10 (pgN page) 3))) ∧ Below w.heap.size w w' := by
  have a1 : ∀ u, (Op.stringOp .add ⟨#[98, 47]⟩ (Bstr (digs 16 id 16))).run Tryz.prog u = .ok (.string (Bstr ([98, 47] ++ digs 16 id 16))) u := addStr' [98, 47] (digs 16 id 16) ([98, 47] ++ digs 16 id 16) rfl (by simp [digs_length])
  have a2 : ∀ u, (Op.stringOp .add (Bstr ([98, 47] ++ digs 16 id 16)) ⟨#[47]⟩).run Tryz.prog u = .ok (.string (Bstr (nmHead id))) u := addStr' ([98, 47] ++ digs 16 id 16) [47] (nmHead id) rfl (by rw [nmHead_length]; omega)
  have a3 : ∀ u, (Op.stringOp .add (Bstr (nmHead id)) ⟨#[112]⟩).run Tryz.prog u = .ok (.string (Bstr (nmHead id ++ [112]))) u := addStr' (nmHead id) [112] (nmHead id ++ [112]) rfl (by simp [nmHead_length])
  have a4 : ∀ u, (Op.stringOp .add (Bstr (nmHead id ++ [112])) (Bstr (digs 10 (pgN page) 3))).run Tryz.prog u = .ok (.string (Bstr (nmHead id ++ [112] ++ digs 10 (pgN page) 3))) u := addStr' (nmHead id ++ [112]) (digs 10 (pgN page) 3) _ rfl (by simp [nmHead_length, digs_length])
  obtain ⟨t, ht⟩ : ∃ t : Nat, max page 0 = (t : Int) := ⟨(max page 0).toNat, by omega⟩
  have hn : (t : Int) % 1000 = ((pgN page : Nat) : Int) := by unfold pgN; omega
  have hlt := pgN_lt page
  have hwr := wrapU' (pgN page) (by omega)
  have hC := dig16_any id w hi hL
  have hD := fun u hu => dig10_any (pgN page) u hlt hu
  have HL := Lib.hid hL
  generalize nmHead id ++ [112] ++ digs 10 (pgN page) 3 = k4 at *
  generalize nmHead id ++ [112] = k3 at *
  generalize nmHead id = k2 at *
  generalize [98, 47] ++ digs 16 id 16 = k1 at *
  generalize digs 16 id 16 = k0 at *
  generalize digs 10 (pgN page) 3 = kd at *
  generalize pgN page = n at *
  clear hi hL
  go_enter Tryz.func35, Tryz.ntmps35
  go_wp2_with fail
  refine hC.mono ?_
  rintro e w1 ⟨rfl, hb1⟩
  go_wp2_with fail
  refine (hD _ (HL.out.below hb1)).mono ?_
  rintro e w2 ⟨rfl, hb2⟩
  go_wp2_with fail
  go_ret
  exact ⟨rfl, hb1.trans (hb2.mono hb1.size)⟩

theorem mname_none (id : Nat) (what : List UInt8) (page : Int) (w : World) (hi : id < 18446744073709551616) (hL : Ld w) (h1 : ¬ sortW what) (h2 : what ≠ [112]) :
    Calls Tryz.prog 35 #[.int .u64 (id : Int), .string (Bstr what), .int .i64 page] w fun e w' => e = .returned (.string ⟨#[]⟩) ∧ Below w.heap.size w w' := by
  have a1 : ∀ u, (Op.stringOp .add ⟨#[98, 47]⟩ (Bstr (digs 16 id 16))).run Tryz.prog u = .ok (.string (Bstr ([98, 47] ++ digs 16 id 16))) u := addStr' [98, 47] (digs 16 id 16) ([98, 47] ++ digs 16 id 16) rfl (by simp [digs_length])
  have a2 : ∀ u, (Op.stringOp .add (Bstr ([98, 47] ++ digs 16 id 16)) ⟨#[47]⟩).run Tryz.prog u = .ok (.string (Bstr (nmHead id))) u := addStr' ([98, 47] ++ digs 16 id 16) [47] (nmHead id) rfl (by rw [nmHead_length]; omega)
  have n1 : ((Bstr what).toList == [109]) = false := by rw [BSlist, beq_eq_false_iff_ne]; exact fun e => h1 (.inl e)
  have n2 : ((Bstr what).toList == [105]) = false := by rw [BSlist, beq_eq_false_iff_ne]; exact fun e => h1 (.inr (.inl e))
  have n3 : ((Bstr what).toList == [102]) = false := by rw [BSlist, beq_eq_false_iff_ne]; exact fun e => h1 (.inr (.inr (.inl e)))
  have n4 : ((Bstr what).toList == [120]) = false := by rw [BSlist, beq_eq_false_iff_ne]; exact fun e => h1 (.inr (.inr (.inr e)))
  have n5 : ((Bstr what).toList == [112]) = false := by rw [BSlist, beq_eq_false_iff_ne]; exact h2
  have hC := dig16_any id w hi hL
  generalize nmHead id = k2 at *
  generalize [98, 47] ++ digs 16 id 16 = k1 at *
  generalize digs 16 id 16 = k0 at *
  clear hi hL h1 h2
  go_enter Tryz.func35, Tryz.ntmps35
  go_wp2_with fail
  refine hC.mono ?_
  rintro e w1 ⟨rfl, hb1⟩
  go_wp2_with fail
  go_ret
  exact ⟨rfl, hb1⟩

theorem mname_any (id : Nat) (what : List UInt8) (page : Int) (w : World) (hi : id < 18446744073709551616) (hL : Ld w) :
    Calls Tryz.prog 35 #[.int .u64 (id : Int), .string (Bstr what), .int .i64 page] w fun e w' => e = .returned (.string (Bstr (nmOf id what page))) ∧ Below w.heap.size w w' := by
  by_cases hs : sortW what
  · rw [nmOf_sort hs]
    rcases hs with rfl | rfl | rfl | rfl
    · exact mname_m id page w hi hL
    · exact mname_i id page w hi hL
    · exact mname_f id page w hi hL
    · exact mname_x id page w hi hL
  · by_cases hp : what = [112]
    · subst hp
      rw [nmOf_p]
      exact mname_p id page w hi hL
    · rw [nmOf_none hs hp]
      exact mname_none id what page w hi hL hs hp

def dg16 : ByteArray := ⟨#[48, 49, 50, 51, 52, 53, 54, 55, 56, 57, 97, 98, 99, 100, 101, 102]⟩
theorem dg16_cut (d : Nat) (h : d < 16) : dg16.extract d (d + 1) = Bstr [dchar d] := by
  have : ∀ k : Fin 16, dg16.extract k.val (k.val + 1) = Bstr [dchar k.val] := by decide
  exact this ⟨d, h⟩
theorem i64_nat (k : Nat) (h : k < 9223372036854775808) : IntKind.i64.wrap (k : Int) = (k : Int) := IntWalk.i64_in _ (by omega)
theorem Digs_step (b k n q d : Nat) (w : World) (hb : b = 16 ∨ b = 10) (hk : k + 1 ≤ 16) (hq : (n : Int) / (b : Int) = (q : Int)) (hd : (n : Int) % (b : Int) = (d : Int)) (hd16 : d < 16) (hn : n < 18446744073709551616)
    (hC : ∀ u, Calls Tryz.prog 79 #[.int .u64 (q : Int), .int .u64 (b : Int), .int .i64 (k : Int)] u fun e w' => e = .returned (.string (Bstr (digs b q k))) ∧ Below u.heap.size u w') :
    Calls Tryz.prog 79 #[.int .u64 (n : Int), .int .u64 (b : Int), .int .i64 ((k + 1 : Nat) : Int)] w fun e w' => e = .returned (.string (Bstr (digs b q k ++ [dchar d]))) ∧ Below w.heap.size w w' := by
  have HC := Lib.hid hC
  have hz : (((k + 1 : Nat) : Int) == 0) = false := beq_eq_false_iff_ne.2 (by omega)
  have hdw : IntKind.u64.wrap ((d : Int) + 1) = (d : Int) + 1 := by rw [IntKind.wrap_u64]; omega
  have hkw : IntKind.i64.wrap (k : Int) = (k : Int) := i64_nat k (by omega)
  have hd1 : (d : Int) + 1 ≤ 16 := by omega
  have hd2 : (d : Int) ≤ (d : Int) + 1 := by omega
  have hd3 : ((d : Int) + 1).toNat = d + 1 := by omega
  have hex : ({ data := #[48, 49, 50, 51, 52, 53, 54, 55, 56, 57, 97, 98, 99, 100, 101, 102] } : ByteArray).extract d (d + 1) = Bstr [dchar d] := dg16_cut d hd16
  have hadd := addStr' (digs b q k) [dchar d] _ rfl (by simp [digs_length]; omega)
  generalize digs b q k ++ [dchar d] = r at *
  generalize [dchar d] = c at *
  have hbz : ((b : Int) == 0) = false := beq_eq_false_iff_ne.2 (by rcases hb with rfl | rfl <;> omega)
  have hb0 : ¬ b = 0 := by rcases hb with rfl | rfl <;> omega
  have hqw := wrapU' q (by
    have : (n : Int) / b ≤ n := Int.ediv_le_self _ (by omega)
    omega)
  clear hC hb
  go_enter Tryz.func79, Tryz.ntmps79
  go_wp2_with fail
  refine wp_region_mix [(0, false), (1, false), (2, false), (3, false), (4, false), (5, false), (7, false), (8, false), (9, false), (10, false), (11, false), (6, true), (12, true), (13, true)] (fun u => Below w.heap.size w u) (by kernel_rfl) (by kernel_rfl) (by kernel_rfl) rfl (Below.refl _ _).drew ?_
  repeat
    (refine mix_read (o := ⟨_, _, _, _, _, _⟩) (v := ?_) rfl (by rfl) (fun w' hS => ?_) ?_
     rotate_left
     go_simp
     with_reducible rfl
     try simp only [Act.put, List.setIfInBounds_toArray, List.set_cons_zero, List.set_cons_succ])
  refine mix_step (o := ⟨_, _, _, _, _, _⟩) rfl (fun K hK => ?_)
  go_simp
  refine (HC.out _).mono ?_
  rintro e w2 ⟨rfl, hb2⟩
  have hb2' : Below w.heap.size w w2 := (Below.refl _ w).drew.trans hb2
  refine hK.out _ _ hb2' ?_
  clear hK K
  try simp only [Act.put, List.setIfInBounds_toArray, List.set_cons_zero, List.set_cons_succ]
  repeat
    (refine mix_step (o := ⟨_, _, _, _, _, _⟩) rfl (fun K hK => ?_)
     go_simp
     refine hK.out _ _ hb2' ?_
     clear hK K
     try simp only [Act.put, List.setIfInBounds_toArray, List.set_cons_zero, List.set_cons_succ])
  refine mix_done ?_
  go_wp2_with fail
  go_ret
  exact ⟨rfl, hb2'⟩
theorem Digs_any (b : Nat) (hb : b = 16 ∨ b = 10) (k : Nat) : ∀ (n : Nat) (w : World), k ≤ 16 → n < 18446744073709551616 →
    Calls Tryz.prog 79 #[.int .u64 (n : Int), .int .u64 (b : Int), .int .i64 (k : Int)] w fun e w' => e = .returned (.string (Bstr (digs b n k))) ∧ Below w.heap.size w w' := by
  induction k with
  | zero =>
    intro n w _ _
    go_enter Tryz.func79, Tryz.ntmps79
    go_wp2_with fail
    go_ret
    exact ⟨rfl, Below.refl _ _⟩
  | succ k ih =>
    intro n w hk hn
    have hd16 : n % b < 16 := by rcases hb with rfl | rfl <;> omega
    have hq : n / b ≤ n := Nat.div_le_self _ _
    exact Digs_step b k n (n / b) (n % b) w hb hk (by simp) (by simp) hd16 hn (fun u => ih (n / b) u (by omega) (by omega))

set_option maxHeartbeats 800000 in
theorem Name_m (id : Nat) (page : Int) (w : World) (hi : id < 18446744073709551616) :
    Calls Tryz.prog 50 #[.int .u64 (id : Int), .string ⟨#[109]⟩, .int .i64 page] w fun e w' => e = .returned (.string (Bstr (nmHead id ++ [109]))) ∧ Below w.heap.size w w' := by
  have a1 : ∀ u, (Op.stringOp .add ⟨#[98, 47]⟩ (Bstr (digs 16 id 16))).run Tryz.prog u = .ok (.string (Bstr ([98, 47] ++ digs 16 id 16))) u := addStr' [98, 47] (digs 16 id 16) ([98, 47] ++ digs 16 id 16) rfl (by simp [digs_length])
  have a2 : ∀ u, (Op.stringOp .add (Bstr ([98, 47] ++ digs 16 id 16)) ⟨#[47]⟩).run Tryz.prog u = .ok (.string (Bstr (nmHead id))) u := addStr' ([98, 47] ++ digs 16 id 16) [47] (nmHead id) rfl (by rw [nmHead_length]; omega)
  have a3 : ∀ u, (Op.stringOp .add (Bstr (nmHead id)) ⟨#[109]⟩).run Tryz.prog u = .ok (.string (Bstr (nmHead id ++ [109]))) u := addStr' (nmHead id) [109] (nmHead id ++ [109]) rfl (by simp [nmHead_length])
  have hC := Digs_any 16 (.inl rfl) 16 id w (by omega) hi
  generalize nmHead id ++ [109] = k3 at *
  generalize nmHead id = k2 at *
  generalize [98, 47] ++ digs 16 id 16 = k1 at *
  generalize digs 16 id 16 = k0 at *
  clear hi
  go_enter Tryz.func50, Tryz.ntmps50
  go_wp2_with fail
  refine hC.mono ?_
  rintro e w1 ⟨rfl, hb1⟩
  go_wp2_with fail
  go_ret
  exact ⟨rfl, hb1⟩
set_option maxHeartbeats 800000 in
theorem Name_i (id : Nat) (page : Int) (w : World) (hi : id < 18446744073709551616) :
    Calls Tryz.prog 50 #[.int .u64 (id : Int), .string ⟨#[105]⟩, .int .i64 page] w fun e w' => e = .returned (.string (Bstr (nmHead id ++ [105]))) ∧ Below w.heap.size w w' := by
  have a1 : ∀ u, (Op.stringOp .add ⟨#[98, 47]⟩ (Bstr (digs 16 id 16))).run Tryz.prog u = .ok (.string (Bstr ([98, 47] ++ digs 16 id 16))) u := addStr' [98, 47] (digs 16 id 16) ([98, 47] ++ digs 16 id 16) rfl (by simp [digs_length])
  have a2 : ∀ u, (Op.stringOp .add (Bstr ([98, 47] ++ digs 16 id 16)) ⟨#[47]⟩).run Tryz.prog u = .ok (.string (Bstr (nmHead id))) u := addStr' ([98, 47] ++ digs 16 id 16) [47] (nmHead id) rfl (by rw [nmHead_length]; omega)
  have a3 : ∀ u, (Op.stringOp .add (Bstr (nmHead id)) ⟨#[105]⟩).run Tryz.prog u = .ok (.string (Bstr (nmHead id ++ [105]))) u := addStr' (nmHead id) [105] (nmHead id ++ [105]) rfl (by simp [nmHead_length])
  have hC := Digs_any 16 (.inl rfl) 16 id w (by omega) hi
  generalize nmHead id ++ [105] = k3 at *
  generalize nmHead id = k2 at *
  generalize [98, 47] ++ digs 16 id 16 = k1 at *
  generalize digs 16 id 16 = k0 at *
  clear hi
  go_enter Tryz.func50, Tryz.ntmps50
  go_wp2_with fail
  refine hC.mono ?_
  rintro e w1 ⟨rfl, hb1⟩
  go_wp2_with fail
  go_ret
  exact ⟨rfl, hb1⟩
set_option maxHeartbeats 800000 in
theorem Name_f (id : Nat) (page : Int) (w : World) (hi : id < 18446744073709551616) :
    Calls Tryz.prog 50 #[.int .u64 (id : Int), .string ⟨#[102]⟩, .int .i64 page] w fun e w' => e = .returned (.string (Bstr (nmHead id ++ [102]))) ∧ Below w.heap.size w w' := by
  have a1 : ∀ u, (Op.stringOp .add ⟨#[98, 47]⟩ (Bstr (digs 16 id 16))).run Tryz.prog u = .ok (.string (Bstr ([98, 47] ++ digs 16 id 16))) u := addStr' [98, 47] (digs 16 id 16) ([98, 47] ++ digs 16 id 16) rfl (by simp [digs_length])
  have a2 : ∀ u, (Op.stringOp .add (Bstr ([98, 47] ++ digs 16 id 16)) ⟨#[47]⟩).run Tryz.prog u = .ok (.string (Bstr (nmHead id))) u := addStr' ([98, 47] ++ digs 16 id 16) [47] (nmHead id) rfl (by rw [nmHead_length]; omega)
  have a3 : ∀ u, (Op.stringOp .add (Bstr (nmHead id)) ⟨#[102]⟩).run Tryz.prog u = .ok (.string (Bstr (nmHead id ++ [102]))) u := addStr' (nmHead id) [102] (nmHead id ++ [102]) rfl (by simp [nmHead_length])
  have hC := Digs_any 16 (.inl rfl) 16 id w (by omega) hi
  generalize nmHead id ++ [102] = k3 at *
  generalize nmHead id = k2 at *
  generalize [98, 47] ++ digs 16 id 16 = k1 at *
  generalize digs 16 id 16 = k0 at *
  clear hi
  go_enter Tryz.func50, Tryz.ntmps50
  go_wp2_with fail
  refine hC.mono ?_
  rintro e w1 ⟨rfl, hb1⟩
  go_wp2_with fail
  go_ret
  exact ⟨rfl, hb1⟩
set_option maxHeartbeats 800000 in
theorem Name_x (id : Nat) (page : Int) (w : World) (hi : id < 18446744073709551616) :
    Calls Tryz.prog 50 #[.int .u64 (id : Int), .string ⟨#[120]⟩, .int .i64 page] w fun e w' => e = .returned (.string (Bstr (nmHead id ++ [120]))) ∧ Below w.heap.size w w' := by
  have a1 : ∀ u, (Op.stringOp .add ⟨#[98, 47]⟩ (Bstr (digs 16 id 16))).run Tryz.prog u = .ok (.string (Bstr ([98, 47] ++ digs 16 id 16))) u := addStr' [98, 47] (digs 16 id 16) ([98, 47] ++ digs 16 id 16) rfl (by simp [digs_length])
  have a2 : ∀ u, (Op.stringOp .add (Bstr ([98, 47] ++ digs 16 id 16)) ⟨#[47]⟩).run Tryz.prog u = .ok (.string (Bstr (nmHead id))) u := addStr' ([98, 47] ++ digs 16 id 16) [47] (nmHead id) rfl (by rw [nmHead_length]; omega)
  have a3 : ∀ u, (Op.stringOp .add (Bstr (nmHead id)) ⟨#[120]⟩).run Tryz.prog u = .ok (.string (Bstr (nmHead id ++ [120]))) u := addStr' (nmHead id) [120] (nmHead id ++ [120]) rfl (by simp [nmHead_length])
  have hC := Digs_any 16 (.inl rfl) 16 id w (by omega) hi
  generalize nmHead id ++ [120] = k3 at *
  generalize nmHead id = k2 at *
  generalize [98, 47] ++ digs 16 id 16 = k1 at *
  generalize digs 16 id 16 = k0 at *
  clear hi
  go_enter Tryz.func50, Tryz.ntmps50
  go_wp2_with fail
  refine hC.mono ?_
  rintro e w1 ⟨rfl, hb1⟩
  go_wp2_with fail
  go_ret
  exact ⟨rfl, hb1⟩

set_option maxHeartbeats 800000 in
theorem Name_p (id : Nat) (page : Int) (w : World) (hi : id < 18446744073709551616) (h0 : 0 ≤ page) (h1 : page ≤ 9223372036854775807) :
    Calls Tryz.prog 50 #[.int .u64 (id : Int), .string ⟨#[112]⟩, .int .i64 page] w fun e w' => e = .returned (.string (Bstr (nmHead id ++ [112] ++ digs 10 (pgN page) 3))) ∧ Below w.heap.size w w' := by
  have a1 : ∀ u, (Op.stringOp .add ⟨#[98, 47]⟩ (Bstr (digs 16 id 16))).run Tryz.prog u = .ok (.string (Bstr ([98, 47] ++ digs 16 id 16))) u := addStr' [98, 47] (digs 16 id 16) ([98, 47] ++ digs 16 id 16) rfl (by simp [digs_length])
  have a2 : ∀ u, (Op.stringOp .add (Bstr ([98, 47] ++ digs 16 id 16)) ⟨#[47]⟩).run Tryz.prog u = .ok (.string (Bstr (nmHead id))) u := addStr' ([98, 47] ++ digs 16 id 16) [47] (nmHead id) rfl (by rw [nmHead_length]; omega)
  have a3 : ∀ u, (Op.stringOp .add (Bstr (nmHead id)) ⟨#[112]⟩).run Tryz.prog u = .ok (.string (Bstr (nmHead id ++ [112]))) u := addStr' (nmHead id) [112] (nmHead id ++ [112]) rfl (by simp [nmHead_length])
  have a4 : ∀ u, (Op.stringOp .add (Bstr (nmHead id ++ [112])) (Bstr (digs 10 (pgN page) 3))).run Tryz.prog u = .ok (.string (Bstr (nmHead id ++ [112] ++ digs 10 (pgN page) 3))) u := addStr' (nmHead id ++ [112]) (digs 10 (pgN page) 3) _ rfl (by simp [nmHead_length, digs_length])
  have hn : page % 1000 = ((pgN page : Nat) : Int) := by unfold pgN; omega
  have hlt := pgN_lt page
  have hwr := wrapU' (pgN page) (by omega)
  have hC := Digs_any 16 (.inl rfl) 16 id w (by omega) hi
  have hD := fun u => Digs_any 10 (.inr rfl) 3 (pgN page) u (by omega) (by omega)
  obtain ⟨t, rfl⟩ := nat_of (n := page) h0
  generalize nmHead id ++ [112] ++ digs 10 (pgN (t : Int)) 3 = k4 at *
  generalize nmHead id ++ [112] = k3 at *
  generalize nmHead id = k2 at *
  generalize [98, 47] ++ digs 16 id 16 = k1 at *
  generalize digs 16 id 16 = k0 at *
  generalize digs 10 (pgN (t : Int)) 3 = kd at *
  generalize pgN (t : Int) = n at *
  clear hi h0
  go_enter Tryz.func50, Tryz.ntmps50
  go_wp2_with fail
  refine hC.mono ?_
  rintro e w1 ⟨rfl, hb1⟩
  go_wp2_with fail
  refine (hD _).mono ?_
  rintro e w2 ⟨rfl, hb2⟩
  go_wp2_with fail
  go_ret
  exact ⟨rfl, hb1.trans (hb2.mono hb1.size)⟩

set_option maxHeartbeats 800000 in
theorem Name_neg (id : Nat) (page : Int) (w : World) (hi : id < 18446744073709551616) (h0 : page < 0) :
    Calls Tryz.prog 50 #[.int .u64 (id : Int), .string ⟨#[112]⟩, .int .i64 page] w fun e w' => e = .returned (.string (Bstr (nmHead id ++ [112] ++ digs 10 (pgN page) 3))) ∧ Below w.heap.size w w' := by
  have hp : pgN page = 0 := by unfold pgN; omega
  rw [hp]
  have a1 : ∀ u, (Op.stringOp .add ⟨#[98, 47]⟩ (Bstr (digs 16 id 16))).run Tryz.prog u = .ok (.string (Bstr ([98, 47] ++ digs 16 id 16))) u := addStr' [98, 47] (digs 16 id 16) ([98, 47] ++ digs 16 id 16) rfl (by simp [digs_length])
  have a2 : ∀ u, (Op.stringOp .add (Bstr ([98, 47] ++ digs 16 id 16)) ⟨#[47]⟩).run Tryz.prog u = .ok (.string (Bstr (nmHead id))) u := addStr' ([98, 47] ++ digs 16 id 16) [47] (nmHead id) rfl (by rw [nmHead_length]; omega)
  have a3 : ∀ u, (Op.stringOp .add (Bstr (nmHead id)) ⟨#[112]⟩).run Tryz.prog u = .ok (.string (Bstr (nmHead id ++ [112]))) u := addStr' (nmHead id) [112] (nmHead id ++ [112]) rfl (by simp [nmHead_length])
  have a4 : ∀ u, (Op.stringOp .add (Bstr (nmHead id ++ [112])) (Bstr (digs 10 0 3))).run Tryz.prog u = .ok (.string (Bstr (nmHead id ++ [112] ++ digs 10 0 3))) u := addStr' (nmHead id ++ [112]) (digs 10 0 3) _ rfl (by simp [nmHead_length, digs_length])
  have hC := Digs_any 16 (.inl rfl) 16 id w (by omega) hi
  have hD := fun u => Digs_any 10 (.inr rfl) 3 0 u (by omega) (by omega)
  generalize nmHead id ++ [112] ++ digs 10 0 3 = k4 at *
  generalize nmHead id ++ [112] = k3 at *
  generalize nmHead id = k2 at *
  generalize [98, 47] ++ digs 16 id 16 = k1 at *
  generalize digs 16 id 16 = k0 at *
  generalize digs 10 0 3 = kd at *
  clear hi hp
  go_enter Tryz.func50, Tryz.ntmps50
  go_wp2_with fail
  refine hC.mono ?_
  rintro e w1 ⟨rfl, hb1⟩
  go_wp2_with fail
  refine (hD _).mono ?_
  rintro e w2 ⟨rfl, hb2⟩
  go_wp2_with fail
  go_ret
  exact ⟨rfl, hb1.trans (hb2.mono hb1.size)⟩

theorem Name_none (id : Nat) (what : List UInt8) (page : Int) (w : World) (hi : id < 18446744073709551616) (h1 : ¬ sortW what) (h2 : what ≠ [112]) :
    Calls Tryz.prog 50 #[.int .u64 (id : Int), .string (Bstr what), .int .i64 page] w fun e w' => e = .returned (.string ⟨#[]⟩) ∧ Below w.heap.size w w' := by
  have a1 : ∀ u, (Op.stringOp .add ⟨#[98, 47]⟩ (Bstr (digs 16 id 16))).run Tryz.prog u = .ok (.string (Bstr ([98, 47] ++ digs 16 id 16))) u := addStr' [98, 47] (digs 16 id 16) ([98, 47] ++ digs 16 id 16) rfl (by simp [digs_length])
  have a2 : ∀ u, (Op.stringOp .add (Bstr ([98, 47] ++ digs 16 id 16)) ⟨#[47]⟩).run Tryz.prog u = .ok (.string (Bstr (nmHead id))) u := addStr' ([98, 47] ++ digs 16 id 16) [47] (nmHead id) rfl (by rw [nmHead_length]; omega)
  have n1 : ((Bstr what).toList == [109]) = false := by rw [BSlist, beq_eq_false_iff_ne]; exact fun e => h1 (.inl e)
  have n2 : ((Bstr what).toList == [105]) = false := by rw [BSlist, beq_eq_false_iff_ne]; exact fun e => h1 (.inr (.inl e))
  have n3 : ((Bstr what).toList == [102]) = false := by rw [BSlist, beq_eq_false_iff_ne]; exact fun e => h1 (.inr (.inr (.inl e)))
  have n4 : ((Bstr what).toList == [120]) = false := by rw [BSlist, beq_eq_false_iff_ne]; exact fun e => h1 (.inr (.inr (.inr e)))
  have n5 : ((Bstr what).toList == [112]) = false := by rw [BSlist, beq_eq_false_iff_ne]; exact h2
  have hC := Digs_any 16 (.inl rfl) 16 id w (by omega) hi
  generalize nmHead id = k2 at *
  generalize [98, 47] ++ digs 16 id 16 = k1 at *
  generalize digs 16 id 16 = k0 at *
  clear hi h1 h2
  go_enter Tryz.func50, Tryz.ntmps50
  go_wp2_with fail
  refine hC.mono ?_
  rintro e w1 ⟨rfl, hb1⟩
  go_wp2_with fail
  go_ret
  exact ⟨rfl, hb1⟩

theorem Name_any (id : Nat) (what : List UInt8) (page : Int) (w : World) (hi : id < 18446744073709551616) (hp1 : page ≤ 9223372036854775807) :
    Calls Tryz.prog 50 #[.int .u64 (id : Int), .string (Bstr what), .int .i64 page] w fun e w' => e = .returned (.string (Bstr (nmOf id what page))) ∧ Below w.heap.size w w' := by
  by_cases hs : sortW what
  · rw [nmOf_sort hs]
    rcases hs with rfl | rfl | rfl | rfl
    · exact Name_m id page w hi
    · exact Name_i id page w hi
    · exact Name_f id page w hi
    · exact Name_x id page w hi
  · by_cases hp : what = [112]
    · subst hp
      rw [nmOf_p]
      by_cases h0 : 0 ≤ page
      · exact Name_p id page w hi h0 hp1
      · exact Name_neg id page w hi (by omega)
    · rw [nmOf_none hs hp]
      exact Name_none id what page w hi hs hp

end Go.Proofs.YtfccfnbmmgfgcaaGreatDoor
