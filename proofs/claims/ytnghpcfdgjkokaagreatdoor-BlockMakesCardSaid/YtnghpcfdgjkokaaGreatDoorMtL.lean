/-
  THE LIBRARY's OWN CONTRACTS, laid at this program (in plain words): strconv's numDigits, small, formatBase10, toError, lower, Atoi; strings.Repeat. And what of the library's variables they read (Ld). Conditions: what each says.
  CONTRACTS of strconv.FormatUint at the bases 16 and 10 (there of numbers below 1000) and of the program's digits. Conditions: what each says; of the library's variables: Ld.
-/
import Derived.Shelf.Strconv.Itoa1
import Derived.Shelf.Strconv.Itoa2
import Derived.Shelf.Strconv.ToError
import Derived.Shelf.Strconv.Lower
import Derived.Shelf.Strconv.AtoiAll
import Derived.Shelf.Strings.Repeat
import Derived.Lib.AppendIntMem
import Derived.Test.YtnghpcfdgjkokaaGreatDoorCln
import Derived.Test.YtnghpcfdgjkokaaGreatDoorMtA
import Derived.Deep.DeepCutAuto
namespace Go.Proofs.YtnghpcfdgjkokaaGreatDoor
open Go.Shelf
set_option maxRecDepth 100000

def Tryz.lays283_ren : Go.Shelf.Ren := ⟨fun | 283 => 158 | n => n, fun | 3 => 3 | 9 => 9 | 4 => 4 | n => n, fun | n => n⟩
theorem Tryz.lays283 : Go.Proofs.Lays.n283 Tryz.prog Tryz.lays283_ren := {
  mixed := by kernel_rfl
  f283 := Tryz.func158.trans (congrArg some (by kernel_rfl))
  t3 := Tryz.underlying3
  a3 := Tryz.isAgg3
  z3 := Tryz.sizeOf3
  v3 := Tryz.zeroValue3
  t4 := Tryz.underlying4
  a4 := Tryz.isAgg4
  z4 := Tryz.sizeOf4
  v4 := Tryz.zeroValue4
  t9 := Tryz.underlying9
  a9 := Tryz.isAgg9
  z9 := Tryz.sizeOf9
  v9 := Tryz.zeroValue9 }

def Tryz.laysM284_ren : Go.Shelf.Ren := ⟨fun | 284 => 159 | 129 => 109 | 317 => 166 | 318 => 167 | n => n, fun | 53 => 22 | 3 => 3 | 212 => 229 | 0 => 0 | 4 => 4 | 46 => 137 | 5 => 5 | 9 => 9 | n => n, fun | 17 => 0 | n => n⟩
theorem Tryz.laysM284 : Go.Proofs.LaysM.n284 Tryz.prog Tryz.laysM284_ren := {
  mixed := by kernel_rfl
  f129 := Tryz.func109.trans (congrArg some (by kernel_rfl))
  f284 := Tryz.func159.trans (congrArg some (by kernel_rfl))
  f317 := Tryz.func166.trans (congrArg some (by kernel_rfl))
  f318 := Tryz.func167.trans (congrArg some (by kernel_rfl))
  t0 := Tryz.underlying0
  a0 := Tryz.isAgg0
  z0 := Tryz.sizeOf0
  v0 := Tryz.zeroValue0
  t3 := Tryz.underlying3
  a3 := Tryz.isAgg3
  z3 := Tryz.sizeOf3
  v3 := Tryz.zeroValue3
  t4 := Tryz.underlying4
  a4 := Tryz.isAgg4
  z4 := Tryz.sizeOf4
  v4 := Tryz.zeroValue4
  t5 := Tryz.underlying5
  a5 := Tryz.isAgg5
  z5 := Tryz.sizeOf5
  v5 := Tryz.zeroValue5
  t9 := Tryz.underlying9
  a9 := Tryz.isAgg9
  z9 := Tryz.sizeOf9
  v9 := Tryz.zeroValue9
  t46 := Tryz.underlying137
  a46 := Tryz.isAgg137
  z46 := Tryz.sizeOf137
  v46 := Tryz.zeroValue137
  t53 := Tryz.underlying22
  a53 := Tryz.isAgg22
  z53 := Tryz.sizeOf22
  v53 := Tryz.zeroValue22
  t212 := Tryz.underlying229
  a212 := Tryz.isAgg229
  z212 := Tryz.sizeOf229
  v212 := Tryz.zeroValue229
  g17 := by kernel_rfl
  i0 := by kernel_rfl
  i3 := by kernel_rfl
  i4 := by kernel_rfl
  i5 := by kernel_rfl
  i9 := by kernel_rfl
  i46 := by kernel_rfl
  i53 := by kernel_rfl
  i212 := by kernel_rfl
  m17 := by kernel_rfl }

def Tryz.lays285_ren : Go.Shelf.Ren := ⟨fun | 285 => 160 | n => n, fun | 37 => 40 | 53 => 22 | 3 => 3 | 4 => 4 | 51 => 131 | 9 => 9 | 5 => 5 | 0 => 0 | n => n, fun | n => n⟩
theorem Tryz.lays285 : Go.Proofs.Lays.n285 Tryz.prog Tryz.lays285_ren := {
  mixed := by kernel_rfl
  f285 := Tryz.func160.trans (congrArg some (by kernel_rfl))
  t0 := Tryz.underlying0
  a0 := Tryz.isAgg0
  z0 := Tryz.sizeOf0
  v0 := Tryz.zeroValue0
  t3 := Tryz.underlying3
  a3 := Tryz.isAgg3
  z3 := Tryz.sizeOf3
  v3 := Tryz.zeroValue3
  t4 := Tryz.underlying4
  a4 := Tryz.isAgg4
  z4 := Tryz.sizeOf4
  v4 := Tryz.zeroValue4
  t5 := Tryz.underlying5
  a5 := Tryz.isAgg5
  z5 := Tryz.sizeOf5
  v5 := Tryz.zeroValue5
  t9 := Tryz.underlying9
  a9 := Tryz.isAgg9
  z9 := Tryz.sizeOf9
  v9 := Tryz.zeroValue9
  t37 := Tryz.underlying40
  a37 := Tryz.isAgg40
  z37 := Tryz.sizeOf40
  v37 := Tryz.zeroValue40
  t51 := Tryz.underlying131
  a51 := Tryz.isAgg131
  z51 := Tryz.sizeOf131
  v51 := Tryz.zeroValue131
  t53 := Tryz.underlying22
  a53 := Tryz.isAgg22
  z53 := Tryz.sizeOf22
  v53 := Tryz.zeroValue22 }

def Tryz.lays105_ren : Go.Shelf.Ren := ⟨fun | 105 => 124 | 212 => 147 | 99 => 50 | 165 => 148 | 166 => 149 | 170 => 150 | 169 => 151 | 263 => 162 | 264 => 163 | 206 => 75 | 240 => 164 | 241 => 165 | 276 => 170 | 277 => 171 | n => n, fun | 9 => 9 | 3 => 3 | 4 => 4 | 20 => 20 | 0 => 0 | 46 => 137 | 109 => 202 | 5 => 5 | 72 => 206 | 76 => 207 | 51 => 131 | 146 => 224 | 53 => 22 | 148 => 211 | 70 => 204 | 37 => 40 | 75 => 32 | 127 => 153 | 164 => 231 | 80 => 209 | n => n, fun | n => n⟩
theorem Tryz.lays105 : Go.Proofs.Lays.n105 Tryz.prog Tryz.lays105_ren := {
  mixed := by kernel_rfl
  f99 := Tryz.func50.trans (congrArg some (by kernel_rfl))
  f105 := Tryz.func124.trans (congrArg some (by kernel_rfl))
  f165 := Tryz.func148.trans (congrArg some (by kernel_rfl))
  f166 := Tryz.func149.trans (congrArg some (by kernel_rfl))
  f169 := Tryz.func151.trans (congrArg some (by kernel_rfl))
  f170 := Tryz.func150.trans (congrArg some (by kernel_rfl))
  f206 := Tryz.func75.trans (congrArg some (by kernel_rfl))
  f212 := Tryz.func147.trans (congrArg some (by kernel_rfl))
  f240 := Tryz.func164.trans (congrArg some (by kernel_rfl))
  f241 := Tryz.func165.trans (congrArg some (by kernel_rfl))
  f263 := Tryz.func162.trans (congrArg some (by kernel_rfl))
  f264 := Tryz.func163.trans (congrArg some (by kernel_rfl))
  f276 := Tryz.func170.trans (congrArg some (by kernel_rfl))
  f277 := Tryz.func171.trans (congrArg some (by kernel_rfl))
  t0 := Tryz.underlying0
  a0 := Tryz.isAgg0
  z0 := Tryz.sizeOf0
  v0 := Tryz.zeroValue0
  t3 := Tryz.underlying3
  a3 := Tryz.isAgg3
  z3 := Tryz.sizeOf3
  v3 := Tryz.zeroValue3
  t4 := Tryz.underlying4
  a4 := Tryz.isAgg4
  z4 := Tryz.sizeOf4
  v4 := Tryz.zeroValue4
  t5 := Tryz.underlying5
  a5 := Tryz.isAgg5
  z5 := Tryz.sizeOf5
  v5 := Tryz.zeroValue5
  t9 := Tryz.underlying9
  a9 := Tryz.isAgg9
  z9 := Tryz.sizeOf9
  v9 := Tryz.zeroValue9
  t20 := Tryz.underlying20
  a20 := Tryz.isAgg20
  z20 := Tryz.sizeOf20
  v20 := Tryz.zeroValue20
  t37 := Tryz.underlying40
  a37 := Tryz.isAgg40
  z37 := Tryz.sizeOf40
  v37 := Tryz.zeroValue40
  t46 := Tryz.underlying137
  a46 := Tryz.isAgg137
  z46 := Tryz.sizeOf137
  v46 := Tryz.zeroValue137
  t51 := Tryz.underlying131
  a51 := Tryz.isAgg131
  z51 := Tryz.sizeOf131
  v51 := Tryz.zeroValue131
  t53 := Tryz.underlying22
  a53 := Tryz.isAgg22
  z53 := Tryz.sizeOf22
  v53 := Tryz.zeroValue22
  t70 := Tryz.underlying204
  a70 := Tryz.isAgg204
  z70 := Tryz.sizeOf204
  v70 := Tryz.zeroValue204
  t72 := Tryz.underlying206
  a72 := Tryz.isAgg206
  z72 := Tryz.sizeOf206
  v72 := Tryz.zeroValue206
  t75 := Tryz.underlying32
  a75 := Tryz.isAgg32
  z75 := Tryz.sizeOf32
  v75 := Tryz.zeroValue32
  t76 := Tryz.underlying207
  a76 := Tryz.isAgg207
  z76 := Tryz.sizeOf207
  v76 := Tryz.zeroValue207
  t109 := Tryz.underlying202
  a109 := Tryz.isAgg202
  z109 := Tryz.sizeOf202
  v109 := Tryz.zeroValue202
  t127 := Tryz.underlying153
  a127 := Tryz.isAgg153
  z127 := Tryz.sizeOf153
  v127 := Tryz.zeroValue153
  t146 := Tryz.underlying224
  a146 := Tryz.isAgg224
  z146 := Tryz.sizeOf224
  v146 := Tryz.zeroValue224
  t148 := Tryz.underlying211
  a148 := Tryz.isAgg211
  z148 := Tryz.sizeOf211
  v148 := Tryz.zeroValue211
  t164 := Tryz.underlying231
  a164 := Tryz.isAgg231
  z164 := Tryz.sizeOf231
  v164 := Tryz.zeroValue231 }

theorem Tryz.Builder_Extra_105 : Builder.Extra Tryz.prog Tryz.lays105_ren := {
  sizeBuilder := by kernel_rfl
  liesBuilder := by kernel_rfl
  t5 := Tryz.underlying5
  a5 := Tryz.isAgg5
  z5 := Tryz.sizeOf5
  v5 := Tryz.zeroValue5
  infoByte := by kernel_rfl
  cellsByte := by kernel_rfl
  sizeByte := by kernel_rfl
  neB5 := by decide }

open Go.RowKit
/-- what the library reads of its tables -/
structure Ld (w : World) : Prop where
  p10 : Lib.TabIs Tryz.prog w "internal/strconv.uint64pow10" .u64 Lib.pow10Tab
  tz : w.cell? ⟨3, 15, none⟩ = some (.int .u8 4)
theorem Ld.below {w w' : World} (h : Ld w) (hb : Below w.heap.size w w') : Ld w' := by
  have key : ∀ {p : Addr} {v : Value}, w.cell? p = some v → w'.cell? p = some v := fun {p v} hp => (hb.cell (World.block_lt_of_cell? w _ hp)).trans hp
  exact ⟨Lib.tabBelow_of_tabIs h.p10 w' hb, key h.tz⟩
theorem Ld.drew {w : World} (h : Ld w) : Ld w.drew := h.below (Below.refl _ _).drew
theorem Ld.drewN {w : World} (h : Ld w) (n : Nat) : Ld (w.drewN n) := h.below (below_drewN (Below.refl _ _) n)

open Go.Lib in
theorem mrep_any (c : Nat) (w : World) (hc : c ≤ 1000) : Calls Tryz.prog 124 #[.string (Bstr [48]), .int .i64 (c : Int)] w fun e w' => e = .returned (.string (Bstr (List.replicate c 48))) ∧ Below w.heap.size w w' := by
  have h := Any.strings_Repeat Tryz.lays105 Tryz.Builder_Extra_105 (Bstr [48]) c w (by omega) (by rw [Bstr_size]; simp; omega)
  refine h.mono fun e w' ⟨he, hb⟩ => ⟨?_, hb⟩
  rw [he]
  have : Lib.repeatL (Bstr [48]).data.toList c = List.replicate c 48 := by
    have := Lib.repeatL_replicate 48 1 c
    simpa [Bstr] using this
  rw [this]
  rfl

open Go.Lib in
theorem mtsmall_any (n : Nat) (w : World) (h : n < 100) : Calls Tryz.prog 158 #[.int .i64 (n : Int)] w fun e w' => ∃ k, e = .returned (.string (Bstr (digs 10 n k))) ∧ 1 ≤ k ∧ k ≤ 3 ∧ n < 10 ^ k ∧ w' = w := by
  refine (Any.internal_strconv_small Tryz.lays283 n h w).mono fun e w' ⟨he, hw⟩ => ?_
  have key : ∀ m : Fin 100, ∃ k : Fin 4, Lib.decDigits m.val = digs 10 m.val k.val ∧ 1 ≤ k.val ∧ m.val < 10 ^ k.val := by
    intro m
    by_cases h : m.val < 10
    · refine ⟨1, ?_, by decide, by simp; exact h⟩
      rw [Lib.decDigits, dif_pos h, show (1 : Fin 4).val = 1 from rfl]
      simp only [digs, List.nil_append]
      rw [Nat.mod_eq_of_lt h, dchar, if_pos h]
    · refine ⟨2, ?_, by decide, by have := m.isLt; simp⟩
      have h10 : m.val / 10 < 10 := by have := m.isLt; omega
      rw [Lib.decDigits, dif_neg h, Lib.decDigits, dif_pos h10, show (2 : Fin 4).val = 2 from rfl]
      simp only [digs, List.nil_append]
      rw [Nat.mod_eq_of_lt h10, dchar, if_pos h10, dchar, if_pos (Nat.mod_lt _ (by omega))]
  obtain ⟨k, h1, h2, h3⟩ := key ⟨n, h⟩
  refine ⟨k.val, ?_, h2, by have := k.isLt; omega, h3, hw⟩
  rw [he]
  simp only at h1
  rw [h1]
  rfl

end Go.Proofs.YtnghpcfdgjkokaaGreatDoor

namespace Go.Proofs.YtnghpcfdgjkokaaGreatDoor
open Go.RowKit
set_option maxRecDepth 100000

/-- 'ρ's constant: the library's digits -/
def dg36 : ByteArray := ⟨#[48, 49, 50, 51, 52, 53, 54, 55, 56, 57, 97, 98, 99, 100, 101, 102, 103, 104, 105, 106, 107, 108, 109, 110, 111, 112, 113, 114, 115, 116, 117, 118, 119, 120, 121, 122]⟩
theorem dg36_at (d : Nat) (h : d < 16) : dg36.data[d]? = some (dchar d) := by
  have : ∀ k : Fin 16, dg36.data[k.val]? = some (dchar k.val) := by decide
  exact this ⟨d, h⟩
theorem dchar_toNat (d : Nat) (h : d < 16) : (dchar d).toNat = if d < 10 then 48 + d else 87 + d := by
  have : ∀ k : Fin 16, (dchar k.val).toNat = if k.val < 10 then 48 + k.val else 87 + k.val := by decide
  exact this ⟨d, h⟩

theorem tz_any (w : World) (hL : Ld w) : Calls Tryz.prog 169 #[.int .u64 16] w fun e w' => e = .returned (.int .i64 4) ∧ w' = w := by
  have h := hL.tz
  have h1 : IntKind.u64.wrap (-16) = 18446744073709551600 := by decide
  have h2 : bits .and .u64 16 18446744073709551600 = 16 := by decide
  have h3 : IntKind.u64.wrap (16 * 285870213051353865) = 4573923408821661840 := by decide
  have h4 : (4573923408821661840 : Int) / 288230376151711744 = 15 := by decide
  clear hL
  go_enter Tryz.func169, Tryz.ntmps169
  go_wp2
  go_ret
  exact ⟨rfl, rfl⟩

/-- the array in which a number's digits are laid, from the right -/
def fbL (n k : Nat) : List UInt8 := List.replicate (65 - k) 0 ++ digs 16 n k
def fbC (n k : Nat) : Array Value := (BV (fbL n k)).toArray
theorem fbL_length (n k : Nat) (hk : k ≤ 65) : (fbL n k).length = 65 := by simp [fbL, digs_length]; omega
theorem fbL_next (n k : Nat) (hk : k < 65) : (fbL n k).set (64 - k) (dchar (n / 16 ^ k % 16)) = fbL n (k + 1) := by
  have e : 65 - k = 64 - k + 1 := by omega
  unfold fbL
  rw [digs_left, e, List.replicate_succ', List.append_assoc, show 65 - (k + 1) = 64 - k by omega]
  rw [List.set_append_right _ _ (by simp)]
  simp
theorem fbC_next (n k : Nat) (hk : k < 65) : (fbC n k).setIfInBounds (64 - k) (.int .u8 ((dchar (n / 16 ^ k % 16)).toNat : Int)) = fbC n (k + 1) := by
  unfold fbC
  rw [← fbL_next n k hk]
  simp [BV, List.map_set]

theorem and15 (n : Nat) (h : n < 18446744073709551616) : bits .and .u64 (n : Int) 15 = ((n % 16 : Nat) : Int) := by
  have h1 := u64_and_nat n 15 h (by omega)
  have e : n &&& 15 = n % 16 := Nat.and_two_pow_sub_one_eq_mod n 4
  rw [e] at h1
  exact h1
theorem div16_pow (n k : Nat) : n / 16 ^ k / 16 = n / 16 ^ (k + 1) := by rw [Nat.pow_succ, Nat.div_div_eq_div_mul]

theorem pow2_any (w : World) : Calls Tryz.prog 168 #[.int .i64 16] w fun e w' => e = .returned (.bool true) ∧ w' = w := by
  have p1 : bits .and .i64 16 15 = 0 := by decide
  go_enter Tryz.func168, Tryz.ntmps168
  go_wp2
  go_ret
  exact ⟨rfl, rfl⟩

set_option maxHeartbeats 1600000 in
theorem fbits_any (n : Nat) (w : World) (hn : n < 18446744073709551616) (hL : Ld w) :
    Calls Tryz.prog 161 #[.slice none 0 0, .int .u64 (n : Int), .int .i64 16, .bool false, .bool false] w fun e w' => ∃ k, e = .returned (.tuple #[.slice none 0 0, .string (Bstr (digs 16 n k))]) ∧ 1 ≤ k ∧ k ≤ 16 ∧ n < 16 ^ k ∧ Below w.heap.size w w' := by
  have HL := Lib.hid hL
  have hal : Tryz.prog.arrayLen 230 = 65 := by kernel_rfl
  have HN := Lib.hid hn
  clear hL
  go_enter Tryz.func161, Tryz.ntmps161
  go_wp2_with fail
  refine (pow2_any _).mono ?_
  rintro e w1 ⟨rfl, rfl⟩
  go_wp2_with fail
  refine (tz_any _ (HL.out.below ((Below.refl _ _).alloc (Nat.le_refl _) _))).mono ?_
  rintro e w1 ⟨rfl, rfl⟩
  go_wp2_with fail
  have HB : Hid (Blk (w.alloc (.cells Tryz.zeroCells230 230)) w.heap.size 230 (fbC n 0)) := Lib.hid (Blk.new _ _ _)
  have HW : Hid (Below w.heap.size w (w.alloc (.cells Tryz.zeroCells230 230))) := Lib.hid ((Below.refl _ _).alloc (Nat.le_refl _) _)
  revert HB HW
  generalize w.alloc (.cells Tryz.zeroCells230 230) = w1
  intro HB HW
  go_loopg [1, 13] 15 (fun gk uv iv wr => ∃ (k : Nat), k + gk = 15 ∧ uv = .int .u64 ((n / 16 ^ k : Nat) : Int) ∧ iv = .int .i64 (65 - k : Int) ∧ Hid (Blk wr w.heap.size 230 (fbC n k) ∧ Below w.heap.size w wr))
  case atStart => exact ⟨0, by omega, by simp, by simp, Lib.hid ⟨HB.out, HW.out⟩⟩
  case round =>
    obtain ⟨k, hk, rfl, rfl, HM⟩ := hrel
    have hq : n / 16 ^ k < 18446744073709551616 := Nat.lt_of_le_of_lt (Nat.div_le_self _ _) hn
    have hcs : (fbC n k)[65 - k - 1]? = some (.int .u8 (((fbL n k)[64 - k]'(by rw [fbL_length n k (by omega)]; omega)).toNat : Int)) := by
      rw [show 65 - k - 1 = 64 - k by omega]
      unfold fbC
      rw [List.getElem?_toArray, BV_getElem?, List.getElem?_eq_getElem (by rw [fbL_length n k (by omega)]; omega)]
      rfl
    have hc := (HM.out.1.cell (65 - k - 1)).trans hcs
    have hfz := HM.out.1.frozen (65 - k - 1)
    generalize hqq : n / 16 ^ k = q at *
    have HQQ := Lib.hid hqq
    clear hqq hcs
    by_cases h16 : 16 ≤ q
    · have hand := and15 q hq
      have hd : q % 16 < 16 := Nat.mod_lt _ (by omega)
      have HS : Hid ((fbC n k).setIfInBounds (64 - k) (.int .u8 ((dchar (q % 16)).toNat : Int)) = fbC n (k + 1)) := Lib.hid (by
        have := fbC_next n k (by omega)
        rw [HQQ.out] at this
        exact this)
      generalize q % 16 = d at *
      obtain ⟨gk1, hgk1⟩ : ∃ x, gk = x + 1 := ⟨gk - 1, by
        have h1 := HQQ.out
        have h2 := HN.out
        rcases Nat.lt_or_ge k 15 with h | h
        · omega
        · exfalso
          have : n / 16 ^ k < 16 := by
            rw [Nat.div_lt_iff_lt_mul (Nat.pow_pos (by omega))]
            have : k = 15 := by omega
            subst this
            omega
          omega⟩
      go_wp2_with fail
      go_roundg gk1
      case measure => omega
      case rel =>
        refine ⟨k + 1, by omega, ?_, ?_, Lib.hid ⟨?_, ?_⟩⟩
        · rw [← div16_pow, HQQ.out]
          simp
        · congr 1
          omega
        · have h1 := (HM.out.1.set_ (65 - k - 1) (.int .u8 ((dchar d).toNat : Int)))
          rw [show 65 - k - 1 = 64 - k by omega] at h1 ⊢
          rw [HS.out] at h1
          have h2 := dg36_at d hd
          have : (dg36.data[d]'(by have : dg36.data.size = 36 := rfl; omega)) = dchar d := (Array.getElem?_eq_some_iff.1 h2).2
          rw [← this] at h1
          exact h1
        · exact HM.out.2.grown (grown_set _ _ _ _) HM.out.2.size (by intro z hz; injection hz with hz; omega)
    · have HS : Hid ((fbC n k).setIfInBounds (64 - k) (.int .u8 ((dchar q).toNat : Int)) = fbC n (k + 1)) := Lib.hid (by
        have := fbC_next n k (by omega)
        rw [HQQ.out, Nat.mod_eq_of_lt (by omega : q < 16)] at this
        exact this)
      have HE : Hid (n < 16 ^ (k + 1)) := Lib.hid (by
        have h1 := HQQ.out
        have h2 : n / 16 ^ k < 16 := by omega
        rw [Nat.div_lt_iff_lt_mul (Nat.pow_pos (by omega))] at h2
        rw [Nat.pow_succ, Nat.mul_comm]
        exact h2)
      have hsl : ∀ W, (Instr.sliceAt 230 (.pointer (some ⟨w.heap.size, 0, none⟩)) (some (.int .i64 (65 - (k : Int) - 1))) none none).run Tryz.prog W = .ok (.slice (some ⟨w.heap.size, 64 - k, none⟩) (k + 1) (k + 1)) W := fun W => by
        rw [run_sliceAt_array_l W 230 ⟨w.heap.size, 0, none⟩ (by simp [Program.arrayLen, Program.elem, Tryz.underlying230]) .i64 (65 - (k : Int) - 1) (by omega) (by rw [hal]; omega)]
        have e1 : (65 - (k : Int) - 1).toNat = 64 - k := by omega
        rw [e1, hal]
        go_simp
        omega
      have hcv : ∀ u : World, Blk u w.heap.size 230 (fbC n (k + 1)) → (convert 40 9 (.slice (some ⟨w.heap.size, 64 - k, none⟩) (k + 1) (k + 1))).run Tryz.prog u = .ok (.string (Bstr (digs 16 n (k + 1)))) u := fun u hu => by
        have h1 := run_string (P := Tryz.prog) u byteT strT (some ⟨w.heap.size, 64 - k, none⟩) (k + 1) (digs 16 n (k + 1)) (Rd.of_cells fun j x hx => by
          rw [Addr.add_lit, hu.cell]
          unfold fbC
          rw [List.getElem?_toArray, BV_getElem?]
          rw [BV_getElem?] at hx
          rw [fbL, List.getElem?_append_right (by simp)]
          rw [← hx]
          congr 1
          congr 1
          simp)
        rw [digs_length] at h1
        exact h1
      go_wp2_with fail
      rw [hcv _ (by
        have h1 := (HM.out.1.set_ (65 - k - 1) (.int .u8 ((dchar q).toNat : Int)))
        rw [show 65 - k - 1 = 64 - k by omega] at h1 ⊢
        rw [HS.out] at h1
        have h2 := dg36_at q (by omega)
        have : (dg36.data[q]'(by have : dg36.data.size = 36 := rfl; omega)) = dchar q := (Array.getElem?_eq_some_iff.1 h2).2
        rw [← this] at h1
        exact h1)]
      go_wp2_with fail
      go_ret2
      exact ⟨k + 1, rfl, by omega, by omega, HE.out, HM.out.2.grown (grown_set _ _ _ _) HM.out.2.size (by intro z hz; injection hz with hz; omega)⟩

theorem fmt16_any (n : Nat) (w : World) (hn : n < 18446744073709551616) (hL : Ld w) :
    Calls Tryz.prog 123 #[.int .u64 (n : Int), .int .i64 16] w fun e w' => ∃ k, e = .returned (.string (Bstr (digs 16 n k))) ∧ 1 ≤ k ∧ k ≤ 16 ∧ n < 16 ^ k ∧ Below w.heap.size w w' := by
  go_enter Tryz.func123, Tryz.ntmps123
  go_wp2_with first | (go_at_call 146; go_in) | fail
  refine (fbits_any n _ hn hL).mono ?_
  rintro e w1 ⟨k, rfl, h1, h2, h3, hb⟩
  go_wp2_with fail
  go_ret
  exact ⟨k, rfl, h1, h2, h3, hb⟩

theorem nDigits3 (n : Nat) (h1 : 100 ≤ n) (h2 : n < 1000) : Lib.nDigits n = 3 := by
  rw [Lib.nDigits_big (by omega), Lib.nDigits_big (by omega), Lib.nDigits_small (by omega)]

theorem holds_three (w : World) (T : TypeId) : Sort.Holds (fun (b : UInt8) => Value.int .u8 (b.toNat : Int)) (w.alloc (.cells Lib.zeros24 T)) w.heap.size 0 (Array.replicate 3 0) := Lib.holds_zero0 w T 3 (by omega)

/-- what formatBase10 leaves of three digits -/
theorem fmt3 {n v : Nat} {dk : Array UInt8} (h : Lib.FmtInv 3 n 0 v dk) : dk.toList = digs 10 n 3 := by
  have key : ∀ m j : Nat, Lib.dg m j = dchar (m / 10 ^ j % 10) := fun m j => by
    have : m / 10 ^ j % 10 < 10 := Nat.mod_lt _ (by omega)
    rw [dchar, if_pos this]
    rfl
  have hs := h.size
  apply List.ext_getElem?
  intro i
  by_cases hi : i < 3
  · have h1 := h.done i (by omega) hi
    rw [key] at h1
    have h2 : dk.toList[i]? = some dk[i]! := by
      rw [Array.getElem?_toList, getElem!_pos dk i (by omega)]
      exact Array.getElem?_eq_getElem (by omega)
    rw [h2, h1]
    have : i = 0 ∨ i = 1 ∨ i = 2 := by omega
    rcases this with rfl | rfl | rfl
    · simp [digs, Nat.div_div_eq_div_mul]
    · simp [digs]
    · simp [digs]
  · rw [List.getElem?_eq_none (by simp [hs]; omega), List.getElem?_eq_none (by rw [digs_length]; omega)]

theorem below_putRow {α : Type} [Inhabited α] {enc : α → Value} {B : Nat} {a w : World} (h : Below B a w) {g : Nat} (hg : B ≤ g) (off : Nat) (d : Array α) : Below B a (Sort.putRow enc w g off d) :=
  ⟨h.os, h.tape, h.output, by rw [Sort.size_putRow]; exact h.size, fun j hj => by
    have : (Sort.putRow enc w g off d).heap[j]? = w.heap[j]? := by
      simp only [Sort.putRow, Sort.mapBlock]
      rw [Array.getElem?_modify, if_neg (by omega)]
    rw [this]
    exact h.block j hj⟩
theorem cell?_putRow' {w : World} {g off : Nat} {d0 d : Array UInt8} (enc : UInt8 → Value) (h0 : Sort.Holds enc w g off d0) (hs : d.size = d0.size) (j : Nat) (hj : j < d.size) : (Sort.putRow enc w g off d).cell? ⟨g, off + j, none⟩ = some (enc d[j]!) := Sort.cell?_putRow enc w g off d0 d h0 hs j hj

set_option maxHeartbeats 800000 in
theorem fmt10big_any (n : Nat) (w : World) (h1 : 100 ≤ n) (hn : n < 1000) (hL : Ld w) :
    Calls Tryz.prog 146 #[.int .u64 (n : Int), .int .i64 10] w fun e w' => e = .returned (.string (Bstr (digs 10 n 3))) ∧ Below w.heap.size w w' := by
  have hal : Tryz.prog.arrayLen 220 = 24 := by kernel_rfl
  have hsl : ∀ W, (Instr.sliceAt 220 (.pointer (some ⟨w.heap.size, 0, none⟩)) none (some (.int .i64 3)) none).run Tryz.prog W = .ok (.slice (some ⟨w.heap.size, 0, none⟩) 3 24) W := fun W => by
    rw [run_sliceAt_array_h W 220 ⟨w.heap.size, 0, none⟩ (by simp [Program.arrayLen, Program.elem, Tryz.underlying220]) .i64 3 (by omega) (by rw [hal]; omega), hal]
    go_simp
  have hb0 : Below w.heap.size w (w.alloc (.cells Lib.zeros24 220)) := (Below.refl _ _).alloc (Nat.le_refl _) _
  have hND := fun (u : World) (hu : Ld u) => Any.internal_strconv_numDigits Tryz.laysM284 n (by omega) (by omega) u hu.p10
  rw [nDigits3 n h1 hn] at hND
  have hF := Any.internal_strconv_formatBase10 Tryz.lays285 w.heap.size 0 24 n (Array.replicate 3 0) (w.alloc (.cells Lib.zeros24 220)) (holds_three w _) (by simpa using hn) (by omega) (by simp)
  rw [Array.size_replicate] at hF
  have HL := Lib.hid (hL.below hb0)
  have HB0 := Lib.hid hb0
  clear hal hL hb0
  go_enter Tryz.func146, Tryz.ntmps146
  go_wp2_with fail
  refine (hND _ HL.out).mono ?_
  rintro e w1 ⟨rfl, rfl⟩
  go_wp2_with fail
  refine hF.mono ?_
  rintro e w1 ⟨rfl, k, v', dk, hw1, hI⟩
  have HW : Hid (Below w.heap.size w w1) := Lib.hid (by
    rw [hw1]
    exact below_drewN (below_putRow HB0.out (Nat.le_refl _) _ _) _)
  have HR : Hid (Rd w1 (some ⟨w.heap.size, 0, none⟩) (BV (digs 10 n 3))) := Lib.hid (Rd.of_cells fun j x hx => by
    rw [Addr.add_lit, hw1, World.cell?_drewN, ← fmt3 hI] at *
    rw [BV_getElem?, Array.getElem?_toList] at hx
    have hj : j < dk.size := by
      rcases Nat.lt_or_ge j dk.size with h | h
      · exact h
      · rw [Array.getElem?_eq_none h] at hx
        cases hx
    rw [Array.getElem?_eq_getElem hj] at hx
    rw [cell?_putRow' _ (holds_three w _) (by rw [hI.size]; simp) j hj, getElem!_pos dk j hj]
    simpa using hx)
  clear hw1 hF hND
  go_wp2_with fail
  rw [show (3 : Nat) = (digs 10 n 3).length from rfl, run_string (P := Tryz.prog) w1 byteT strT _ 24 (digs 10 n 3) HR.out]
  go_wp2_with fail
  go_ret
  exact ⟨rfl, HW.out⟩

theorem fmt10_any (n : Nat) (w : World) (hn : n < 1000) (hL : Ld w) :
    Calls Tryz.prog 123 #[.int .u64 (n : Int), .int .i64 10] w fun e w' => ∃ k, e = .returned (.string (Bstr (digs 10 n k))) ∧ 1 ≤ k ∧ k ≤ 3 ∧ n < 10 ^ k ∧ Below w.heap.size w w' := by
  by_cases h : n < 100
  · go_enter Tryz.func123, Tryz.ntmps123
    go_wp2_with first | (go_at_call 146; go_in) | fail
    refine (mtsmall_any n _ h).mono ?_
    rintro e w1 ⟨k, rfl, h1, h2, h3, rfl⟩
    go_wp2_with fail
    go_ret
    exact ⟨k, rfl, h1, h2, h3, Below.refl _ _⟩
  · go_enter Tryz.func123, Tryz.ntmps123
    go_wp2_with fail
    refine (fmt10big_any n _ (by omega) hn hL).mono ?_
    rintro e w1 ⟨rfl, hb⟩
    go_wp2_with fail
    go_ret
    exact ⟨3, rfl, by omega, by omega, by omega, hb⟩

theorem mdig_any (b m n : Nat) (w : World) (hb0 : 0 < b) (hm : m ≤ 16)
    (hC : Calls Tryz.prog 123 #[.int .u64 (n : Int), .int .i64 (b : Int)] w fun e w' => ∃ k, e = .returned (.string (Bstr (digs b n k))) ∧ 1 ≤ k ∧ k ≤ m ∧ n < b ^ k ∧ Below w.heap.size w w') :
    Calls Tryz.prog 89 #[.int .u64 (n : Int), .int .i64 (b : Int), .int .i64 (m : Int)] w fun e w' => e = .returned (.string (Bstr (digs b n m))) ∧ Below w.heap.size w w' := by
  go_enter Tryz.func89, Tryz.ntmps89
  go_wp2_with fail
  refine hC.mono ?_
  rintro e w1 ⟨k, rfl, h1, h2, h3, hb1⟩
  have hlen : (Bstr (digs b n k)).size = k := by rw [Bstr_size, digs_length]
  have hmk : (m : Int) - k = ((m - k : Nat) : Int) := by omega
  have hadd := addStr (List.replicate (m - k) 48) (digs b n k) (by simp [digs_length]; omega)
  have hpad := digs_pad b hb0 k (m - k) n h3
  rw [show m - k + k = m by omega] at hpad
  rw [← hpad] at hadd
  clear hpad h3 hC
  go_wp2_with fail
  refine (mrep_any (m - k) _ (by omega)).mono ?_
  rintro e w2 ⟨rfl, hb2⟩
  go_wp2_with fail
  go_ret
  exact ⟨rfl, hb1.trans (hb2.mono hb1.size)⟩

theorem dig16_any (n : Nat) (w : World) (hn : n < 18446744073709551616) (hL : Ld w) :
    Calls Tryz.prog 89 #[.int .u64 (n : Int), .int .i64 16, .int .i64 16] w fun e w' => e = .returned (.string (Bstr (digs 16 n 16))) ∧ Below w.heap.size w w' :=
  mdig_any 16 16 n w (by omega) (by omega) (fmt16_any n w hn hL)
theorem dig10_any (n : Nat) (w : World) (hn : n < 1000) (hL : Ld w) :
    Calls Tryz.prog 89 #[.int .u64 (n : Int), .int .i64 10, .int .i64 3] w fun e w' => e = .returned (.string (Bstr (digs 10 n 3))) ∧ Below w.heap.size w w' :=
  mdig_any 10 3 n w (by omega) (by omega) (fmt10_any n w hn hL)

end Go.Proofs.YtnghpcfdgjkokaaGreatDoor
