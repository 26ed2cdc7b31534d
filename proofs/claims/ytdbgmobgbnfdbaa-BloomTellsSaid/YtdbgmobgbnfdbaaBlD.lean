/-
  THE PROGRAM's FILTER: its places (a closure sees them), New, Add, Has. Conditions: what each says.
-/
import Derived.Test.YtdbgmobgbnfdbaaBlC

namespace Go.Proofs.Ytdbgmobgbnfdbaa
open Go.RowKit
set_option maxRecDepth 100000

theorem shl_bit' (p : Nat) : (2 : Int) ^ (p % 8) % 256 = ((2 ^ (p % 8) : Nat) : Int) := by
  have h2 : 2 ^ (p % 8) < 2 ^ 8 := Nat.pow_lt_pow_right (by omega) (by omega)
  have h3 : ((2 : Int) ^ (p % 8)) = ((2 ^ (p % 8) : Nat) : Int) := by simp
  rw [h3]
  generalize 2 ^ (p % 8) = z at h2 ⊢
  omega

set_option maxHeartbeats 1600000 in
theorem places_any {w : World} {g : Nat} {b : Bl} (hok : b.Ok) (id : Nat) (hid : id < 18446744073709551616) (fn : FuncId) (cap : Array Value) (heg : ∀ args v, (callFunc fn args).run Try.prog v = .ok (.enter fn args) v) (Inv : Nat → World → Prop)
    (hrow : ∀ k u, Inv k u → ∃ v, Blk u g 46 #[.int .u64 (b.sh : Int), .int .u64 (b.bits : Int), .int .u64 (b.hs : Int), v])
    (h0 : ∀ u, Below w.heap.size w u → Inv 0 u)
    (hstep : ∀ k u, k < b.hs → Inv k u → Calls Try.prog fn (#[.int .u64 ((b.place id k / 8 : Nat) : Int), .int .u8 ((2 ^ (b.place id k % 8) : Nat) : Int)] ++ cap) u fun e u' => e = .returned (.tuple #[]) ∧ Inv (k + 1) u') :
    Calls Try.prog 20 #[.pointer (some ⟨g, 0, none⟩), .int .u64 (id : Int), .func (.func fn) #[] cap] w fun e w' => e = .returned (.tuple #[]) ∧ Inv b.hs w' := by
  have hA := sumA_lt id
  have hB := sumB_lt id
  have hs1 := hok.s1
  have hs2 := hok.s2
  have hb1 := hok.b1
  have hb2 := hok.b2
  have hh2 := hok.h2
  obtain ⟨x, hx⟩ : ∃ x, id % b.sh = x := ⟨_, rfl⟩
  have hxl : x < b.sh := hx ▸ Nat.mod_lt _ (by omega)
  obtain ⟨y, hy⟩ : ∃ y, x * b.bits = y := ⟨_, rfl⟩
  have hyl : y ≤ 65536 := by
    have := Nat.mul_le_mul (show x ≤ 16 by omega) hb2
    omega
  have hx' : (id : Int) % (b.sh : Int) = (x : Int) := by rw [← hx]; omega
  have hy' : (x : Int) * (b.bits : Int) = (y : Int) := by rw [← hy]; simp
  have HR := Lib.hid hrow
  have H0 := Lib.hid h0
  have HS := Lib.hid hstep
  have HX : Hid (∀ k, b.place id k = y + (sumA id + k * sumB id) % b.bits) := Lib.hid fun k => by rw [Bl.place, Bl.spot, hx, hy]
  clear hrow h0 hstep hok hx hy
  generalize b.place id = pl at *
  go_enter Try.func20, Try.ntmps20
  go_wp2_with fail
  refine (bsums_any id _ hid).mono ?_
  rintro e w1 ⟨rfl, hb1'⟩
  have HB := Lib.hid hb1'
  obtain ⟨v, hv⟩ := HR.out 0 w1 (H0.out w1 hb1')
  have k0 := hv.cell 0
  have k1 := hv.cell 1
  have k2 := hv.cell 2
  simp at k0 k1 k2
  clear hb1' hv
  go_wp2_with fail
  go_quiet (fail)
  have hb2' := below_drewN (Below.refl w1.heap.size w1) nq
  generalize w1.drewN nq = w2 at *
  have HI0 := Lib.hid (H0.out w2 (HB.out.trans (hb2'.mono HB.out.size)))
  clear hb2' k0 k1 k2
  obtain ⟨v', hv⟩ := HR.out 0 w2 HI0.out
  have k2 := hv.cell 2
  simp at k2
  clear hv
  go_wp2_with fail
  clear hx' hy'
  go_loopg [6, 30] b.hs (fun gk av iv wr => ∃ k a : Nat, k + gk = b.hs ∧ a ≤ 4294967296 * (k + 1) ∧ av = .int .u64 (a : Int) ∧ iv = .int .u64 (k : Int) ∧ Hid (a = sumA id + k * sumB id ∧ Inv k wr))
  case atStart => exact ⟨0, sumA id, by omega, by omega, rfl, rfl, Lib.hid ⟨by omega, HI0.out⟩⟩
  case round =>
    obtain ⟨k, a, hk, ha, rfl, rfl, HM⟩ := hrel
    clear k2
    by_cases hlt : k < b.hs
    · obtain ⟨gk1, hgk1⟩ : ∃ x, gk = x + 1 := ⟨gk - 1, by omega⟩
      obtain ⟨v2, hv2⟩ := HR.out k wr HM.out.2
      have k1 := hv2.cell 1
      simp at k1
      obtain ⟨s, hs⟩ : ∃ s, a % b.bits = s := ⟨_, rfl⟩
      have hsl : s < b.bits := hs ▸ Nat.mod_lt _ (by omega)
      have hs' : (a : Int) % (b.bits : Int) = (s : Int) := by rw [← hs]; omega
      have HP : Hid (pl k = y + s) := Lib.hid (by rw [HX.out, ← HM.out.1, hs])
      have hS := HS.out k wr hlt HM.out.2
      rw [HP.out, show (((y + s) / 8 : Nat) : Int) = ((y : Int) + (s : Int)) / 8 by omega] at hS
      have HSH := Lib.hid (shl_bit' (y + s))
      clear hv2 hs
      go_wp2_with fail
      rw [HSH.out]
      refine hS.mono ?_
      rintro e w3 ⟨rfl, hI3⟩
      have HI3 := Lib.hid hI3
      clear hS hI3 hs' k1
      go_wp2_with fail
      go_roundg gk1
      case measure => omega
      case rel => exact ⟨k + 1, a + sumB id, by omega, by omega, by go_num, by go_num, Lib.hid ⟨by rw [Nat.succ_mul]; have := HM.out.1; omega, HI3.out⟩⟩
    · have hkn : k = b.hs := by omega
      subst hkn
      clear hlt
      obtain ⟨v2, hv2⟩ := HR.out _ wr HM.out.2
      go_wp2_with fail
      refine bodyPost_end (results_none rfl _ _ _) rfl ?_
      exact ⟨rfl, HM.out.2⟩
end Go.Proofs.Ytdbgmobgbnfdbaa
