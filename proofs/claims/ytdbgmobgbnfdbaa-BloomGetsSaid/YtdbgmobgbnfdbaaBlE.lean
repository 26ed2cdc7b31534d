/-
  THE PROGRAM's FILTER: CONTRACTS of New, Add, Has. Conditions: what each says.
-/
import Derived.Test.YtdbgmobgbnfdbaaBlD
import Derived.Laws.BitsAllLaws
namespace Go.Proofs.Ytdbgmobgbnfdbaa
open Go.RowKit
set_option maxRecDepth 100000

theorem and_bit (y i : Nat) : (((y &&& 2 ^ i : Nat) : Int) != 0) = y.testBit i := by
  cases hb : y.testBit i with
  | false =>
    have h0 : y &&& 2 ^ i = 0 := Nat.eq_of_testBit_eq fun j => by
      rw [Nat.testBit_and, Nat.testBit_two_pow, Nat.zero_testBit]
      by_cases hj : i = j
      · subst hj
        simp [hb]
      · simp [hj]
    rw [h0]
    rfl
  | true =>
    have h0 : y &&& 2 ^ i ≠ 0 := fun h => by
      have h1 := congrArg (fun n => Nat.testBit n i) h
      simp only [Nat.testBit_and, Nat.testBit_two_pow, hb, Nat.zero_testBit] at h1
      simp at h1
    rw [bne_iff_ne]
    omega
theorem bit_lt (p m : Nat) (hm : m = 2 ^ (p % 8)) : m < 256 := by
  have h2 : 2 ^ (p % 8) < 2 ^ 8 := Nat.pow_lt_pow_right (by omega) (Nat.mod_lt _ (by omega))
  omega
theorem and_bit_ne (l : List UInt8) (p m : Nat) (hm : m = 2 ^ (p % 8)) : (bits .and .u8 ((l.getD (p / 8) 0).toNat : Int) (m : Int) != 0) = bitAt l p := by
  rw [u8_and_nat _ _ (UInt8.toNat_lt _) (bit_lt p m hm), bitAt_test, ← and_bit, hm]
theorem or_bit (l : List UInt8) (p m : Nat) (hm : m = 2 ^ (p % 8)) : bits .or .u8 ((l.getD (p / 8) 0).toNat : Int) (m : Int) = ((orBit (l.getD (p / 8) 0) (p % 8)).toNat : Int) := by
  rw [u8_or_nat _ _ (UInt8.toNat_lt _) (bit_lt p m hm), orBit_toNat _ _ (Nat.mod_lt _ (by omega)), hm]

section
variable {w w' u : World} {F : Nat → Prop} {g q c : Nat} {b : Bl}
theorem PBq.byte (h : PBq u F g q c b) {j : Nat} (hj : j < b.set.length) : u.cell? ⟨q, j, none⟩ = some (.int .u8 ((b.set.getD j 0).toNat : Int)) ∧ u.frozen? ⟨q, j, none⟩ = false := by
  obtain ⟨q', yn, e, _, _, _, hf⟩ := h.own.byte hj
  injection e with e
  injection e with e
  subst e
  refine ⟨?_, hf⟩
  have h1 := h.own.rd.cells j (.int .u8 ((b.set.getD j 0).toNat : Int)) (by rw [BV_getElem?, List.getElem?_eq_getElem hj, List.getD_eq_getElem?_getD, List.getElem?_eq_getElem hj]; rfl)
  rw [Addr.add_lit, Nat.zero_add] at h1
  exact h1
/-- one byte of it is stored -/
theorem PBq.put_ (h : PBq u F g q c b) (j : Nat) (z : UInt8) (b' : Bl) (hb : b' = { b with set := b.set.set j z }) : PBq (u.setCell ⟨q, j, none⟩ (.int .u8 (z.toNat : Int))) F g q c b' ∧ u.grownBy (u.setCell ⟨q, j, none⟩ (.int .u8 (z.toNat : Int))) (some q) := by
  subst hb
  obtain ⟨h1, h2⟩ := h.own.put_ j z
  have hl : (b.set.set j z).length = b.set.length := List.length_set ..
  refine ⟨⟨⟨h.ok.s1, h.ok.s2, h.ok.b1, h.ok.b2, h.ok.b8, h.ok.h1, h.ok.h2, hl.trans h.ok.len⟩, ?_, ?_, h.ne, h.F⟩, h2⟩
  · show Blk _ g _ #[_, _, _, .slice (some ⟨q, 0, none⟩) (b.set.set j z).length c]
    rw [hl]
    exact h.blk.far (fun e => h.ne e.symm) _
  · show Own _ 0 _ (.slice (some ⟨q, 0, none⟩) (b.set.set j z).length c) (b.set.set j z)
    rw [hl]
    exact h1
end

set_option maxHeartbeats 800000 in
theorem addSee_any {u : World} {F : Nat → Prop} {g q c n p m : Nat} {b : Bl} (h : PBq u F g q c b) (hn : u.cell? ⟨n, 0, none⟩ = some (.pointer (some ⟨g, 0, none⟩))) (hp : p / 8 < b.set.length) (hm : m = 2 ^ (p % 8)) :
    Calls Try.prog 21 #[.int .u64 ((p / 8 : Nat) : Int), .int .u8 (m : Int), .pointer (some ⟨n, 0, none⟩)] u fun e u' => e = .returned (.tuple #[]) ∧ PBq u' F g q c { b with set := setBit b.set p } ∧ u.grownBy u' (some q) := by
  have k3 := h.blk.cell 3
  simp at k3
  obtain ⟨kb, fb⟩ := h.byte hp
  have hor := or_bit b.set p m hm
  have HP : Hid (PBq (u.setCell ⟨q, p / 8, none⟩ (.int .u8 ((orBit (b.set.getD (p / 8) 0) (p % 8)).toNat : Int))) F g q c { b with set := setBit b.set p } ∧ u.grownBy (u.setCell ⟨q, p / 8, none⟩ (.int .u8 ((orBit (b.set.getD (p / 8) 0) (p % 8)).toNat : Int))) (some q)) := Lib.hid (h.put_ _ _ _ rfl)
  have hm8 := bit_lt p m hm
  have hz := (orBit (b.set.getD (p / 8) 0) (p % 8)).toNat_lt
  have hy := (b.set.getD (p / 8) 0).toNat_lt
  have hlen := h.ok.len_le
  generalize hzz : (orBit (b.set.getD (p / 8) 0) (p % 8)).toNat = z at *
  generalize (b.set.getD (p / 8) 0).toNat = y at *
  generalize hjj : p / 8 = j at *
  clear h hm hzz
  go_enter Try.func21, Try.ntmps21
  go_wp2_with fail
  refine bodyPost_end (results_none rfl _ _ _) rfl ?_
  exact ⟨rfl, HP.out⟩

set_option maxHeartbeats 800000 in
theorem hasSee_any {u : World} {F : Nat → Prop} {g q c n r p m : Nat} {b : Bl} {t : TypeId} (h : PBq u F g q c b) (a : Bool) (hr : Blk u r t #[.bool a]) (hn : u.cell? ⟨n, 0, none⟩ = some (.pointer (some ⟨g, 0, none⟩))) (hp : p / 8 < b.set.length) (hm : m = 2 ^ (p % 8)) :
    Calls Try.prog 23 #[.int .u64 ((p / 8 : Nat) : Int), .int .u8 (m : Int), .pointer (some ⟨r, 0, none⟩), .pointer (some ⟨n, 0, none⟩)] u fun e u' => e = .returned (.tuple #[]) ∧ u' = u.setCell ⟨r, 0, none⟩ (.bool (a && bitAt b.set p)) := by
  have k0 := hr.cell 0
  have f0 := hr.frozen 0
  simp at k0
  cases a with
  | false =>
    go_enter Try.func23, Try.ntmps23
    go_wp2_with fail
    refine bodyPost_end (results_none rfl _ _ _) rfl ?_
    exact ⟨rfl, rfl⟩
  | true =>
    have k3 := h.blk.cell 3
    simp at k3
    obtain ⟨kb, fb⟩ := h.byte hp
    have hand := and_bit_ne b.set p m hm
    have hm8 := bit_lt p m hm
    have hy := (b.set.getD (p / 8) 0).toNat_lt
    have hlen := h.ok.len_le
    generalize bitAt b.set p = z at *
    generalize (b.set.getD (p / 8) 0).toNat = y at *
    generalize hjj : p / 8 = j at *
    clear h hm
    go_enter Try.func23, Try.ntmps23
    go_wp2_with fail
    refine bodyPost_end (results_none rfl _ _ _) rfl ?_
    exact ⟨rfl, rfl⟩
end Go.Proofs.Ytdbgmobgbnfdbaa
