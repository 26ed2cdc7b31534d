/-
  CONTRACTS of the document's own Reader (tankardref01): Word, Text.
-/
import Derived.Test.YtdfjicjlmejonaaWordD
namespace Go.Proofs.Ytdfjicjlmejonaa
open Go.RowKit

/-- where something is amiss, as the document's Reader tells it -/
def badAt (bad : Bool) (p : Nat) : Int := if bad then (p : Int) else -1

/-- the document's Reader in block g, over the bytes l, behind p of them -/
structure RR (w : World) (g : Nat) (v : Value) (l : List UInt8) (p : Nat) (bad : Bool) : Prop where
  blk : Blk w g 66 #[v, .int .i64 p, .int .i64 (badAt bad p)]
  bs : Bs w v l
  le : p ≤ l.length
  ne : l ≠ [] → v.ownBlock ≠ some g
  small : l.length ≤ 140737488355328

section
variable {w w' : World} {g : Nat} {v : Value} {l : List UInt8} {p : Nat} {bad : Bool}
theorem RR.drewN (h : RR w g v l p bad) (n : Nat) : RR (w.drewN n) g v l p bad := ⟨h.blk, h.bs, h.le, h.ne, h.small⟩
theorem RR.drew (h : RR w g v l p bad) : RR w.drew g v l p bad := ⟨h.blk, h.bs, h.le, h.ne, h.small⟩
theorem RR.grown {row : Option Nat} (h : RR w g v l p bad) (hg : w.grownBy w' row) (hne : some g ≠ row) (hv : l ≠ [] → v.ownBlock ≠ row) : RR w' g v l p bad := ⟨h.blk.grown hg hne, h.bs.grown hg hv, h.le, h.ne, h.small⟩
theorem RR.below (h : RR w g v l p bad) (hb : Below w.heap.size w w') : RR w' g v l p bad := ⟨h.blk.below hb h.blk.lt, h.bs.below hb, h.le, h.ne, h.small⟩
theorem RR.setBad (h : RR w g v l p bad) : RR (w.setCell ⟨g, 2, none⟩ (.int .i64 p)) g v l p true :=
  ⟨h.blk.set_ 2 _, h.bs.grown (grown_set w g 2 _) h.ne, h.le, h.ne, h.small⟩
theorem RR.setAt (h : RR w g v l p false) (q : Nat) (hq : q ≤ l.length) (n : Int) (hn : n = (q : Int)) : RR (w.setCell ⟨g, 1, none⟩ (.int .i64 n)) g v l q false := by
  subst hn
  exact ⟨h.blk.set_ 1 _, h.bs.grown (grown_set w g 1 _) h.ne, hq, h.ne, h.small⟩
end

set_option maxHeartbeats 400000 in
theorem Word_bad (g : Nat) (v : Value) (l : List UInt8) (p : Nat) (k : Int) (w : World) (h : RR w g v l p true) :
    Calls Try.prog 45 #[.pointer (some ⟨g, 0, none⟩), .int .i64 k] w fun e w' => e = .returned (.int .u64 0) ∧ w = w' := by
  have h2 := h.blk.cell 2
  simp [badAt] at h2
  go_enter Try.func45, Try.ntmps45
  go_wp2_with (go_at_call 54; refine (Wide_any _ _).mono ?_; rintro e w' ⟨rfl, rfl⟩)
  go_ret
  exact ⟨rfl, rfl⟩

set_option maxHeartbeats 400000 in
theorem Word_no (g : Nat) (v : Value) (l : List UInt8) (p : Nat) (k : Int) (w : World) (h : RR w g v l p false) (hk : wordOk l p false k = false) :
    Calls Try.prog 45 #[.pointer (some ⟨g, 0, none⟩), .int .i64 k] w fun e w' => e = .returned (.int .u64 0) ∧ RR w' g v l p true ∧ w.grownBy w' (some g) := by
  have hv := h.bs
  obtain ⟨A, c, rfl, hc1, hc2, hr⟩ := hv
  have h0 := h.blk.cell 0
  have h1 := h.blk.cell 1
  have h2 := h.blk.cell 2
  have f2 := h.blk.frozen 2
  have hle := h.le
  have hsm := h.small
  simp [badAt] at h0 h1 h2
  cases hw : isW k with
  | false =>
    clear hk
    have HW := Lib.hid hw
    clear hw
    go_enter Try.func45, Try.ntmps45
    go_wp2_with (go_at_call 54; refine (Wide_any _ _).mono ?_; rintro e w' ⟨rfl, rfl⟩; rw [HW.out])
    go_quiet (fail)
    go_wp2
    go_ret
    exact ⟨rfl, (h.drewN _).setBad, grown_drewN_left (grown_set _ _ _ _)⟩
  | true =>
    have hn : ¬ k ≤ (l.length : Int) - p := by simpa [wordOk, hw] using hk
    have hk8 := isW_cases hw
    have hkb : 1 ≤ k ∧ k ≤ 8 := by omega
    clear hk hk8
    have HW := Lib.hid hw
    clear hw
    have hwr : IntKind.i64.wrap ((p : Int) + k) = (p : Int) + k := IntWalk.i64_in _ (by omega)
    have hdec : decide ((l.length : Int) < (p : Int) + k) = true := by simp; omega
    go_enter Try.func45, Try.ntmps45
    go_wp2_with (go_at_call 54; refine (Wide_any _ _).mono ?_; rintro e w' ⟨rfl, rfl⟩; rw [HW.out])
    go_quiet (fail)
    clear hwr
    go_wp2
    go_ret
    exact ⟨rfl, (h.drewN _).setBad, grown_drewN_left (grown_set _ _ _ _)⟩

theorem byte_step {w : World} {A : Option Addr} {l : List UInt8} (hr : Rd w A (BV l)) (p k j : Nat) (hj : j < k) (hk : p + k ≤ l.length) :
    ∃ b : Nat, b < 256 ∧ (∃ ad, A = some ad ∧ w.cell? (ad.add (p + j)) = some (.int .u8 (b : Int))) ∧ num (((l.drop p).take k).take (j + 1)) = num (((l.drop p).take k).take j) * 256 + b := by
  have hlen : ((l.drop p).take k).length = k := by simp; omega
  have hj' : j < ((l.drop p).take k).length := by omega
  refine ⟨(((l.drop p).take k)[j]'hj').toNat, UInt8.toNat_lt _, ?_, ?_⟩
  · refine hr (p + j) _ ?_
    rw [BV_getElem?, List.getElem_take, List.getElem_drop, List.getElem?_eq_getElem (by omega)]
    rfl
  · rw [List.take_succ_eq_append_getElem hj', num_snoc]

set_option maxHeartbeats 800000 in
theorem Word_yes (g : Nat) (v : Value) (l : List UInt8) (p : Nat) (k : Int) (w : World) (h : RR w g v l p false) (hk : wordOk l p false k = true) :
    Calls Try.prog 45 #[.pointer (some ⟨g, 0, none⟩), .int .i64 k] w fun e w' => e = .returned (.int .u64 (num ((l.drop p).take k.toNat))) ∧ RR w' g v l (p + k.toNat) false ∧ w.grownBy w' (some g) := by
  have hv := h.bs
  obtain ⟨A, c, rfl, hc1, hc2, hr⟩ := hv
  have h0 := h.blk.cell 0
  have h1 := h.blk.cell 1
  have h2 := h.blk.cell 2
  have f1 := h.blk.frozen 1
  have hle := h.le
  have hsm := h.small
  simp [badAt] at h0 h1 h2
  have hk2 : isW k = true ∧ k ≤ (l.length : Int) - p := by simpa [wordOk] using hk
  obtain ⟨hw, hn⟩ := hk2
  have hk8 := isW_cases hw
  obtain ⟨k, rfl⟩ := nat_of (n := k) (by omega)
  rw [Int.toNat_natCast]
  have hkb : 1 ≤ k ∧ k ≤ 8 := by omega
  clear hk hk8
  have HW := Lib.hid hw
  clear hw
  have hwr : IntKind.i64.wrap ((p : Int) + (k : Int)) = (p : Int) + (k : Int) := IntWalk.i64_in _ (by omega)
  have hdec : decide ((l.length : Int) < (p : Int) + (k : Int)) = false := by simp; omega
  go_enter Try.func45, Try.ntmps45
  go_wp2_with (go_at_call 54; refine (Wide_any _ _).mono ?_; rintro e w' ⟨rfl, rfl⟩; rw [HW.out])
  go_quiet (fail)
  clear hwr
  go_wp2
  go_loopw [6, 7] (fun m i wr => ∃ j n q : Nat, j ≤ k ∧ i = .int .i64 j ∧ m = .int .u64 q ∧ q < 256 ^ j ∧ Hid (q = num (((l.drop p).take k).take j)) ∧ wr = w.drewN n) (fun _ i _ => k - (intOf i).toNat)
  case atStart => exact ⟨0, nq, 0, Nat.zero_le _, rfl, rfl, by simp, Lib.hid (by simp [num]), rfl⟩
  case round =>
    obtain ⟨j, n, q, hj, rfl, rfl, hq, HQ, rfl⟩ := hrel
    by_cases hlt : j < k
    · obtain ⟨b, hb, ⟨ad, rfl, hc⟩, hstep⟩ := byte_step hr p k j hlt (by omega)
      rw [← HQ.out] at hstep
      have hq7 : q < 72057594037927936 := by
        have h3 : 256 ^ j ≤ 256 ^ 7 := Nat.pow_le_pow_right (by omega) (by omega)
        have h4 : (256 : Nat) ^ 7 = 72057594037927936 := by decide
        omega
      have hq8 : q * 256 + b < 256 ^ (j + 1) := by rw [Nat.pow_succ]; omega
      have HQ8 := Lib.hid hq8
      have HST := Lib.hid hstep
      clear hq hq8 hstep
      have e1 : IntKind.i64.wrap ((p : Int) + (j : Int)) = (p : Int) + (j : Int) := IntWalk.i64_in _ (by omega)
      have e2 : IntKind.u64.wrap (256 * (q : Int)) = 256 * (q : Int) := by rw [IntKind.wrap_u64]; omega
      have e3 : IntKind.u64.wrap (256 * (q : Int) + (b : Int)) = 256 * (q : Int) + (b : Int) := by rw [IntKind.wrap_u64]; omega
      have b0 : (0 : Int) ≤ (p : Int) + (j : Int) := by omega
      have b1 : (p : Int) + (j : Int) < (l.length : Int) := by omega
      have b2 : ((p : Int) + (j : Int)).toNat = p + j := by omega
      go_wp2
      go_quiet (fail)
      clear e1 e2 e3 b2
      go_wp2
      refine ⟨⟨j + 1, _, q * 256 + b, by omega, by go_num, ?_, HQ8.out, Lib.hid HST.out.symm, rfl⟩, by simp [intOf]; omega⟩
      go_num
    · obtain rfl : j = k := by omega
      have hlen : ((l.drop p).take j).length ≤ j := by simp; omega
      rw [List.take_of_length_le hlen] at HQ
      clear hlen
      go_wp2
      go_ret
      exact ⟨ret_int (by rw [HQ.out]), (h.drewN _).setAt (p + j) (by omega) _ (by omega), grown_drewN_left (grown_set _ _ _ _)⟩

end Go.Proofs.Ytdfjicjlmejonaa
