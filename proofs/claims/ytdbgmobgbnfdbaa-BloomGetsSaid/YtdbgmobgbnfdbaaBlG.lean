/-
  THE PROGRAM's FILTER: CONTRACTS of New, Bytes. Conditions: what each says.
-/
import Derived.Test.YtdbgmobgbnfdbaaBlC
namespace Go.Proofs.Ytdbgmobgbnfdbaa
open Go.RowKit
set_option maxRecDepth 100000

set_option maxHeartbeats 800000 in
theorem bnew_bad {s bi h : Int} (w : World) (hr : rightI s bi h = false) : Calls Try.prog 7 #[.int .i64 s, .int .i64 bi, .int .i64 h] w fun e w' => e = .returned (.tuple #[.pointer none, code 1]) ∧ Below w.heap.size w w' := by
  have hn := rightI_not hr
  clear hr
  cases hA : (decide (1 ≤ s) && decide (s ≤ 16)) with
  | false =>
    have HA := Lib.hid hA
    clear hA hn
    go_enter Try.func7, Try.ntmps7
    go_wp2_with fail
    refine (isAmong_any s 1 16 _).mono ?_
    rintro e w1 ⟨rfl, rfl⟩
    rw [HA.out]
    go_wp2_with fail
    go_ret2
    exact ⟨rfl, Below.refl _ _⟩
  | true =>
    have HA := Lib.hid hA
    have hA' : 1 ≤ s ∧ s ≤ 16 := by simpa using hA
    clear hA
    cases hH : (decide (1 ≤ h) && decide (h ≤ 8)) with
    | false =>
      have HH := Lib.hid hH
      clear hH hn
      go_enter Try.func7, Try.ntmps7
      go_wp2_with fail
      refine (isAmong_any s 1 16 _).mono ?_
      rintro e w1 ⟨rfl, rfl⟩
      rw [HA.out]
      go_wp2_with fail
      refine (isAmong_any h 1 8 _).mono ?_
      rintro e w1 ⟨rfl, rfl⟩
      rw [HH.out]
      go_wp2_with fail
      go_ret2
      exact ⟨rfl, Below.refl _ _⟩
    | true =>
      have HH := Lib.hid hH
      have hH' : 1 ≤ h ∧ h ≤ 8 := by simpa using hH
      clear hH
      cases hB : (decide (8 ≤ bi) && decide (bi ≤ 4096)) with
      | false =>
        have HB := Lib.hid hB
        clear hB hn
        go_enter Try.func7, Try.ntmps7
        go_wp2_with fail
        refine (isAmong_any s 1 16 _).mono ?_
        rintro e w1 ⟨rfl, rfl⟩
        rw [HA.out]
        go_wp2_with fail
        refine (isAmong_any h 1 8 _).mono ?_
        rintro e w1 ⟨rfl, rfl⟩
        rw [HH.out]
        go_wp2_with fail
        refine (isAmong_any bi 8 4096 _).mono ?_
        rintro e w1 ⟨rfl, rfl⟩
        rw [HB.out]
        go_wp2_with fail
        go_ret2
        exact ⟨rfl, Below.refl _ _⟩
      | true =>
        have HB := Lib.hid hB
        have hB' : 8 ≤ bi ∧ bi ≤ 4096 := by simpa using hB
        clear hB
        obtain ⟨hB1, hB2⟩ := hB'
        obtain ⟨r, hr⟩ : ∃ r, bi % 8 = r := ⟨_, rfl⟩
        have hr0 : r ≠ 0 := fun e => hn ⟨hA'.1, hA'.2, hB1, hB2, by omega, hH'⟩
        have hr1 : (r == 0) = false := by simpa using hr0
        clear hn hA' hH'
        go_enter Try.func7, Try.ntmps7
        go_wp2_with fail
        refine (isAmong_any s 1 16 _).mono ?_
        rintro e w1 ⟨rfl, rfl⟩
        rw [HA.out]
        go_wp2_with fail
        refine (isAmong_any h 1 8 _).mono ?_
        rintro e w1 ⟨rfl, rfl⟩
        rw [HH.out]
        go_wp2_with fail
        refine (isAmong_any bi 8 4096 _).mono ?_
        rintro e w1 ⟨rfl, rfl⟩
        rw [HB.out]
        go_wp2_with fail
        go_ret2
        exact ⟨rfl, Below.refl _ _⟩

set_option maxHeartbeats 800000 in
theorem bnew_ok {s bi h : Nat} (w : World) (hr : rightI s bi h = true) : Calls Try.prog 7 #[.int .i64 (s : Int), .int .i64 (bi : Int), .int .i64 (h : Int)] w fun e w' => ∃ (g : Nat) (F : Nat → Prop), e = .returned (.tuple #[.pointer (some ⟨g, 0, none⟩), .nilIface]) ∧ PBq w' F g (g + 1) (s * bi / 8) (Bl.new s bi h) ∧ Below w.heap.size w w' ∧ ∀ q, F q → w.heap.size ≤ q := by
  have HOk := Lib.hid (Bl.new_ok hr)
  have hm : s * bi ≤ 65536 := HOk.out.most
  obtain ⟨h1, h2, h3, h4, h5, h6, h7⟩ := rightI_iff.1 hr
  have HA : Hid ((decide (1 ≤ (s : Int)) && decide ((s : Int) ≤ 16)) = true) := Lib.hid (by simp; omega)
  have HH : Hid ((decide (1 ≤ (h : Int)) && decide ((h : Int) ≤ 8)) = true) := Lib.hid (by simp; omega)
  have HB : Hid ((decide (8 ≤ (bi : Int)) && decide ((bi : Int) ≤ 4096)) = true) := Lib.hid (by simp; omega)
  obtain ⟨m, hm0⟩ : ∃ m, s * bi = m := ⟨_, rfl⟩
  obtain ⟨n, hn0⟩ : ∃ n, m / 8 = n := ⟨_, rfl⟩
  have hmi : (s : Int) * (bi : Int) = (m : Int) := by rw [← hm0]; simp
  have hni : (m : Int) / 8 = (n : Int) := by omega
  have hmk := fun u : World => run_make_bytes (P := Try.prog) byteT .i64 .i64 n n (Nat.le_refl _) (by omega) u
  rw [hm0, hn0]
  have HN : Hid (Bl.new s bi h = ⟨s, bi, h, List.replicate n 0⟩) := Lib.hid (by rw [Bl.new, hm0, hn0])
  rw [hm0] at hm
  clear hr hm0 hn0
  go_enter Try.func7, Try.ntmps7
  go_wp2_with fail
  refine (isAmong_any s 1 16 _).mono ?_
  rintro e w1 ⟨rfl, rfl⟩
  rw [HA.out]
  go_wp2_with fail
  refine (isAmong_any h 1 8 _).mono ?_
  rintro e w1 ⟨rfl, rfl⟩
  rw [HH.out]
  go_wp2_with fail
  refine (isAmong_any bi 8 4096 _).mono ?_
  rintro e w1 ⟨rfl, rfl⟩
  rw [HB.out]
  go_wp2_with fail
  go_ret2
  have hz : (w.alloc (.cells #[.int .u64 (s : Int), .int .u64 (bi : Int), .int .u64 (h : Int), .slice (some ⟨w.heap.size + 1, 0, none⟩) n n] 46)).heap.size = w.heap.size + 1 := by simp
  have ho := Own.zeros (w.alloc (.cells #[.int .u64 (s : Int), .int .u64 (bi : Int), .int .u64 (h : Int), .slice (some ⟨w.heap.size + 1, 0, none⟩) n n] 46)) 0 5 n (Nat.zero_le _) (by omega)
  rw [hz] at ho
  refine ⟨w.heap.size, fun z => z = w.heap.size ∨ z = w.heap.size + 1, rfl, ?_, ((Below.refl _ w).alloc (Nat.le_refl _) _).alloc (by simp) _, fun z hz => by omega⟩
  have hok := HOk.out
  rw [HN.out] at hok ⊢
  have hl : (List.replicate n (0 : UInt8)).length = n := List.length_replicate
  refine ⟨hok, ?_, ?_, by omega, fun z => Iff.rfl⟩
  · rw [hl]
    exact (Blk.new w _ _).alloc _
  · rw [hl]
    exact ho
end Go.Proofs.Ytdbgmobgbnfdbaa
