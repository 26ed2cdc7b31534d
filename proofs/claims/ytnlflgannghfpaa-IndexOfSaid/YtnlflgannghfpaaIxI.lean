/-
  tankardlaw12.IndexOf, walked. Conditions: what the theorem says.
-/
import Derived.Test.YtnlflgannghfpaaIxG
import Derived.Test.YtnlflgannghfpaaIxE
namespace Go.Proofs.Ytnlflgannghfpaa
open Go.RowKit
set_option maxRecDepth 100000

set_option maxHeartbeats 3200000 in
theorem indexOf_any (v : Value) (rows : List (List Tn)) (id : Int) (w : World) (h : Sls TsV w v rows) (hr : ∀ r ∈ rows, r.length ≤ 140737488355328) (hrl : rows.length ≤ 140737488355328) (h0 : 0 ≤ id) :
    Calls Try.prog 3 #[v, .int .u64 id] w fun e w' => e = .returned (.bool true) ∧ Below w.heap.size w w' := by
  obtain ⟨id, rfl⟩ := nat_of h0
  have H := Lib.hid h
  have eqc := eqCode
  have hSm := fun u (hu : Sls TsV u v rows) => smallP_any v rows u hu hr hrl
  obtain ⟨A, c, rfl, hc1, hc2⟩ := h.form
  clear h h0
  cases hS : smallP rows with
  | false =>
    rw [hS] at hSm
    clear hS
    go_enter Try.func3, Try.ntmps3
    go_wp2_with fail
    refine (up12_any _).mono ?_
    rintro e w1 ⟨rfl, hb1⟩
    go_wp2_with fail
    refine (hSm _ (sls_ts_below H.out hb1)).mono ?_
    rintro e w2 ⟨rfl, rfl⟩
    go_wp2_with fail
    go_ret
    exact ⟨rfl, hb1⟩
  | true =>
    rw [hS] at hSm
    have hfl : rows.flatten.length ≤ 300 ∧ rows.length ≤ 300 := by
      rw [smallP] at hS
      simp only [Bool.and_eq_true, decide_eq_true_iff] at hS
      omega
    have HFL := Lib.hid hfl
    clear hS hfl hr
    go_enter Try.func3, Try.ntmps3
    go_wp2_with fail
    refine (up12_any _).mono ?_
    rintro e w1 ⟨rfl, hb1⟩
    have HB1 := Lib.hid hb1
    have H1 := Lib.hid (sls_ts_below H.out hb1)
    clear hb1
    go_wp2_with fail
    refine (hSm _ H1.out).mono ?_
    rintro e w2 ⟨rfl, rfl⟩
    clear hSm
    go_wp2_with fail
    refine (iof_any _ rows _ H1.out (by have := HFL.out; omega)).mono ?_
    rintro e w2 ⟨⟨hP, rfl⟩ | ⟨hP, y, rfl, hy⟩, hb2⟩
    · have HP := Lib.hid hP
      have HB2 := Lib.hid (HB1.out.trans (hb2.mono HB1.out.size))
      have H2 := Lib.hid (sls_ts_below H1.out hb2)
      clear hP hb2
      go_wp2_with fail
      refine (DOf_any _ rows _ H2.out (by have := HFL.out; omega) (by have := HFL.out; omega)).mono ?_
      rw [HP.out]
      rintro e w3 ⟨y, rfl, _, hb3⟩
      have HB3 := Lib.hid (HB2.out.trans (hb3.mono HB2.out.size))
      clear hb3
      go_wp2_with fail
      go_ret
      exact ⟨rfl, HB3.out⟩
    · have HP := Lib.hid hP
      have HY := Lib.hid hy
      have HB2 := Lib.hid (HB1.out.trans (hb2.mono HB1.out.size))
      have H2 := Lib.hid (sls_ts_below H1.out hb2)
      clear hP hb2 hy
      go_wp2_with fail
      refine (DOf_any _ rows _ H2.out (by have := HFL.out; omega) (by have := HFL.out; omega)).mono ?_
      rw [HP.out]
      rintro e w3 ⟨z, rfl, hz, hb3⟩
      have HZ := Lib.hid (hz rfl)
      have HY3 := Lib.hid (HY.out.below hb3)
      have HB3 := Lib.hid (HB2.out.trans (hb3.mono HB2.out.size))
      clear hb3 hz
      go_wp2_with fail
      refine (ids_same _ _ _ _ HY3.out HZ.out).mono ?_
      rintro e w4 ⟨rfl, hb4⟩
      have HZ4 := Lib.hid (HZ.out.below hb4)
      have HY4 := Lib.hid (HY3.out.below hb4)
      have HB4 := Lib.hid (HB3.out.trans (hb4.mono HB3.out.size))
      clear hb4
      go_wp2_with fail
      refine (ifind_any _ _ id _ HY4.out).mono ?_
      rintro e w5 ⟨k, rfl, hk, rfl⟩
      have HK := Lib.hid hk
      clear hk
      go_wp2_with fail
      refine (DFind_any _ _ id _ HZ4.out).mono ?_
      rintro e w5 ⟨k', rfl, hk', rfl⟩
      obtain rfl := HK.out.one hk'
      clear hk'
      go_wp2_with fail
      go_ret
      exact ⟨rfl, HB4.out⟩
end Go.Proofs.Ytnlflgannghfpaa
