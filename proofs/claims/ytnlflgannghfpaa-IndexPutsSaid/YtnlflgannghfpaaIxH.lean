/-
  tankardlaw12.IndexPuts, walked. Conditions: what the theorem says.
-/
import Derived.Test.YtnlflgannghfpaaIxD
import Derived.Test.YtnlflgannghfpaaIxE
import Derived.Test.YtnlflgannghfpaaIxG
namespace Go.Proofs.Ytnlflgannghfpaa
open Go.RowKit
set_option maxRecDepth 100000

set_option maxHeartbeats 3200000 in
theorem indexPuts_any (vl vx : Value) (l : List Nat) (x : List UInt8) (w : World) (hl : Us w vl l) (hb : ∀ x ∈ l, x < 18446744073709551616) (hx : Bs w vx x) :
    Calls Try.prog 4 #[vl, vx] w fun e w' => e = .returned (.bool true) ∧ Below w.heap.size w w' := by
  have HLL := Lib.hid hl
  have HXX := Lib.hid hx
  have HB := Lib.hid hb
  have eqc := eqCode
  have nec := neCode
  obtain ⟨A, c, rfl, hc1, hc2⟩ := hl.form
  obtain ⟨B, d, rfl, hd1, hd2, _⟩ := hx
  clear hl hb
  by_cases hbig : 300 < l.length
  · go_enter Try.func4, Try.ntmps4
    go_wp2_with fail
    refine (up12_any _).mono ?_
    rintro e w1 ⟨rfl, hb1⟩
    go_wp2_with fail
    go_ret
    exact ⟨rfl, hb1⟩
  by_cases hbig2 : 5000 < x.length
  · go_enter Try.func4, Try.ntmps4
    go_wp2_with fail
    refine (up12_any _).mono ?_
    rintro e w1 ⟨rfl, hb1⟩
    go_wp2_with fail
    go_ret
    exact ⟨rfl, hb1⟩
  have hcode := ixX_code x
  have HRise := Lib.hid fun u (hu : Us u (.slice A l.length c) l) => Rises_any (.slice A l.length c) l u hu
  cases hB : ixB l with
  | false =>
    have HBB := Lib.hid hB
    rw [hB] at HRise
    clear hB
    go_enter Try.func4, Try.ntmps4
    go_wp2_with fail
    refine (up12_any _).mono ?_
    rintro e w1 ⟨rfl, hb1⟩
    have HB1 := Lib.hid hb1
    clear hb1
    go_wp2_with fail
    refine (iput_bad _ l _ (HLL.out.below HB1.out) HBB.out).mono ?_
    rintro e w2 ⟨rfl, hb2⟩
    have HB2 := Lib.hid (HB1.out.trans (hb2.mono HB1.out.size))
    clear hb2
    go_wp2_with fail
    refine (HRise.out _ (HLL.out.below HB2.out)).mono ?_
    rintro e w3 ⟨rfl, hb3⟩
    have HB3 := Lib.hid (HB2.out.trans (hb3.mono HB2.out.size))
    clear hb3
    go_wp2_with fail
    refine (iget_any _ (HXX.out.below HB3.out) (by omega)).mono ?_
    rintro e w4 ⟨g, rfl, hg, hb4⟩
    have HG4 := Lib.hid hg
    have HB4 := Lib.hid (HB3.out.trans (hb4.mono HB3.out.size))
    clear hg hb4
    go_wp2_with fail
    refine (Indexed_any _ (HXX.out.below HB4.out) (by omega)).mono ?_
    rintro e w5 ⟨y, rfl, hy, hb5⟩
    have HY5 := Lib.hid hy
    have HG5 := Lib.hid (HG4.out.below hb5)
    have HB5 := Lib.hid (HB4.out.trans (hb5.mono HB4.out.size))
    clear hy hb5
    go_wp2_with fail
    refine (Code_err _ _ hcode).mono ?_
    rintro e w6 ⟨rfl, rfl⟩
    go_wp2_with fail
    refine (ids_same _ _ _ _ HG5.out HY5.out).mono ?_
    rintro e w6 ⟨rfl, hb6⟩
    have HB6 := Lib.hid (HB5.out.trans (hb6.mono HB5.out.size))
    clear hb6
    go_wp2_with fail
    go_ret
    exact ⟨rfl, HB6.out⟩
  | true =>
    have HBB := Lib.hid hB
    have hl200 : l.length ≤ 200 := by
      rw [ixB, Bool.and_eq_true, decide_eq_true_eq] at hB
      exact hB.2
    rw [hB] at HRise
    clear hB
    go_enter Try.func4, Try.ntmps4
    go_wp2_with fail
    refine (up12_any _).mono ?_
    rintro e w1 ⟨rfl, hb1⟩
    have HB1 := Lib.hid hb1
    clear hb1
    go_wp2_with fail
    refine (iput_ok _ l _ (HLL.out.below HB1.out) HBB.out HB.out).mono ?_
    rintro e w2 ⟨z, rfl, hz, hb2⟩
    have HZ2 := Lib.hid hz
    have HB2 := Lib.hid (HB1.out.trans (hb2.mono HB1.out.size))
    clear hz hb2
    go_wp2_with fail
    refine (HRise.out _ (HLL.out.below HB2.out)).mono ?_
    rintro e w3 ⟨rfl, hb3⟩
    have HZ3 := Lib.hid (HZ2.out.bs.below hb3)
    have HB3 := Lib.hid (HB2.out.trans (hb3.mono HB2.out.size))
    clear hb3
    go_wp2_with fail
    have hst : ∀ w', Below w3.heap.size w3 w' → (convert 37 9 z).run Try.prog w' = .ok (.string (Bstr (sealedOf (ixBytes l)))) w' := fun w' h => strOf (HZ3.out.below h)
    refine wp_region_mix [(0, false), (1, false), (2, false), (3, false), (4, false), (5, false), (6, true), (7, true), (8, true), (9, true)] (fun w' => Below w3.heap.size w3 w') (by kernel_rfl) (by kernel_rfl) (by kernel_rfl) rfl (Below.refl _ _).drew ?_
    repeat
      (refine mix_read (o := ⟨_, _, _, _, _, _⟩) (v := ?_) rfl (by rfl) (fun w' hS => ?_) ?_
       rotate_left
       go_simp
       with_reducible rfl
       try simp only [Act.put, List.setIfInBounds_toArray, List.set_cons_zero, List.set_cons_succ])
    refine mix_step (o := ⟨_, _, _, _, _, _⟩) rfl (fun K hK => ?_)
    go_simp
    have HB3d := Lib.hid HB3.out.drew
    refine (Index_any _ l _ (HLL.out.below HB3d.out) HB.out (by omega)).mono ?_
    rintro e w5 ⟨v5, rfl, hbs5, hb5⟩
    have hb5' : Below w3.heap.size w3 w5 := (Below.refl _ w3).drew.trans hb5
    have hst5 := strOf hbs5
    have HB5 := Lib.hid (HB3.out.trans (hb5'.mono HB3.out.size))
    refine hK.out _ _ hb5' ?_
    clear hK K
    try simp only [Act.put, List.setIfInBounds_toArray, List.set_cons_zero, List.set_cons_succ]
    repeat
      (refine mix_step (o := ⟨_, _, _, _, _, _⟩) rfl (fun K hK => ?_)
       go_simp
       refine hK.out _ _ hb5' ?_
       clear hK K)
    refine mix_done ?_
    have hne : (!(Bstr (sealedOf (ixBytes l))).toList == (Bstr (sealedOf (ixBytes l))).toList) = false := by simp
    clear hst hst5 hb5 hb5' hbs5 HZ3 HZ2 HB3d HB3
    go_wp2_with fail
    refine (iget_any _ (HXX.out.below HB5.out) (by omega)).mono ?_
    rintro e w6 ⟨g, rfl, hg, hb6⟩
    have HG6 := Lib.hid hg
    have HB6 := Lib.hid (HB5.out.trans (hb6.mono HB5.out.size))
    clear hg hb6
    go_wp2_with fail
    refine (Indexed_any _ (HXX.out.below HB6.out) (by omega)).mono ?_
    rintro e w7 ⟨y, rfl, hy, hb7⟩
    have HY7 := Lib.hid hy
    have HG7 := Lib.hid (HG6.out.below hb7)
    have HB7 := Lib.hid (HB6.out.trans (hb7.mono HB6.out.size))
    clear hy hb7
    go_wp2_with fail
    refine (Code_err _ _ hcode).mono ?_
    rintro e w8 ⟨rfl, rfl⟩
    go_wp2_with fail
    refine (ids_same _ _ _ _ HG7.out HY7.out).mono ?_
    rintro e w8 ⟨rfl, hb8⟩
    have HB8 := Lib.hid (HB7.out.trans (hb8.mono HB7.out.size))
    clear hb8
    go_wp2_with fail
    go_ret
    exact ⟨rfl, HB8.out⟩
end Go.Proofs.Ytnlflgannghfpaa
