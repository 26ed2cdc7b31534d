/-
  tankardlaw11.BloomGets, walked over whatever keeps what a filter is to keep ('BloomK'). Conditions: what the theorem says.
-/
import Derived.Test.YtdbgmobgbnfdbaaBlP
import Derived.Test.YtdbgmobgbnfdbaaCode
namespace Go.Proofs.Ytdbgmobgbnfdbaa
open Go.RowKit
set_option maxRecDepth 100000

theorem getX_err {x : List UInt8} {n : Nat} (h : getX x = .error n) : n = 2 ∨ n = 7 := by
  unfold getX at h
  split at h
  · injection h with h
    exact .inl h.symm
  · split at h
    · injection h with h
      exact .inr h.symm
    · split at h
      · injection h with h
        exact .inl h.symm
      · cases h

set_option maxHeartbeats 3200000 in
theorem bloomGets_any {PB : World → (Nat → Prop) → Nat → Bl → Prop} (hK : BloomK PB) (v : Value) (x : List UInt8) (id : Nat) (w : World) (hv : Bs w v x) (hid : id < 18446744073709551616) :
    Calls Try.prog 4 #[v, .int .u64 (id : Int)] w fun e w' => e = .returned (.bool true) ∧ Below w.heap.size w w' := by
  have HK := Lib.hid hK
  have HV := Lib.hid hv
  have eqc := eqCode
  obtain ⟨A, c, rfl, hc1, hc2, _⟩ := hv
  clear hK
  go_enter Try.func4, Try.ntmps4
  go_wp2_with fail
  refine (up11_any HK.out _).mono ?_
  rintro e w1 ⟨rfl, hb1⟩
  have HB1 := Lib.hid hb1
  clear hb1
  by_cases hbig : 20000 < x.length
  · go_wp2_with fail
    go_ret
    exact ⟨rfl, HB1.out⟩
  have hG := HK.out.get w1 (HV.out.below HB1.out) (by omega)
  go_wp2_with fail
  refine hG.mono ?_
  rintro e w2 ⟨hb2, hg⟩
  have HB2 := Lib.hid (HB1.out.trans (hb2.mono HB1.out.size))
  have hF := DFiltered_any w2 (HV.out.below HB2.out) (by omega)
  clear hG hb2
  rcases hg with ⟨n, hx, rfl⟩ | ⟨g, F, b, hx, rfl, hP, hF2⟩
  · have HX := Lib.hid hx
    have hn := getX_err hx
    clear hx
    go_wp2_with fail
    refine hF.mono ?_
    rintro e w3 ⟨hb3, hg⟩
    have HB3 := Lib.hid (HB2.out.trans (hb3.mono HB2.out.size))
    obtain ⟨n', hx', rfl⟩ : ∃ n', getX x = .error n' ∧ e = .returned (.tuple #[.pointer none, .int .i64 (n' : Int)]) := by
      rcases hg with h | ⟨_, _, _, h, _⟩
      · exact h
      · rw [HX.out] at h
        cases h
    obtain rfl : n' = n := by
      rw [HX.out] at hx'
      injection hx' with h
      exact h.symm
    clear hF hb3 hx' hg
    rcases hn with rfl | rfl
    · go_wp2_with fail
      refine (Code_any _ _ (by omega) (by omega)).mono ?_
      rintro e w4 ⟨rfl, rfl⟩
      go_wp2_with fail
      go_ret
      exact ⟨rfl, HB3.out⟩
    · go_wp2_with fail
      refine (Code_any _ _ (by omega) (by omega)).mono ?_
      rintro e w4 ⟨rfl, rfl⟩
      go_wp2_with fail
      go_ret
      exact ⟨rfl, HB3.out⟩
  · have HX := Lib.hid hx
    have HP := Lib.hid hP
    clear hx hP hF2
    go_wp2_with fail
    refine hF.mono ?_
    rintro e wr ⟨hb3, hg⟩
    have HBw := Lib.hid (HB2.out.trans (hb3.mono HB2.out.size))
    obtain ⟨gd, G, b', hx', rfl, hD, _⟩ : ∃ (gd : Nat) (G : Nat → Prop) (b' : Bl), getX x = .ok b' ∧ e = .returned (.tuple #[.pointer (some ⟨gd, 0, none⟩), .int .i64 0]) ∧ DB wr G gd b' ∧ ∀ q, G q → w2.heap.size ≤ q := by
      rcases hg with ⟨_, h, _⟩ | h
      · rw [HX.out] at h
        cases h
      · exact h
    obtain rfl : b' = b := by
      rw [HX.out] at hx'
      injection hx' with h
      exact h.symm
    have HS : Hid (∀ u, Below wr.heap.size wr u → PB u F g b' ∧ DB u G gd b' ∧ Bs u (.slice A x.length c) x) := Lib.hid fun u hu => ⟨HK.out.later HP.out (hb3.trans (hu.mono hb3.size)), (DB.thing _ _).keep hD (Apt.of_below hu), HV.out.below (HBw.out.trans (hu.mono HBw.out.size))⟩
    have HE : Hid (b'.bytes = x) := Lib.hid (getX_some HX.out).2
    clear hF hb3 hg hx' hD
    go_wp2_with fail
    refine wp_region_mix [(0, false), (1, false), (2, false), (3, false), (5, false), (6, false), (4, true), (7, true), (8, false), (9, false), (10, false), (11, false), (14, false), (15, false), (12, true), (13, false), (16, false), (17, false), (18, false)] (fun u => Below wr.heap.size wr u) (by kernel_rfl) (by kernel_rfl) (by decide +kernel) rfl (Below.refl _ _).drew ?_
    repeat
      (refine mix_read (o := ⟨_, _, _, _, _, _⟩) (v := ?_) rfl (by rfl) (fun w' hU => ?_) ?_
       rotate_left
       go_simp
       with_reducible rfl
       try simp only [Act.put, List.setIfInBounds_toArray, List.set_cons_zero, List.set_cons_succ])
    refine mix_step (o := ⟨_, _, _, _, _, _⟩) rfl (fun K hK => ?_)
    go_simp
    have hb4 : Below wr.heap.size wr wr.drew := (Below.refl _ _).drew
    refine (HK.out.has id (HS.out _ hb4).1 hid).mono ?_
    rintro e w5 ⟨rfl, hb5⟩
    have hb5' := hb4.trans (hb5.mono hb4.size)
    refine hK.out _ _ hb5' ?_
    clear hK K hb5
    try simp only [Act.put, List.setIfInBounds_toArray, List.set_cons_zero, List.set_cons_succ]
    refine mix_step (o := ⟨_, _, _, _, _, _⟩) rfl (fun K hK => ?_)
    go_simp
    refine (DHas_any id (HS.out _ hb5').2.1 hid).mono ?_
    rintro e w6 ⟨rfl, hb6⟩
    have hb6' := hb5'.trans (hb6.mono hb5'.size)
    refine hK.out _ _ hb6' ?_
    clear hK K hb6 hb5'
    try simp only [Act.put, List.setIfInBounds_toArray, List.set_cons_zero, List.set_cons_succ]
    repeat
      (refine mix_read (o := ⟨_, _, _, _, _, _⟩) (v := ?_) rfl (by rfl) (fun w' hU => ?_) ?_
       rotate_left
       have hst := strOf (HS.out _ hU).2.2
       go_simp
       with_reducible rfl
       try simp only [Act.put, List.setIfInBounds_toArray, List.set_cons_zero, List.set_cons_succ])
    refine mix_more (o := ⟨_, _, _, _, _, _⟩) rfl (fun K hK => ?_)
    go_simp
    have hC := HK.out.bytes (HS.out _ hb6').1
    rw [HE.out] at hC
    refine hC.mono ?_
    rintro e w7 ⟨v7, rfl, ho7, hb7⟩
    have hb7' := hb6'.trans (hb7.mono hb6'.size)
    have HO7 := Lib.hid ho7
    refine hK.out (fun u => Below w7.heap.size w7 u) _ _ (fun u hu => hb7'.trans (hu.mono hb7'.size)) (Below.refl _ _) ?_
    clear hK K hb7 hb6' ho7 hC
    try simp only [Act.put, List.setIfInBounds_toArray, List.set_cons_zero, List.set_cons_succ]
    refine mix_read (o := ⟨_, _, _, _, _, _⟩) (v := ?_) rfl (by rfl) (fun w' hU => ?_) ?_
    rotate_left
    have hst := strOf (HO7.out.bs.below hU)
    go_simp
    with_reducible rfl
    try simp only [Act.put, List.setIfInBounds_toArray, List.set_cons_zero, List.set_cons_succ]
    repeat
      (refine mix_read (o := ⟨_, _, _, _, _, _⟩) (v := ?_) rfl (by rfl) (fun w' hU => ?_) ?_
       rotate_left
       go_simp
       with_reducible rfl
       try simp only [Act.put, List.setIfInBounds_toArray, List.set_cons_zero, List.set_cons_succ])
    refine mix_done ?_
    go_wp2_with fail
    go_ret
    exact ⟨rfl, HBw.out.trans (hb7'.mono HBw.out.size)⟩

theorem bloomGets_int {PB : World → (Nat → Prop) → Nat → Bl → Prop} (hK : BloomK PB) (v : Value) (x : List UInt8) (id : Int) (w : World) (hv : Bs w v x) (h0 : 0 ≤ id) (h1 : id ≤ 18446744073709551615) :
    Calls Try.prog 4 #[v, .int .u64 id] w fun e w' => e = .returned (.bool true) ∧ Below w.heap.size w w' := by
  obtain ⟨id, rfl⟩ := nat_of h0
  exact bloomGets_any hK v x id w hv (by omega)
end Go.Proofs.Ytdbgmobgbnfdbaa
