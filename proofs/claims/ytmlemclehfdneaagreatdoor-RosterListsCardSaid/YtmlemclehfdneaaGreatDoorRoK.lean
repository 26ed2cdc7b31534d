/-
  RosterLists, walked over RosterK. Conditions: what it says.
-/
import Derived.Test.YtmlemclehfdneaaGreatDoorRoI
namespace Go.Proofs.YtmlemclehfdneaaGreatDoor
open Go.RowKit
set_option maxRecDepth 100000

theorem nsR_code (m : Sm) : 0 ≤ (nsR m).1 ∧ (nsR m).1 ≤ 10 := by
  unfold nsR sList
  repeat' split
  all_goals simp

theorem sGet_code (m : Sm) (n : List UInt8) : 0 ≤ (sGet m n).2 ∧ (sGet m n).2 ≤ 10 := by
  unfold sGet
  repeat' split
  all_goals simp

theorem meR_code17 (m : Sm) (id : Nat) : 0 ≤ (meR m id).1 ∧ (meR m id).1 ≤ 10 := by
  unfold meR
  split
  · exact sGet_code _ _
  · split
    · exact meX_code _
    · split <;> simp

theorem mrR_code (m : Sm) (id : Nat) : 0 ≤ (mrR m id).1 ∧ (mrR m id).1 ≤ 10 := by
  unfold mrR
  split
  · exact sGet_code _ _
  · split
    · exact mkX_code _
    · split <;> simp

theorem loR_code : ∀ (r : List Nat) (m : Sm) (out : List Me), 0 ≤ (loR r m out).1.1 ∧ (loR r m out).1.1 ≤ 10
  | [], _, _ => by simp [loR]
  | id :: r, m, out => by
    rw [loR]
    split
    · exact meR_code17 _ _
    · exact loR_code r _ _

theorem moR_code : ∀ (r : List Nat) (m : Sm) (out : List Mk), 0 ≤ (moR r m out).1.1 ∧ (moR r m out).1.1 ≤ 10
  | [], _, _ => by simp [moR]
  | id :: r, m, out => by
    rw [moR]
    split
    · exact mrR_code _ _
    · exact moR_code r _ _

theorem liR_code (m : Sm) : 0 ≤ (liR m).1.1 ∧ (liR m).1.1 ≤ 10 := by
  unfold liR
  split
  · exact nsR_code _
  · split
    · exact loR_code _ _ _
    · split
      · exact moR_code _ _ _
      · split <;> simp

set_option maxHeartbeats 12800000 in
theorem rosterLists_any {L : World → Prop} (hK : RosterK L) (v : Value) (l : List Ob) (fails : Int) (w : World) (h : Pts w v l) (hf0 : -9223372036854775808 ≤ fails) (hf1 : fails ≤ 9223372036854775807) (hL : L w) :
    Calls Tryz.prog 3 #[v, .int .i64 fails] w fun e w' => e = .returned (.bool true) ∧ Below w.heap.size w w' := by
  have hLw : ∀ u, Below w.heap.size w u → L u := fun u hu => hK.later hL hu
  have HLW := Lib.hid hLw
  have HP := Lib.hid fun (u : World) (hu : Below w.heap.size w u) => (show Pts u v l from by
    obtain ⟨xs, h1, h2⟩ := h
    exact ⟨xs, h1.below hu, h2.mono fun _ _ ⟨hn, z, hz, hb⟩ => ⟨hn, z, hz, hb.below hu⟩⟩)
  clear h hL hLw
  go_enter Tryz.func3, Tryz.ntmps3
  go_wp2_with fail
  refine (up17_any hK _ (HLW.out _ (Below.refl _ _))).mono ?_
  rintro e w1 ⟨rfl, hb1⟩
  have HB1 := Lib.hid hb1
  clear hb1
  go_wp2_with fail
  refine (Filled_any v l _ (HP.out _ HB1.out)).mono ?_
  rintro e w2 hcase
  rcases hcase with ⟨g, rfl, hb2⟩ | ⟨g, gy, F, G, m, rfl, hmf, _, hnms, hW2⟩
  · have HB2 := Lib.hid (HB1.out.trans (hb2.mono HB1.out.size))
    clear hb2
    go_wp2_with fail
    go_ret
    exact ⟨rfl, HB2.out⟩
  have HW2 := Lib.hid hW2
  have HM := Lib.hid hmf
  have HNMS := Lib.hid hnms
  have HLU : Hid (∀ u, Below w1.heap.size w1 u → L u) := Lib.hid fun u hu => HLW.out _ (HB1.out.trans (hu.mono HB1.out.size))
  have HFIN : Hid (∀ u, Below w1.heap.size w1 u → Below w.heap.size w u) := Lib.hid fun u hu => HB1.out.trans (hu.mono HB1.out.size)
  clear hW2 hmf hnms HLW HP HB1
  have hNm := hK.names HW2.out.a HM.out HNMS.out (by omega) (Keep.of_old HLU.out HW2.out.below HW2.out.fge)
  have hDN := fun u (vs : Value) (hd : DS u gy gy vs m) => DNames_any u hd HM.out (by omega)
  have HNC := Lib.hid (nsR_code m)
  have HM2 : Hid ((callS m).fine 101) := Lib.hid HM.out.call
  generalize nsR m = nm at hNm hDN HNC
  obtain ⟨nc, na, nb⟩ := nm
  simp only at hNm hDN HNC
  go_wp2_with fail
  refine hNm.mono ?_
  rintro e w3 ⟨a, b, F3, rfl, hP3, hG3, hX3⟩
  have HW3 : Hid (W2 (fun u => Us u a na ∧ Us u b nb) w1 w3 (stA g (callS m)) F3 (stB gy gy m) G) := Lib.hid ((HW2.out.stepA (A' := stA g (callS m)) (stA_thing _ _) (stB_thing _ _ _) hP3 hG3.apt hG3.new).say (hX3.less fun q hq => by
    rcases hq with h | h
    · exact .inl (.inr h)
    · exact .inl (.inl ((stB_thing _ _ _).lt HW2.out.b q h))))
  clear hNm hP3 hG3 hX3 HW2
  obtain ⟨vy, hD3, hG3⟩ := HW3.out.b
  go_wp2_with fail
  refine (hDN w3 vy hD3).mono ?_
  rintro e w4 ⟨a', b', rfl, hD4, hua, hub, _, hA4⟩
  have HW4 := Lib.hid (HW3.out.stepB (B' := stB gy gy (callS m)) (stA_thing _ _) ⟨vy, hD4, hG3⟩ (hA4.mono fun q _ hq => by rw [hG3]; exact .inl hq) fun q hq => .inl hq)
  have HUA := Lib.hid hua.us
  have HUB := Lib.hid hub.us
  clear hDN hD3 hG3 hD4 hua hub hA4 HW3 vy
  go_wp2_with fail
  refine (Ids_same a a' na _ HW4.out.x.1 HUA.out).mono ?_
  rintro e w5 ⟨rfl, hb5⟩
  have HW5 := Lib.hid (HW4.out.later (stA_thing _ _) (stB_thing _ _ _) hb5)
  have HUB5 := Lib.hid (HUB.out.below hb5)
  clear hb5 HW4 HUA HUB
  go_wp2_with fail
  refine (Ids_same b b' nb _ HW5.out.x.2 HUB5.out).mono ?_
  rintro e w6 ⟨rfl, hb6⟩
  have HW6 := Lib.hid (HW5.out.later (stA_thing _ _) (stB_thing _ _ _) hb6)
  clear hb6 HW5 HUB5
  go_wp2_with fail
  refine (Code_err nc _ HNC.out).mono ?_
  rintro e w7 ⟨rfl, rfl⟩
  have hfl := sfail_any (n := fails) HW6.out.a hf0 hf1
  go_wp2_with fail
  refine hfl.mono ?_
  rintro e w8 ⟨rfl, hP8, hg8⟩
  have HW8 := Lib.hid (HW6.out.stepA (A' := stA g (failS (callS m) fails)) (stA_thing _ _) (stB_thing _ _ _) hP8 (Apt.of_grown hg8 fun q hq => by rw [← Option.some.inj hq]; exact hP8.Fg) fun q hq => .inl hq)
  clear hfl hP8 hg8 HW6
  obtain ⟨vy, hD8, hG8⟩ := HW8.out.b
  have hfl := Fail_any gy gy vy (callS m) fails _ hD8
  go_wp2_with fail
  refine hfl.mono ?_
  rintro e w9 ⟨rfl, hD9, hg9⟩
  obtain ⟨m1, hm1⟩ : ∃ z, z = failS (callS m) fails := ⟨_, rfl⟩
  have HW9 : Hid (W2 (fun _ => True) w1 w9 (stA g m1) F3 (stB gy gy m1) G) := Lib.hid (by
    rw [hm1]
    exact (HW8.out.stepB (B' := stB gy gy (failS (callS m) fails)) (stA_thing _ _) ⟨vy, hD9, hG8⟩ (Apt.of_grown hg9 fun q hq => by rw [hG8]; exact .inl (Option.some.inj hq).symm) fun q hq => .inl hq).say fun _ _ => trivial)
  have HM1 : Hid (m1.fine 101) := Lib.hid (by rw [hm1]; exact HM2.out.fail fails hf1)
  have HNM1 : Hid (Nms m1) := Lib.hid (by rw [hm1]; exact HNMS.out)
  clear hfl hD8 hG8 hD9 hg9 HW8 hm1 vy HM HM2
  have hLs := hK.list HW9.out.a HM1.out HNM1.out (by omega) (Keep.of_old HLU.out HW9.out.below HW9.out.fge)
  have hDL := fun u (vs : Value) (hd : DS u gy gy vs m1) => DRoster_any u hd HM1.out (by omega)
  have HLC := Lib.hid (liR_code m1)
  generalize liR m1 = lr at hLs hDL HLC
  obtain ⟨⟨lc, ll, lk⟩, m2⟩ := lr
  simp only at hLs hDL HLC
  go_wp2_with fail
  refine hLs.mono ?_
  rintro e w10 ⟨ra, rb, F10, rfl, hP10, hG10, hX10⟩
  have HW10 : Hid (W2 (fun u => Mes u ra ll ∧ Mks u rb lk) w1 w10 (stA g m2) F10 (stB gy gy m1) G) := Lib.hid ((HW9.out.stepA (A' := stA g m2) (stA_thing _ _) (stB_thing _ _ _) hP10 hG10.apt hG10.new).say (hX10.less fun q hq => by
    rcases hq with h | h
    · exact .inl (.inr h)
    · exact .inl (.inl ((stB_thing _ _ _).lt HW9.out.b q h))))
  clear hLs hP10 hG10 hX10 HW9
  obtain ⟨Ra, cra, rfl, _, _⟩ := HW10.out.x.1.form
  obtain ⟨Rb, crb, rfl, _, _⟩ := HW10.out.x.2.form
  have hb11 : Below w10.heap.size w10 (w10.alloc (.cells #[.slice Ra ll.length cra, .slice Rb lk.length crb] 41)) := (Below.refl _ _).alloc (Nat.le_refl _) _
  have HW11 : Hid (W2 (fun u => Blk u w10.heap.size 41 #[.slice Ra ll.length cra, .slice Rb lk.length crb] ∧ Mes u (.slice Ra ll.length cra) ll ∧ Mks u (.slice Rb lk.length crb) lk) w1 (w10.alloc (.cells #[.slice Ra ll.length cra, .slice Rb lk.length crb] 41)) (stA g m2) F10 (stB gy gy m1) G) := Lib.hid ((HW10.out.later (stA_thing _ _) (stB_thing _ _ _) hb11).say (Keep.and (keepBlk (Blk.new w10 _ _) fun hbad => by
      have := HW10.out.bad_lt (stA_thing _ _) (stB_thing _ _ _) _ hbad
      omega) (HW10.out.later (stA_thing _ _) (stB_thing _ _ _) hb11).kx))
  clear hb11 HW10
  go_wp2_with fail
  revert HW11
  generalize w10.alloc (.cells #[.slice Ra ll.length cra, .slice Rb lk.length crb] 41) = w11
  generalize w10.heap.size = g10
  intro HW11
  obtain ⟨vy, hD11, hG11⟩ := HW11.out.b
  refine (hDL w11 vy hD11).mono ?_
  rintro e w12 ⟨da, db, rfl, hD12, _, hda, hdb, hA12⟩
  have HW12 := Lib.hid (HW11.out.stepB (B' := stB gy gy m2) (stA_thing _ _) ⟨vy, hD12, hG11⟩ (hA12.mono fun q _ hq => by rw [hG11]; exact .inl hq) fun q hq => .inl hq)
  obtain ⟨Da, cda, rfl, _, _⟩ := hda.form
  obtain ⟨Db, cdb, rfl, _, _⟩ := hdb.form
  have hb13 : Below w12.heap.size w12 (w12.alloc (.cells #[.slice Da ll.length cda, .slice Db lk.length cdb] 44)) := (Below.refl _ _).alloc (Nat.le_refl _) _
  have HW13 := Lib.hid (HW12.out.later (stA_thing _ _) (stB_thing _ _ _) hb13)
  have HR13 : Hid (Blk (w12.alloc (.cells #[.slice Da ll.length cda, .slice Db lk.length cdb] 44)) w12.heap.size 44 #[.slice Da ll.length cda, .slice Db lk.length cdb]) := Lib.hid (Blk.new _ _ _)
  have HDA := Lib.hid (hda.below hb13)
  have HDB := Lib.hid (hdb.below hb13)
  clear hDL hD11 hG11 hD12 hda hdb hA12 HW11 HW12 hb13 vy
  go_wp2_with fail
  revert HW13 HR13 HDA HDB
  generalize w12.alloc (.cells #[.slice Da ll.length cda, .slice Db lk.length cdb] 44) = w13
  generalize w12.heap.size = g12
  intro HW13 HR13 HDA HDB
  obtain ⟨vy, hD13, hG13⟩ := HW13.out.b
  have hB10 := HW13.out.x.1
  have hB12 := HR13.out
  have hcl : ∀ u, Below w13.heap.size w13 u → u.cell? ⟨g10, 0, none⟩ = some (.slice Ra ll.length cra) ∧ u.cell? ⟨g10, 1, none⟩ = some (.slice Rb lk.length crb) ∧ u.cell? ⟨g12, 0, none⟩ = some (.slice Da ll.length cda) ∧ u.cell? ⟨g12, 1, none⟩ = some (.slice Db lk.length cdb) ∧ u.cell? ⟨gy, 2, none⟩ = some (.int .i64 m2.calls) := fun u hu =>
    ⟨((hB10.below hu hB10.lt).cell 0).trans rfl, ((hB10.below hu hB10.lt).cell 1).trans rfl, ((hB12.below hu hB12.lt).cell 0).trans rfl, ((hB12.below hu hB12.lt).cell 1).trans rfl, ((hD13.blk.below hu hD13.blk.lt).cell 2).trans rfl⟩
  have hME := HW13.out.x.2.1
  have hMK := HW13.out.x.2.2
  have hcalls := fun u (hu : Below w13.heap.size w13 u) => scalls_any (HW13.out.a.below hu)
  have hb14 : Below w13.heap.size w13 w13.drew := (Below.refl _ _).drew
  refine wp_region_mix [(0, false), (1, false), (2, false), (4, false), (3, true), (5, true), (6, false), (7, false), (8, false), (10, false), (9, true), (11, false), (12, false), (13, false), (14, false), (16, false), (17, false), (18, false), (19, false), (15, true), (20, false), (21, false), (22, false)] (fun u => Below w13.heap.size w13 u) (by kernel_rfl) (by kernel_rfl) (by kernel_rfl) rfl hb14 ?_
  iterate 4
    (refine mix_read (o := ⟨_, _, _, _, _, _⟩) (v := ?_) rfl (by rfl) (fun w' hS => ?_) ?_
     rotate_left
     obtain ⟨j0, j1, j2, j3, j4⟩ := hcl w' hS
     go_simp
     with_reducible rfl
     try simp only [Act.put, List.setIfInBounds_toArray, List.set_cons_zero, List.set_cons_succ])
  refine mix_step (o := ⟨_, _, _, _, _, _⟩) rfl (fun K hK2 => ?_)
  go_simp
  refine (as_any _ _ ll lk _ (hME.below hb14) (hMK.below hb14)).mono ?_
  rintro e w15 ⟨rfl, hb15⟩
  have hb15' := hb14.trans (hb15.mono hb14.size)
  refine hK2.out _ _ hb15' ?_
  clear hK2 K
  try simp only [Act.put, List.setIfInBounds_toArray, List.set_cons_zero, List.set_cons_succ]
  refine mix_step (o := ⟨_, _, _, _, _, _⟩) rfl (fun K hK2 => ?_)
  go_simp
  refine (Same_same _ _ _ _ ll lk _ (hME.below hb15') (HDA.out.below hb15') (hMK.below hb15') (HDB.out.below hb15')).mono ?_
  rintro e w16 ⟨rfl, hb16⟩
  have hb16' := hb15'.trans (hb16.mono hb15'.size)
  refine hK2.out _ _ hb16' ?_
  clear hK2 K
  try simp only [Act.put, List.setIfInBounds_toArray, List.set_cons_zero, List.set_cons_succ]
  iterate 4
    (refine mix_read (o := ⟨_, _, _, _, _, _⟩) (v := ?_) rfl (by rfl) (fun w' hS => ?_) ?_
     rotate_left
     obtain ⟨j0, j1, j2, j3, j4⟩ := hcl w' hS
     go_simp
     with_reducible rfl
     try simp only [Act.put, List.setIfInBounds_toArray, List.set_cons_zero, List.set_cons_succ])
  refine mix_step (o := ⟨_, _, _, _, _, _⟩) rfl (fun K hK2 => ?_)
  go_simp
  refine (Code_err lc _ HLC.out).mono ?_
  rintro e w17 ⟨rfl, rfl⟩
  refine hK2.out _ _ hb16' ?_
  clear hK2 K
  try simp only [Act.put, List.setIfInBounds_toArray, List.set_cons_zero, List.set_cons_succ]
  iterate 8
    (refine mix_read (o := ⟨_, _, _, _, _, _⟩) (v := ?_) rfl (by rfl) (fun w' hS => ?_) ?_
     rotate_left
     obtain ⟨j0, j1, j2, j3, j4⟩ := hcl w' hS
     go_simp
     with_reducible rfl
     try simp only [Act.put, List.setIfInBounds_toArray, List.set_cons_zero, List.set_cons_succ])
  refine mix_step (o := ⟨_, _, _, _, _, _⟩) rfl (fun K hK2 => ?_)
  go_simp
  refine (hcalls _ hb16').mono ?_
  rintro e w18 ⟨rfl, rfl⟩
  refine hK2.out _ _ hb16' ?_
  clear hK2 K
  try simp only [Act.put, List.setIfInBounds_toArray, List.set_cons_zero, List.set_cons_succ]
  iterate 3
    (refine mix_read (o := ⟨_, _, _, _, _, _⟩) (v := ?_) rfl (by rfl) (fun w' hS => ?_) ?_
     rotate_left
     obtain ⟨j0, j1, j2, j3, j4⟩ := hcl w' hS
     go_simp
     with_reducible rfl
     try simp only [Act.put, List.setIfInBounds_toArray, List.set_cons_zero, List.set_cons_succ])
  refine mix_done ?_
  have HBE := Lib.hid (HFIN.out _ (HW13.out.below.trans (hb16'.mono HW13.out.below.size)))
  clear hcl hb14 hb15 hb15' hb16 hb16' hME hMK hcalls hB10 hB12 hD13 hG13
  go_wp2_with fail
  go_ret
  exact ⟨by simp, HBE.out⟩

end Go.Proofs.YtmlemclehfdneaaGreatDoor
